/-
  Highest and Show of package avail, by contract. Conditions: the arena has all of the buffer's cells; fewer than 2^61 steps.
-/
import Derived.Test.YteinfkcnengmeaaAv3
namespace Go.Proofs.Yteinfkcnengmeaa
open Go.RowKit
section
variable {R : Rest}

theorem hi_nilA (p : Option Addr) (lo hi : Int) (W : World) :
    Calls Try.prog 39 #[.pointer p, .pointer none, .int .i64 lo, .int .i64 hi] W fun e w' => ∃ E, e = .returned (.tuple #[.int .i64 0, E]) ∧ Refused W w' E 2 := by
  go_enter Try.func39, Try.ntmps39
  go_wp2_with (go_at_call 88; refine (acheck_nilA _ _ _ _).mono ?_; rintro e w' ⟨E, rfl, q', rfl, hr1, hr2⟩; have HR := Lib.hid (show Refused W w' _ 2 from ⟨q', rfl, hr1, hr2⟩); clear hr1 hr2)
  go_ret2
  exact ⟨_, rfl, HR.out⟩
theorem hi_nilB (b : Nat) (lo hi : Int) (W : World) :
    Calls Try.prog 39 #[.pointer none, .pointer (some ⟨b, 0, none⟩), .int .i64 lo, .int .i64 hi] W fun e w' => ∃ E, e = .returned (.tuple #[.int .i64 0, E]) ∧ Refused W w' E 2 := by
  go_enter Try.func39, Try.ntmps39
  go_wp2_with (go_at_call 88; refine (acheck_nilB _ _ _ _).mono ?_; rintro e w' ⟨E, rfl, q', rfl, hr1, hr2⟩; have HR := Lib.hid (show Refused W w' _ 2 from ⟨q', rfl, hr1, hr2⟩); clear hr1 hr2)
  go_ret2
  exact ⟨_, rfl, HR.out⟩
theorem hi_bad (b q : Nat) (lo hi : Int) (W : World) (hs : lo < 0 ∨ 4611686018427387904 < lo) :
    Calls Try.prog 39 #[.pointer (some ⟨q, 0, none⟩), .pointer (some ⟨b, 0, none⟩), .int .i64 lo, .int .i64 hi] W fun e w' => ∃ E, e = .returned (.tuple #[.int .i64 0, E]) ∧ Refused W w' E 5 := by
  have HS := Lib.hid hs
  clear hs
  go_enter Try.func39, Try.ntmps39
  go_wp2_with (go_at_call 88; refine (acheck_bad _ _ _ _ _ HS.out).mono ?_; rintro e w' ⟨E, rfl, q', rfl, hr1, hr2⟩; have HR := Lib.hid (show Refused W w' _ 5 from ⟨q', rfl, hr1, hr2⟩); clear hr1 hr2)
  go_ret2
  exact ⟨_, rfl, HR.out⟩
theorem hi_arg (b q : Nat) (lo hi : Int) (W : World) (h0 : 0 ≤ lo) (h1 : lo ≤ 4611686018427387904) (h2 : 4611686018427387904 < hi) :
    Calls Try.prog 39 #[.pointer (some ⟨q, 0, none⟩), .pointer (some ⟨b, 0, none⟩), .int .i64 lo, .int .i64 hi] W fun e w' => ∃ E, e = .returned (.tuple #[.int .i64 0, E]) ∧ Refused W w' E 1 := by
  go_enter Try.func39, Try.ntmps39
  go_wp2_with (first
    | (go_at_call 88; refine (acheck_ok _ _ _ _ _ h0 h1).mono ?_; rintro e w' ⟨rfl, rfl⟩)
    | (go_at_call 77; refine (wrap_iface _ _ _ _).mono ?_; rintro e w' ⟨rfl, hw⟩; have HR := Lib.hid (refused_of hw); clear hw))
  go_ret2
  exact ⟨_, rfl, HR.out⟩

set_option maxHeartbeats 1000000 in
theorem hi_ok {W0 W : World} {b q f k : Nat} {xs : List Int} {st : Int} (h : Av R W0 W b q f k xs st) (lo hi : Int) (hl0 : 0 ≤ lo) (hl1 : lo ≤ 4611686018427387904) (hh0 : -9223372036854775808 ≤ hi) (hh : hi ≤ 4611686018427387904) (hl : f + two k ≤ (xs.length : Int)) (h0 : 0 ≤ st) (h1 : st < 2305843009213693952) :
    Calls Try.prog 39 #[.pointer (some ⟨q, 0, none⟩), .pointer (some ⟨b, 0, none⟩), .int .i64 lo, .int .i64 hi] W fun e w' => Told R W0 w' b q f k xs st lo hi e := by
  obtain ⟨n, hn⟩ : ∃ n : Nat, (n : Int) = two k := ⟨(two k).toNat, by have := two_pos k; omega⟩
  have HE : Hid (Calls Try.prog 87 #[.pointer (some ⟨q, 0, none⟩)] W fun e w' => e = .returned (.int .i64 ((f + n : Nat) : Int)) ∧ Below W.heap.size W w') := Lib.hid (end_some W q f k h.bf n hn)
  have HLN : Hid (∀ w, Av R W0 w b q f k xs st → Calls Try.prog 26 #[.pointer (some ⟨b, 0, none⟩)] w fun e w' => e = .returned (.int .i64 xs.length) ∧ w = w') := Lib.hid fun w h => len_v h
  have HW : Hid (∀ w, Av R W0 w b q f k xs st → Calls Try.prog 91 #[.pointer (some ⟨q, 0, none⟩), .pointer (some ⟨b, 0, none⟩), .int .i64 lo, .int .i64 hi] w fun e w' => Told R W0 w' b q f k xs st lo hi e) := Lib.hid fun w h => walk_some h lo hi hl0 hl1 hh0 hh hl h0 h1
  have H := Lib.hid h
  have hle : f + n ≤ xs.length := by omega
  generalize f + n = fn at *
  generalize xs.length = ln at *
  clear h hl hn
  go_enter Try.func39, Try.ntmps39
  go_wp2_with (first
    | (go_at_call 88; refine (acheck_ok _ _ _ _ _ hl0 hl1).mono ?_; rintro e w' ⟨rfl, rfl⟩)
    | (go_at_call 87; refine HE.out.mono ?_; rintro e w2 ⟨rfl, hb⟩; have H2 := Lib.hid (H.out.keep hb); clear hb)
    | (go_at_call 26; refine (HLN.out _ H2.out).mono ?_; rintro e w3 ⟨rfl, rfl⟩)
    | (go_at_call 91; refine (HW.out _ H2.out).mono ?_; rintro e w4 ⟨j, st', ht1, rfl, ht2⟩; have HT := Lib.hid (show RunTo (shownB xs f k) lo hi j ∧ _ from ⟨ht1, ht2⟩); clear ht1 ht2))
  go_ret2
  exact ⟨j, st', HT.out.1, rfl, HT.out.2⟩

/-- Indexes shown one behind the other. -/
def showN (xs : List Int) (f k : Nat) (lo : Int) : Nat → List Int
  | 0 => xs
  | m + 1 => (showN xs f k lo m).set (f + ((lo + m) % two k).toNat) ((lo + m) / two k)
theorem showN_len (xs : List Int) (f k : Nat) (lo : Int) (m : Nat) : (showN xs f k lo m).length = xs.length := by
  induction m with
  | zero => rfl
  | succ m ih => rw [showN, List.length_set, ih]

theorem show_nilB (b : Nat) (lo hi : Int) (W : World) :
    Calls Try.prog 35 #[.pointer none, .pointer (some ⟨b, 0, none⟩), .int .i64 lo, .int .i64 hi] W fun e w' => ∃ E, e = .returned E ∧ Refused W w' E 2 := by
  go_enter Try.func35, Try.ntmps35
  go_wp2_with (go_at_call 88; refine (acheck_nilB _ _ _ _).mono ?_; rintro e w' ⟨E, rfl, q', rfl, hr1, hr2⟩; have HR := Lib.hid (show Refused W w' _ 2 from ⟨q', rfl, hr1, hr2⟩); clear hr1 hr2)
  go_ret
  exact ⟨_, rfl, HR.out⟩
theorem show_bad (b q : Nat) (lo hi : Int) (W : World) (hs : lo < 0 ∨ 4611686018427387904 < lo) :
    Calls Try.prog 35 #[.pointer (some ⟨q, 0, none⟩), .pointer (some ⟨b, 0, none⟩), .int .i64 lo, .int .i64 hi] W fun e w' => ∃ E, e = .returned E ∧ Refused W w' E 5 := by
  have HS := Lib.hid hs
  clear hs
  go_enter Try.func35, Try.ntmps35
  go_wp2_with (go_at_call 88; refine (acheck_bad _ _ _ _ _ HS.out).mono ?_; rintro e w' ⟨E, rfl, q', rfl, hr1, hr2⟩; have HR := Lib.hid (show Refused W w' _ 5 from ⟨q', rfl, hr1, hr2⟩); clear hr1 hr2)
  go_ret
  exact ⟨_, rfl, HR.out⟩
theorem show_arg (b q f k : Nat) (lo hi : Int) (W : World) (h : Bf W q f k) (h0 : 0 ≤ lo) (h1 : lo ≤ 4611686018427387904) (hw : -9223372036854775808 ≤ hi ∧ hi ≤ 9223372036854775807) (hs : hi < lo ∨ 4611686018427387904 < hi ∨ two k ≤ hi - lo) :
    Calls Try.prog 35 #[.pointer (some ⟨q, 0, none⟩), .pointer (some ⟨b, 0, none⟩), .int .i64 lo, .int .i64 hi] W fun e w' => ∃ E, e = .returned E ∧ Refused W w' E 1 := by
  have c1 := h.c1
  have hk := h.2.1
  obtain ⟨hw1, hw2⟩ := hw
  clear h
  by_cases g1 : hi < lo
  · clear hs
    go_enter Try.func35, Try.ntmps35
    go_wp2_with (first
      | (go_at_call 88; refine (acheck_ok _ _ _ _ _ h0 h1).mono ?_; rintro e w' ⟨rfl, rfl⟩)
      | (go_at_call 77; refine (wrap_iface _ _ _ _).mono ?_; rintro e w' ⟨rfl, hw⟩; have HR := Lib.hid (refused_of hw); clear hw))
    go_ret
    exact ⟨_, rfl, HR.out⟩
  · by_cases g2 : two k ≤ hi - lo
    · clear hs
      go_enter Try.func35, Try.ntmps35
      go_wp2_with (first
        | (go_at_call 88; refine (acheck_ok _ _ _ _ _ h0 h1).mono ?_; rintro e w' ⟨rfl, rfl⟩)
        | (go_at_call 18; refine (slots_any k hk _).mono ?_; rintro e w3 ⟨rfl, hw⟩; have HB := Lib.hid (slots_below hw); clear hw)
        | (go_at_call 77; refine (wrap_iface _ _ _ _).mono ?_; rintro e w' ⟨rfl, hw⟩; have HR := Lib.hid ((refused_of hw).after HB.out); clear hw))
      go_ret
      exact ⟨_, rfl, HR.out⟩
    · have g3 : 4611686018427387904 < hi := by omega
      clear hs
      go_enter Try.func35, Try.ntmps35
      go_wp2_with (first
        | (go_at_call 88; refine (acheck_ok _ _ _ _ _ h0 h1).mono ?_; rintro e w' ⟨rfl, rfl⟩)
        | (go_at_call 18; refine (slots_any k hk _).mono ?_; rintro e w3 ⟨rfl, hw⟩; have HB := Lib.hid (slots_below hw); clear hw)
        | (go_at_call 77; refine (wrap_iface _ _ _ _).mono ?_; rintro e w' ⟨rfl, hw⟩; have HR := Lib.hid ((refused_of hw).after HB.out); clear hw))
      go_ret
      exact ⟨_, rfl, HR.out⟩

set_option maxRecDepth 100000 in
set_option maxHeartbeats 2000000 in
theorem show_ok {W0 W : World} {b q f k : Nat} {xs : List Int} {st : Int} (h : Av R W0 W b q f k xs st) (lo hi : Int) (hl0 : 0 ≤ lo) (hlh : lo ≤ hi) (hh : hi ≤ 4611686018427387904) (hd : hi - lo < two k) (m : Nat) (hm : hi - lo + 1 = m) (hl : f + two k ≤ (xs.length : Int)) (h0 : 0 ≤ st) (h1 : st < 2305843009213693952) :
    Calls Try.prog 35 #[.pointer (some ⟨q, 0, none⟩), .pointer (some ⟨b, 0, none⟩), .int .i64 lo, .int .i64 hi] W fun e w' => e = .returned .nilIface ∧ Av R W0 w' b q f k (showN xs f k lo m) (st + m) := by
  obtain ⟨n, hn⟩ : ∃ n : Nat, (n : Int) = two k := ⟨(two k).toNat, by have := two_pos k; omega⟩
  have HN := Lib.hid hn
  have H := Lib.hid h
  have c1 := h.bf.c1
  have hk := h.bf.2.1
  have ht := two_le hk
  have HM := Lib.hid hm
  have HL := Lib.hid hl
  have d1 : decide (two k ≤ hi - lo) = false := decide_eq_false (by omega)
  have d2 : decide (4611686018427387904 < hi) = false := decide_eq_false (by omega)
  have d3 : decide (hi < lo) = false := decide_eq_false (by omega)
  clear h hm hl hn
  go_enter Try.func35, Try.ntmps35
  go_wp2_with (first
    | (go_at_call 88; refine (acheck_ok _ _ _ _ _ hl0 (by omega)).mono ?_; rintro e w' ⟨rfl, rfl⟩)
    | (go_at_call 18; refine (slots_any k hk _).mono ?_; rintro e w3 ⟨rfl, hw⟩; have H3 := Lib.hid (H.out.keep (slots_below hw)); clear hw)
    | (go_at_call 89; refine (last_some lo hi _ q f k H3.out.bf n HN.out).mono ?_; rintro e w4 ⟨c, rfl, hc, hb⟩; have H4 := Lib.hid (H3.out.keep hb); have hcl : decide ((xs.length : Int) ≤ c) = false := decide_eq_false (by have := HL.out; have := HN.out; omega); clear hb hc)
    | (go_at_call 26; refine (len_v H4.out).mono ?_; rintro e w5 ⟨rfl, rfl⟩))
  go_loopw [10] (fun i wl => ∃ j : Nat, j ≤ m ∧ i = .int .i64 (lo + j) ∧ Hid (Av R W0 wl b q f k (showN xs f k lo j) (st + j))) (fun i _ => (hi + 1 - intOf i).toNat)
  case atStart => exact ⟨0, Nat.zero_le _, by simp, by simpa [showN] using H4⟩
  case round =>
    obtain ⟨j, hj, rfl, HJ⟩ := hrel
    have hmm : (m : Int) ≤ two k := by have := HM.out; omega
    by_cases hlt : j < m
    · have hle : lo + (j : Int) ≤ hi := by have := HM.out; omega
      obtain ⟨i, hi', hil⟩ := mod_nat k (lo + j)
      have HI := Lib.hid hi'
      have HX : Hid ((showN xs f k lo j).set (f + i) ((lo + j) / two k) = showN xs f k lo (j + 1)) := Lib.hid (by rw [showN, hi']; rfl)
      have HLT : Hid (f + i < (showN xs f k lo j).length) := Lib.hid (by rw [showN_len]; have := HL.out; omega)
      clear hi' hil
      go_wp2_with (first
        | (go_at_call 37; refine (cell_some (lo + j) _ q f k HJ.out.bf i HI.out).mono ?_; rintro e w5 ⟨rfl, hb⟩; have H5 := Lib.hid (HJ.out.keep hb); clear hb)
        | (go_at_call 38; refine (rd_some (lo + j) _ q f k H5.out.bf).mono ?_; rintro e w6 ⟨rfl, hb⟩; have H6 := Lib.hid (H5.out.keep hb); clear hb)
        | (go_at_call 30; refine (store_v H6.out (f + i) _ HLT.out (by omega) (by omega)).mono ?_; rintro e w7 ⟨rfl, hh⟩; rw [HX.out] at hh; have H7 := Lib.hid hh; clear hh))
      exact ⟨⟨j + 1, by omega, by go_num, by rw [show st + ((j + 1 : Nat) : Int) = st + j + 1 by omega]; exact H7⟩, by simp [intOf]; omega⟩
    · obtain rfl : j = m := by omega
      have hgt : ¬ lo + (j : Int) ≤ hi := by have := HM.out; omega
      go_wp2
      go_ret
      exact ⟨rfl, HJ.out⟩
end
end Go.Proofs.Yteinfkcnengmeaa
