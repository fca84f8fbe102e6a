/-
  Fill of package slots, by contract. Conditions: the ring is one that the call made itself; the events lie where they lay.
-/
import Derived.Test.YtnimmkgdgdhkfaaSlots6
import Derived.Test.YtnimmkgdgdhkfaaShut
namespace Go.Proofs.Ytnimmkgdgdhkfaa
open Go.RowKit

/-- The events put one behind the other. -/
def fillN (xs : List Ev) (k : Nat) (lo : Int) (es : Nat → Ev) : Nat → List Ev
  | 0 => xs
  | m + 1 => (fillN xs k lo es m).set ((lo + m) % two k).toNat (es m)
theorem fillN_len (xs : List Ev) (k : Nat) (lo : Int) (es : Nat → Ev) (m : Nat) : (fillN xs k lo es m).length = xs.length := by
  induction m with
  | zero => rfl
  | succ m ih => rw [fillN, List.length_set, ih]
theorem fillN_get (xs : List Ev) (k : Nat) (lo : Int) (es : Nat → Ev) (hl : (xs.length : Int) = two k) (m j : Nat) (h1 : j < m) (h2 : (m : Int) - j ≤ two k) : (fillN xs k lo es m)[((lo + j) % two k).toNat]? = some (es j) := by
  have h0 := two_pos k
  induction m with
  | zero => omega
  | succ m ih =>
    have e1 := Int.emod_nonneg (lo + j) (show two k ≠ 0 by omega)
    have e2 := Int.emod_lt_of_pos (lo + j) h0
    have e3 := Int.emod_nonneg (lo + m) (show two k ≠ 0 by omega)
    have e4 := Int.emod_lt_of_pos (lo + m) h0
    rw [fillN, List.getElem?_set]
    by_cases hj : j = m
    · subst hj
      rw [if_pos rfl, if_pos (by rw [fillN_len]; omega)]
    · rw [if_neg]
      · exact ih (by omega) (by omega)
      · intro he
        have h3 : (lo + m) % two k = (lo + j) % two k := by omega
        have h4 : two k ∣ (lo + m) - (lo + j) := Int.dvd_of_emod_eq_zero (Int.emod_eq_emod_iff_emod_sub_eq_zero.1 h3)
        have h5 := Int.le_of_dvd (by omega) h4
        omega

theorem fill_nil (seq : Int) (v : Value) (W : World) :
    Calls Try.prog 45 #[.pointer none, .int .i64 seq, v] W fun e w' => ∃ E, e = .returned (.tuple #[.int .i64 0, E]) ∧ Refused W w' E 2 := by
  go_enter Try.func45, Try.ntmps45
  go_wp2_with (go_at_call 64; refine (rcheck_nil _ _ _).mono ?_; rintro e w' ⟨E, rfl, q, rfl, hr1, hr2⟩; have HR := Lib.hid (show Refused W w' _ 2 from ⟨q, rfl, hr1, hr2⟩); clear hr1 hr2)
  go_ret2
  exact ⟨_, rfl, HR.out⟩
theorem fill_bad (seq : Int) (v : Value) (W : World) (b g c k : Nat) (xs : List Ev) (h : Rg W b g c k xs) (hs : seq < 0 ∨ 4611686018427387904 < seq) :
    Calls Try.prog 45 #[.pointer (some ⟨b, 0, none⟩), .int .i64 seq, v] W fun e w' => ∃ E, e = .returned (.tuple #[.int .i64 0, E]) ∧ Refused W w' E 5 := by
  have H := Lib.hid h
  have HS := Lib.hid hs
  clear h hs
  go_enter Try.func45, Try.ntmps45
  go_wp2_with (go_at_call 64; refine (rcheck_bad _ _ _ b g c k xs H.out HS.out).mono ?_; rintro e w' ⟨E, rfl, q, rfl, hr1, hr2⟩; have HR := Lib.hid (show Refused W w' _ 5 from ⟨q, rfl, hr1, hr2⟩); clear hr1 hr2)
  go_ret2
  exact ⟨_, rfl, HR.out⟩
theorem fill_many (seq : Int) (p : Option Addr) (n cp : Nat) (W : World) (b g c k : Nat) (xs : List Ev) (h : Rg W b g c k xs) (h0 : 0 ≤ seq) (h1 : seq ≤ 4611686018427387904) (hm : 4611686018427387904 - seq < (n : Int)) :
    Calls Try.prog 45 #[.pointer (some ⟨b, 0, none⟩), .int .i64 seq, .slice p n cp] W fun e w' => ∃ E, e = .returned (.tuple #[.int .i64 0, E]) ∧ Refused W w' E 15 := by
  have H := Lib.hid h
  clear h
  go_enter Try.func45, Try.ntmps45
  go_wp2_with (first
    | (go_at_call 64; refine (rcheck_ok _ _ _ b g c k xs H.out h0 h1).mono ?_; rintro e w' ⟨rfl, rfl⟩)
    | (go_at_call 56; refine (wrap_iface _ _ _ _).mono ?_; rintro e w' ⟨rfl, hw⟩; have HR := Lib.hid (refused_of hw); clear hw))
  go_ret2
  exact ⟨_, rfl, HR.out⟩

set_option maxHeartbeats 2000000 in
theorem fill_ok {W0 W : World} {b g c k : Nat} {xs : List Ev} (h : MineR W0 W b g c k xs) (lo : Int) (v : Value) (n : Nat) (fld : Nat → Nat → Int) (hv : OpsAt W0 v n 2 fld) (h0 : 0 ≤ lo) (h1 : lo ≤ 4611686018427387904) (hm : (n : Int) ≤ 4611686018427387904 - lo) :
    Calls Try.prog 45 #[.pointer (some ⟨b, 0, none⟩), .int .i64 lo, v] W fun e w' => e = .returned (.tuple #[.int .i64 (min (n : Int) (two k)), .nilIface]) ∧ MineR W0 w' b g c k (fillN xs k lo (fun j => (fld j 0, fld j 1)) n) := by
  obtain ⟨p, cap, rfl, hn, hc⟩ := hv
  have HC := Lib.hid hc
  have HM := Lib.hid h
  have hk := h.1.2.2.2
  unfold maxLen at hn
  have dm : decide (4611686018427387904 - lo < (n : Int)) = false := decide_eq_false (by omega)
  clear hc h
  go_enter Try.func45, Try.ntmps45
  go_wp2_with (go_at_call 64; refine (rcheck_ok _ _ _ b g c k xs HM.out.1 h0 h1).mono ?_; rintro e w' ⟨rfl, rfl⟩)
  go_loopw [29] (fun i wl => ∃ j : Nat, j ≤ n ∧ i = .int .i64 j ∧ Hid (MineR W0 wl b g c k (fillN xs k lo (fun j => (fld j 0, fld j 1)) j))) (fun i _ => n - (intOf i).toNat)
  case atStart => exact ⟨0, Nat.zero_le _, rfl, HM⟩
  case round =>
    obtain ⟨j, hj, rfl, HJ⟩ := hrel
    by_cases hlt : j < n
    · obtain ⟨pb, off, rfl, hcell⟩ := HC.out.resolve_left (by omega)
      have q0 := keepc HJ.out.2.1 (hcell j hlt 0 (by decide)).1
      have q1 := keepc HJ.out.2.1 (hcell j hlt 1 (by decide)).1
      simp only [Nat.add_zero] at q0
      clear hcell
      have dj : decide ((0 : Int) ≤ (j : Int)) = true := decide_eq_true (by omega)
      obtain ⟨i, hi, hil, _⟩ := HJ.out.1.slot (lo + j)
      have hb2 : Below wr.heap.size wr (wr.alloc (.cells #[.int .i64 (fld j 0), .int .i64 (fld j 1)] 67)) := (Below.refl _ wr).alloc (Nat.le_refl _) _
      have HM2 := Lib.hid (HJ.out.keep hb2)
      have n0 : ∀ x1 : Later (wr.alloc (.cells #[.int .i64 (fld j 0), .int .i64 (fld j 1)] 67)), x1.to.cell? ⟨wr.heap.size, 0, none⟩ = some (.int .i64 (fld j 0)) := fun x1 => keepc x1.below ((obj_cell (obj_new wr _) 0).trans rfl)
      have n1 : ∀ x1 : Later (wr.alloc (.cells #[.int .i64 (fld j 0), .int .i64 (fld j 1)] 67)), x1.to.cell? ⟨wr.heap.size, 1, none⟩ = some (.int .i64 (fld j 1)) := fun x1 => keepc x1.below ((obj_cell (obj_new wr _) 1).trans rfl)
      have hlen : xs.length = (fillN xs k lo (fun j => (fld j 0, fld j 1)) j).length := (fillN_len _ _ _ _ _).symm
      have HI := Lib.hid (show (lo + j) % two k = i ∧ i < (fillN xs k lo (fun j => (fld j 0, fld j 1)) j).length from ⟨hi, hil⟩)
      have HX : Hid ((fillN xs k lo (fun j => (fld j 0, fld j 1)) j).set i (fld j 0, fld j 1) = fillN xs k lo (fun j => (fld j 0, fld j 1)) (j + 1)) := Lib.hid (by rw [fillN, hi]; rfl)
      have w64 : IntKind.i64.wrap (lo + (j : Int)) = lo + (j : Int) := IntWalk.i64_in _ (by omega)
      have W64 := Lib.hid w64
      clear hi hil hb2 hlen w64
      go_wp2_with fail
      generalize wr.alloc (.cells #[.int .i64 (fld j 0), .int .i64 (fld j 1)] 67) = w2 at *
      generalize wr.heap.size = ob at *
      have HS1 : Hid (∀ x1 : Later w2, Calls Try.prog 65 #[.pointer (some ⟨b, 0, none⟩), .int .i64 (lo + (j : Int))] x1.to fun e w'' => e = .returned (.pointer (some ⟨g, i * 2, none⟩)) ∧ ∃ y1 : Later w2, w'' = y1.to) :=
        fun x1 => (rslot_some (lo + (j : Int)) _ b g c k _ (HM2.out.1.keepB x1.below) i HI.out.1 HI.out.2).mono fun e w h => ⟨h.1, ⟨w, bthen x1.below h.2⟩, rfl⟩
      have w64 := W64.out
      refine wp_region_later_tail 7 (by kernel_rfl) (by kernel_rfl) ?_
      simp only [List.take_succ_cons, List.take_zero, List.drop_succ_cons, List.drop_zero]
      repeat (go_big_quiet_step ((go_at_call 65; exact HS1.out _)))
      refine wpQuiet_nil ?_
      intro w3 hw'
      obtain ⟨⟨w3', hb3⟩, hw3⟩ := hw'
      obtain rfl : w3 = w3' := hw3
      have HM3 := Lib.hid (HM2.out.keep hb3)
      obtain ⟨u0, u1, hc0, hc1, hf⟩ := HM3.out.1.spot HI.out.2
      clear n0 n1 hb3 w64
      go_wp2
      have HE := Lib.hid (HM3.out.set' HI.out.2 (fld j 0, fld j 1))
      exact ⟨⟨j + 1, by omega, by go_num, Lib.hid (HX.out ▸ HE.out)⟩, by simp [intOf]; omega⟩
    · obtain rfl : j = n := by omega
      have c0 := HJ.out.1.c0
      go_wp2_with (go_at_call 18; refine (slots_any k hk _).mono ?_; rintro e w3 ⟨rfl, hw⟩; have HM3 := Lib.hid (HJ.out.keep (slots_below hw)); clear hw)
      all_goals go_ret2
      all_goals exact ⟨congrArg (fun x => Ending.returned (.tuple #[.int .i64 x, .nilIface])) (by omega), HM3.out⟩
end Go.Proofs.Ytnimmkgdgdhkfaa
