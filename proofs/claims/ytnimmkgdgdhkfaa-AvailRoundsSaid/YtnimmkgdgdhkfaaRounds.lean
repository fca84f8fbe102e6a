/-
  AvailRounds' walk. No condition but that its arguments are of their kinds.
-/
import Derived.Test.YtnimmkgdgdhkfaaAvail5
import Derived.Test.YtnimmkgdgdhkfaaPost
import Derived.Deep.DeepCutAuto
import Derived.Deep.CutBlock
namespace Go.Proofs.Ytnimmkgdgdhkfaa
open Go.RowKit

/-- A cell by its index. -/
theorem shownB_at {xs : List Int} {f k : Nat} {s x : Int} {i : Nat} (hi : s % two k = i) (hx : xs[f + i]? = some x) : shownB xs f k s = (x == s / two k) := by
  unfold shownB
  rw [hi]
  simp [List.getD, hx]
theorem same_slot {k : Nat} {s t : Int} (h : s % two k = t % two k) (hlt : s < t) : s / two k < t / two k ∧ s + two k ≤ t := by
  have h0 := two_pos k
  have e1 := Int.emod_add_mul_ediv s (two k)
  have e2 := Int.emod_add_mul_ediv t (two k)
  have h4 : two k ∣ t - s := Int.dvd_of_emod_eq_zero (Int.emod_eq_emod_iff_emod_sub_eq_zero.1 h.symm)
  have h5 := Int.le_of_dvd (by omega) h4
  refine ⟨?_, by omega⟩
  have : s / two k + 1 ≤ t / two k := by
    rw [show s / two k + 1 = (s + two k) / two k by rw [Int.add_ediv_of_dvd_right (Int.dvd_refl _), Int.ediv_self (by omega)]]
    exact Int.ediv_le_ediv h0 (by omega)
  omega

/-- What is shown stays so till its slot's next index is shown. -/
theorem showN_get (xs : List Int) (f k : Nat) (lo : Int) (hl : f + two k ≤ (xs.length : Int)) (m j : Nat) (h1 : j < m) (h2 : (m : Int) - j ≤ two k) : shownB (showN xs f k lo m) f k (lo + j) = true := by
  induction m with
  | zero => omega
  | succ m ih =>
    obtain ⟨i, hi, hil⟩ := mod_nat k (lo + j)
    by_cases hj : j = m
    · subst hj
      rw [shownB_at hi (x := (lo + j) / two k) (by rw [showN, hi]; simp [List.getElem?_set, showN_len]; omega)]
      simp
    · have := ih (by omega) (by omega)
      obtain ⟨i2, hi2, hil2⟩ := mod_nat k (lo + m)
      have hne : i2 ≠ i := by
        intro e
        have := (same_slot (k := k) (s := lo + j) (t := lo + m) (by rw [hi, hi2, e]) (by omega)).2
        omega
      obtain ⟨x, hx⟩ : ∃ x, (showN xs f k lo m)[f + i]? = some x := ⟨_, List.getElem?_eq_getElem (by rw [showN_len]; omega)⟩
      rw [shownB_at hi hx] at this
      rw [shownB_at hi (x := x) (by rw [showN, hi2]; simp only [Int.toNat_natCast]; rw [List.getElem?_set_ne (by omega)]; exact hx)]
      exact this
/-- What lies ahead isn't shown. -/
theorem showN_ahead (n f k : Nat) (lo : Int) (hn : (n : Int) = two k) (h0 : 0 ≤ lo) (xs : List Int) (hx : ∀ i, i < n → xs[f + i]? = some (-1)) (m : Nat) (s : Int) (hs : lo + m ≤ s) (i : Nat) (hi : s % two k = i) :
    ∃ x, (showN xs f k lo m)[f + i]? = some x ∧ x < s / two k := by
  have h1 := two_pos k
  have hil := Int.emod_lt_of_pos s h1
  induction m with
  | zero => exact ⟨-1, hx i (by omega), by have := Int.ediv_nonneg (show 0 ≤ s by omega) (show 0 ≤ two k by omega); omega⟩
  | succ m ih =>
    obtain ⟨x, hx, hlt⟩ := ih (by omega)
    obtain ⟨i2, hi2, hil2⟩ := mod_nat k (lo + m)
    by_cases e : i2 = i
    · subst e
      refine ⟨(lo + m) / two k, ?_, (same_slot (by rw [hi, hi2]) (by omega)).1⟩
      have : f + i2 < (showN xs f k lo m).length := by
        rcases Nat.lt_or_ge (f + i2) (showN xs f k lo m).length with h | h
        · exact h
        · rw [List.getElem?_eq_none h] at hx; cases hx
      rw [showN, hi2]
      simp only [Int.toNat_natCast]
      rw [List.getElem?_set_self this]
    · refine ⟨x, ?_, hlt⟩
      rw [showN, hi2]
      simp only [Int.toNat_natCast]
      rw [List.getElem?_set_ne (by omega)]
      exact hx
theorem showN_not (n f k : Nat) (lo : Int) (hn : (n : Int) = two k) (h0 : 0 ≤ lo) (xs : List Int) (hx : ∀ i, i < n → xs[f + i]? = some (-1)) (m : Nat) (s : Int) (hs : lo + m ≤ s) : shownB (showN xs f k lo m) f k s = false := by
  obtain ⟨i, hi, _⟩ := mod_nat k s
  obtain ⟨x, h1, h2⟩ := showN_ahead n f k lo hn h0 xs hx m s hs i hi
  rw [shownB_at hi h1, beq_eq_false_iff_ne]
  omega
theorem showN_before (f k : Nat) (lo : Int) (xs : List Int) (hl : f + two k ≤ (xs.length : Int)) (m : Nat) : shownB (showN xs f k lo (m + 1)) f k (lo + m - two k) = false := by
  have h0 := two_pos k
  obtain ⟨i, hi, hil⟩ := mod_nat k (lo + m)
  have hi' : (lo + m - two k) % two k = i := by rw [Int.sub_emod_right]; exact hi
  rw [shownB_at hi' (x := (lo + m) / two k) (by rw [showN, hi]; simp [List.getElem?_set, showN_len]; omega), beq_eq_false_iff_ne]
  have := (same_slot (k := k) (s := lo + m - two k) (t := lo + m) (by rw [hi', hi]) (by omega)).1
  omega
theorem show_next (xs : List Int) (f k : Nat) (lo : Int) (m : Nat) : (showN xs f k lo m).set (f + ((lo + m) % two k).toNat) ((lo + m) / two k) = showN xs f k lo (m + 1) := rfl
theorem row_neg (n : Nat) : ∀ i, i < n → (([] : List Int) ++ List.replicate n (-1))[0 + i]? = some (-1) := by
  intro i hi
  simp [hi]

/-- Behind the rounds all are shown up to the last one. -/
theorem rounds_end {W w : World} {ab q k n m : Nat} {X : List Int} {lo st : Int} (h : Av R0 W w ab q 0 k (showN X 0 k lo m) st) (hn : (n : Int) = two k) (hXl : (0 : Nat) + two k ≤ (X.length : Int)) (hXn : ∀ i, i < n → X[0 + i]? = some (-1)) (hl0 : 0 ≤ lo) (hl1 : lo ≤ 4294967295) (hm : m ≤ 255) (h0 : 0 ≤ st) (h1 : st ≤ 1000) :
    Calls Try.prog 52 #[.pointer (some ⟨q, 0, none⟩), .pointer (some ⟨ab, 0, none⟩), .int .i64 (max lo (lo + (m : Int) - two k)), .int .i64 (lo + (m : Int) + 5)] w fun e w' => e = .returned (.tuple #[.int .i64 (lo + (m : Int) - 1), .nilIface]) ∧ Below W.heap.size W w' := by
  have hk := two_pos k
  obtain ⟨J, hJ⟩ : ∃ J : Nat, lo + (m : Int) - max lo (lo + (m : Int) - two k) = J := ⟨(lo + (m : Int) - max lo (lo + (m : Int) - two k)).toNat, by omega⟩
  have hR : RunTo (shownB (showN X 0 k lo m) 0 k) (max lo (lo + (m : Int) - two k)) (lo + (m : Int) + 5) J := by
    refine ⟨fun i hi => ?_, fun _ => ?_, Or.inr (by omega)⟩
    · have := showN_get X 0 k lo hXl m (m - J + i) (by omega) (by omega)
      rw [show lo + ((m - J + i : Nat) : Int) = max lo (lo + (m : Int) - two k) + i by omega] at this
      exact this
    · exact showN_not n 0 k lo hn hl0 X hXn m _ (by omega)
  refine (hi_ok h _ _ (by omega) (by omega) (by omega) (by omega) (by rw [showN_len]; exact hXl) h0 (by omega)).mono ?_
  rintro e w' ⟨j, st', hr, rfl, ha, _⟩
  have hj : j = J := hr.unique hR fun _ _ _ => rfl
  subst hj
  exact ⟨by rw [show max lo (lo + (m : Int) - two k) + (j : Int) - 1 = lo + m - 1 by omega], ha.below⟩

set_option maxRecDepth 100000 in
set_option maxHeartbeats 4000000 in
theorem rounds_walk (W : World) (sh : Int) (hsh : 0 ≤ sh) (k : Nat) (hs : sh % 5 = k) (hk : k < 5) (lo : Int) (hl0 : 0 ≤ lo) (hl1 : lo ≤ 4294967295) (m : Nat) (hm : m ≤ 255) :
    Calls Try.prog 12 #[.int .u8 sh, .int .u32 lo, .int .u8 m] W fun e w' => e = .returned (.bool true) ∧ Below W.heap.size W w' := by
  have ht : sh.tmod 5 = (k : Int) := by rw [Int.tmod_eq_emod_of_nonneg hsh]; exact hs
  have wt := wrap_two k (by omega)
  have hk20 : k ≤ 20 := by omega
  obtain ⟨n, hn⟩ : ∃ n : Nat, (n : Int) = two k := ⟨(two k).toNat, by have := two_pos k; omega⟩
  have HN := Lib.hid hn
  have hn1 := two_pos k
  have hn2 : two k ≤ 16 := by
    have : k = 0 ∨ k = 1 ∨ k = 2 ∨ k = 3 ∨ k = 4 := by omega
    rcases this with rfl | rfl | rfl | rfl | rfl <;> decide
  clear hs hn hsh
  go_enter Try.func12, Try.ntmps12
  go_upto_region 3 with (go_at_call 28; refine (new_m _).mono ?_; rintro e w1 ⟨rfl, hm⟩; have HM1 := Lib.hid hm; clear hm)
  rw [wt]
  clear wt ht
  go_wp2_with (first
    | (go_at_call 14; refine (of_yes k hk20 _).mono ?_; rintro e w2 ⟨rfl, hb⟩; have HM2 := Lib.hid (HM1.out.keep (balloc hb (.cells #[.int .u8 k] 23))); clear hb HM1)
    | (go_at_call 48; refine (anew_ok HM2.out k n hk20 HN.out (by simp; have := HN.out; omega)).mono ?_; rintro e w3 ⟨q, rfl, ha, _⟩; have HA3 := Lib.hid ha; clear ha HM2))
  have HX : Hid (∃ X : List Int, (0 : Nat) + two k ≤ (X.length : Int) ∧ (∀ i, i < n → X[0 + i]? = some (-1)) ∧ Av R0 W w3 W.heap.size q 0 k X 0) := Lib.hid ⟨_, by simp; have := HN.out; omega, row_neg n, HA3.out⟩
  obtain ⟨X, hXl, hXn, hA⟩ := HX.out
  have HA := Lib.hid hA
  have HXN := Lib.hid hXn
  clear HA3 HX hXn hA
  generalize W.heap.size = ab at *
  go_loopw [14] (fun i wl => ∃ j : Nat, j ≤ m ∧ i = .int .i64 (lo + j) ∧ Hid (Av R0 W wl ab q 0 k (showN X 0 k lo j) (3 * j))) (fun i _ => (lo + m - intOf i).toNat)
  case atStart => exact ⟨0, Nat.zero_le _, by simp, HA⟩
  case round =>
    obtain ⟨j, hj, rfl, HJ⟩ := hrel
    by_cases hlt : j < m
    · obtain ⟨i, hi, hil⟩ := mod_nat k (lo + j)
      have hi2 : (lo + j + two k) % two k = i := by rw [Int.add_emod_right]; exact hi
      have hR : (lo + j + two k) / two k = (lo + j) / two k + 1 := by rw [Int.add_ediv_of_dvd_right (Int.dvd_refl _), Int.ediv_self (by omega)]
      have hr0 : 0 ≤ (lo + (j : Int)) / two k := Int.ediv_nonneg (by omega) (by omega)
      have hr1 : (lo + (j : Int)) / two k ≤ lo + j := Int.ediv_le_self _ (by omega)
      have hT := showN_get X 0 k lo hXl (j + 1) j (by omega) (by omega)
      have hF := showN_before 0 k lo X hXl j
      have hlen : (0 : Nat) + two k ≤ ((showN X 0 k lo (j + 1)).length : Int) := by rw [showN_len]; exact hXl
      have hlen0 : (0 : Nat) + two k ≤ ((showN X 0 k lo j).length : Int) := by rw [showN_len]; exact hXl
      have HI := Lib.hid (show (lo + (j : Int)) % two k = i ∧ (lo + j + two k) % two k = i ∧ (lo + j + two k) / two k = (lo + j) / two k + 1 ∧ shownB (showN X 0 k lo (j + 1)) 0 k (lo + j) = true ∧ shownB (showN X 0 k lo (j + 1)) 0 k (lo + j - two k) = false ∧ (0 : Nat) + two k ≤ ((showN X 0 k lo (j + 1)).length : Int) ∧ (0 : Nat) + two k ≤ ((showN X 0 k lo j).length : Int) from ⟨hi, hi2, hR, hT, hF, hlen, hlen0⟩)
      have HY := Lib.hid (show_next X 0 k lo j)
      clear hi hi2 hR hT hF hlen hlen0
      have HCELL : Hid (∀ w, Av R0 W w ab q 0 k (showN X 0 k lo (j + 1)) (3 * j + 3) → (Calls Try.prog 54 #[.pointer (some ⟨q, 0, none⟩), .int .i64 (lo + (j : Int))] w fun e w' => e = .returned (.int .i64 ((0 + i : Nat) : Int)) ∧ Below w.heap.size w w') ∧ Calls Try.prog 54 #[.pointer (some ⟨q, 0, none⟩), .int .i64 (lo + (j : Int) + two k)] w fun e w' => e = .returned (.int .i64 ((0 + i : Nat) : Int)) ∧ Below w.heap.size w w') :=
        Lib.hid fun w h => ⟨cell_some _ w q 0 k h.bf i HI.out.1, cell_some _ w q 0 k h.bf i HI.out.2.1⟩
      have HRD : Hid (∀ w, Av R0 W w ab q 0 k (showN X 0 k lo (j + 1)) (3 * j + 3) → (Calls Try.prog 55 #[.pointer (some ⟨q, 0, none⟩), .int .i64 (lo + (j : Int))] w fun e w' => e = .returned (.int .i64 ((lo + (j : Int)) / two k)) ∧ Below w.heap.size w w') ∧ Calls Try.prog 55 #[.pointer (some ⟨q, 0, none⟩), .int .i64 (lo + (j : Int) + two k)] w fun e w' => e = .returned (.int .i64 ((lo + (j : Int)) / two k + 1)) ∧ Below w.heap.size w w') :=
        Lib.hid fun w h => ⟨rd_some _ w q 0 k h.bf, by rw [← HI.out.2.2.1]; exact rd_some _ w q 0 k h.bf⟩
      generalize (lo + (j : Int)) / two k = r at *
      have hLT : lo + (j : Int) < lo + m := by omega
      by_cases hge : two k ≤ lo + (j : Int)
      · go_wp2_with (first
          | (go_at_call 49; refine (show_one HJ.out (lo + j) (by omega) (by omega) HI.out.2.2.2.2.2.2 (by omega) (by omega) _ rfl).mono ?_; rintro e w4 ⟨rfl, ha⟩; have HA4 := Lib.hid (show Av R0 W w4 ab q 0 k (showN X 0 k lo (j + 1)) (3 * j + 1) from ha); clear ha)
          | (go_at_call_of 50 (Value.int .i64 (lo + (j : Int))); refine (is_ok HA4.out (lo + j) (by omega) (by omega) HI.out.2.2.2.2.2.1 (by omega) (by omega)).mono ?_; rintro e w5 ⟨rfl, ha⟩; rw [HI.out.2.2.2.1]; have HA5 := Lib.hid ha; clear ha)
          | (go_at_call_of 50 (Value.int .i64 (max (lo + (j : Int) - two k) 0)); rw [show max (lo + (j : Int) - two k) 0 = lo + (j : Int) - two k by omega]; refine (is_ok HA5.out (lo + j - two k) (by omega) (by omega) HI.out.2.2.2.2.2.1 (by omega) (by omega)).mono ?_; rintro e w6 ⟨rfl, ha⟩; rw [HI.out.2.2.2.2.1]; have HA6 := Lib.hid (show Av R0 W w6 ab q 0 k (showN X 0 k lo (j + 1)) (3 * j + 3) from (show (3 * (j : Int) + 3) = 3 * j + 1 + 1 + 1 by omega) ▸ ha); clear ha)
          | (go_at_call_of 54 (Value.int .i64 (lo + (j : Int))); refine (HCELL.out _ HA6.out).1.mono ?_; rintro e w7 ⟨rfl, hb⟩; have HA7 := Lib.hid (HA6.out.keep hb); clear hb)
          | (go_at_call_of 54 (Value.int .i64 (lo + (j : Int) + two k)); refine (HCELL.out _ HA7.out).2.mono ?_; rintro e w8 ⟨rfl, hb⟩; have HA8 := Lib.hid (HA7.out.keep hb); clear hb)
          | (go_at_call_of 55 (Value.int .i64 (lo + (j : Int) + two k)); refine (HRD.out _ HA8.out).2.mono ?_; rintro e w9 ⟨rfl, hb⟩; have HA9 := Lib.hid (HA8.out.keep hb); clear hb)
          | (go_at_call_of 55 (Value.int .i64 (lo + (j : Int))); refine (HRD.out _ HA9.out).1.mono ?_; rintro e w10 ⟨rfl, hb⟩; have HA10 := Lib.hid (HA9.out.keep hb); clear hb))
        exact ⟨⟨j + 1, by omega, by go_num, by rw [show 3 * ((j + 1 : Nat) : Int) = 3 * j + 3 by omega]; exact HA10⟩, by simp [intOf]; omega⟩
      · go_wp2_with (first
          | (go_at_call 49; refine (show_one HJ.out (lo + j) (by omega) (by omega) HI.out.2.2.2.2.2.2 (by omega) (by omega) _ rfl).mono ?_; rintro e w4 ⟨rfl, ha⟩; have HA4 := Lib.hid (show Av R0 W w4 ab q 0 k (showN X 0 k lo (j + 1)) (3 * j + 1) from ha); clear ha)
          | (go_at_call_of 50 (Value.int .i64 (lo + (j : Int))); refine (is_ok HA4.out (lo + j) (by omega) (by omega) HI.out.2.2.2.2.2.1 (by omega) (by omega)).mono ?_; rintro e w5 ⟨rfl, ha⟩; rw [HI.out.2.2.2.1]; have HA5 := Lib.hid ha; clear ha)
          | (go_at_call_of 50 (Value.int .i64 (max (lo + (j : Int) - two k) 0)); rw [show max (lo + (j : Int) - two k) 0 = 0 by omega]; refine (is_ok HA5.out 0 (by omega) (by omega) HI.out.2.2.2.2.2.1 (by omega) (by omega)).mono ?_; rintro e w6 ⟨rfl, ha⟩; have HA6 := Lib.hid (show Av R0 W w6 ab q 0 k (showN X 0 k lo (j + 1)) (3 * j + 3) from (show (3 * (j : Int) + 3) = 3 * j + 1 + 1 + 1 by omega) ▸ ha); clear ha)
          | (go_at_call_of 54 (Value.int .i64 (lo + (j : Int))); refine (HCELL.out _ HA6.out).1.mono ?_; rintro e w7 ⟨rfl, hb⟩; have HA7 := Lib.hid (HA6.out.keep hb); clear hb)
          | (go_at_call_of 54 (Value.int .i64 (lo + (j : Int) + two k)); refine (HCELL.out _ HA7.out).2.mono ?_; rintro e w8 ⟨rfl, hb⟩; have HA8 := Lib.hid (HA7.out.keep hb); clear hb)
          | (go_at_call_of 55 (Value.int .i64 (lo + (j : Int) + two k)); refine (HRD.out _ HA8.out).2.mono ?_; rintro e w9 ⟨rfl, hb⟩; have HA9 := Lib.hid (HA8.out.keep hb); clear hb)
          | (go_at_call_of 55 (Value.int .i64 (lo + (j : Int))); refine (HRD.out _ HA9.out).1.mono ?_; rintro e w10 ⟨rfl, hb⟩; have HA10 := Lib.hid (HA9.out.keep hb); clear hb))
        exact ⟨⟨j + 1, by omega, by go_num, by rw [show 3 * ((j + 1 : Nat) : Int) = 3 * j + 3 by omega]; exact HA10⟩, by simp [intOf]; omega⟩
    · obtain rfl : j = m := by omega
      have hLT : ¬ lo + (j : Int) < lo + j := by omega
      have HH := Lib.hid (rounds_end HJ.out HN.out hXl HXN.out hl0 hl1 hm (by omega) (by omega))
      clear hlt hXl
      go_wp2_with (first
        | (go_at_call 52; refine HH.out.mono ?_; rintro e w4 ⟨rfl, hb⟩; have HB := Lib.hid hb; clear hb)
        | (go_at_call 47; refine (awake7 _).mono ?_; rintro e w5 ⟨rfl, hb⟩; have HB5 := Lib.hid (bthen HB.out hb); clear hb))
      go_ret
      exact ⟨rfl, HB5.out⟩
end Go.Proofs.Ytnimmkgdgdhkfaa
