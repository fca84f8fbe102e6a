/-
  AvailRounds' walk. No condition but that its arguments are of their kinds.
-/
import Derived.Test.YtjadapjjilegnaaAv5
import Derived.Test.YtjadapjjilegnaaPost
import Derived.Deep.DeepCutAuto
import Derived.Deep.CutBlock
namespace Go.Proofs.Ytjadapjjilegnaa
open Go.RowKit

/-- A cell by its index. -/
theorem shownB_at {xs : List Int} {f k : Nat} {s x : Int} {i : Nat} (hi : s % two k = i) (hx : xs[f + i]? = some x) : shownB xs f k s = (x == s / two k) := by
  unfold shownB
  rw [hi]
  simp [List.getD, hx]
theorem same_slot {k : Nat} {s t : Int} (h : s % two k = t % two k) (hlt : s < t) : s / two k < t / two k ∧ s + two k ≤ t := by
  have h0 := two_pos k
  have e1 := Int.emod_add_mul_ediv s (two k)
  have e2 := Int.emod_add_mul_ediv t (two k)
  have h4 : two k ∣ t - s := Int.dvd_of_emod_eq_zero (Int.emod_eq_emod_iff_emod_sub_eq_zero.1 h.symm)
  have h5 := Int.le_of_dvd (by omega) h4
  refine ⟨?_, by omega⟩
  have : s / two k + 1 ≤ t / two k := by
    rw [show s / two k + 1 = (s + two k) / two k by rw [Int.add_ediv_of_dvd_right (Int.dvd_refl _), Int.ediv_self (by omega)]]
    exact Int.ediv_le_ediv h0 (by omega)
  omega

/-- What is shown stays so till its slot's next index is shown. -/
theorem showN_get (xs : List Int) (f k : Nat) (lo : Int) (hl : f + two k ≤ (xs.length : Int)) (m j : Nat) (h1 : j < m) (h2 : (m : Int) - j ≤ two k) : shownB (showN xs f k lo m) f k (lo + j) = true := by
  induction m with
  | zero => omega
  | succ m ih =>
    obtain ⟨i, hi, hil⟩ := mod_nat k (lo + j)
    by_cases hj : j = m
    · subst hj
      rw [shownB_at hi (x := (lo + j) / two k) (by rw [showN, hi]; simp [List.getElem?_set, showN_len]; omega)]
      simp
    · have := ih (by omega) (by omega)
      obtain ⟨i2, hi2, hil2⟩ := mod_nat k (lo + m)
      have hne : i2 ≠ i := by
        intro e
        have := (same_slot (k := k) (s := lo + j) (t := lo + m) (by rw [hi, hi2, e]) (by omega)).2
        omega
      obtain ⟨x, hx⟩ : ∃ x, (showN xs f k lo m)[f + i]? = some x := ⟨_, List.getElem?_eq_getElem (by rw [showN_len]; omega)⟩
      rw [shownB_at hi hx] at this
      rw [shownB_at hi (x := x) (by rw [showN, hi2]; simp only [Int.toNat_natCast]; rw [List.getElem?_set_ne (by omega)]; exact hx)]
      exact this
/-- What lies ahead isn't shown. -/
theorem showN_ahead (n f k : Nat) (lo : Int) (hn : (n : Int) = two k) (h0 : 0 ≤ lo) (xs : List Int) (hx : ∀ i, i < n → xs[f + i]? = some (-1)) (m : Nat) (s : Int) (hs : lo + m ≤ s) (i : Nat) (hi : s % two k = i) :
    ∃ x, (showN xs f k lo m)[f + i]? = some x ∧ x < s / two k := by
  have h1 := two_pos k
  have hil := Int.emod_lt_of_pos s h1
  induction m with
  | zero => exact ⟨-1, hx i (by omega), by have := Int.ediv_nonneg (show 0 ≤ s by omega) (show 0 ≤ two k by omega); omega⟩
  | succ m ih =>
    obtain ⟨x, hx, hlt⟩ := ih (by omega)
    obtain ⟨i2, hi2, hil2⟩ := mod_nat k (lo + m)
    by_cases e : i2 = i
    · subst e
      refine ⟨(lo + m) / two k, ?_, (same_slot (by rw [hi, hi2]) (by omega)).1⟩
      have : f + i2 < (showN xs f k lo m).length := by
        rcases Nat.lt_or_ge (f + i2) (showN xs f k lo m).length with h | h
        · exact h
        · rw [List.getElem?_eq_none h] at hx; cases hx
      rw [showN, hi2]
      simp only [Int.toNat_natCast]
      rw [List.getElem?_set_self this]
    · refine ⟨x, ?_, hlt⟩
      rw [showN, hi2]
      simp only [Int.toNat_natCast]
      rw [List.getElem?_set_ne (by omega)]
      exact hx
theorem showN_not (n f k : Nat) (lo : Int) (hn : (n : Int) = two k) (h0 : 0 ≤ lo) (xs : List Int) (hx : ∀ i, i < n → xs[f + i]? = some (-1)) (m : Nat) (s : Int) (hs : lo + m ≤ s) : shownB (showN xs f k lo m) f k s = false := by
  obtain ⟨i, hi, _⟩ := mod_nat k s
  obtain ⟨x, h1, h2⟩ := showN_ahead n f k lo hn h0 xs hx m s hs i hi
  rw [shownB_at hi h1, beq_eq_false_iff_ne]
  omega
theorem showN_before (f k : Nat) (lo : Int) (xs : List Int) (hl : f + two k ≤ (xs.length : Int)) (m : Nat) : shownB (showN xs f k lo (m + 1)) f k (lo + m - two k) = false := by
  have h0 := two_pos k
  obtain ⟨i, hi, hil⟩ := mod_nat k (lo + m)
  have hi' : (lo + m - two k) % two k = i := by rw [Int.sub_emod_right]; exact hi
  rw [shownB_at hi' (x := (lo + m) / two k) (by rw [showN, hi]; simp [List.getElem?_set, showN_len]; omega), beq_eq_false_iff_ne]
  have := (same_slot (k := k) (s := lo + m - two k) (t := lo + m) (by rw [hi', hi]) (by omega)).1
  omega
theorem show_next (xs : List Int) (f k : Nat) (lo : Int) (m : Nat) : (showN xs f k lo m).set (f + ((lo + m) % two k).toNat) ((lo + m) / two k) = showN xs f k lo (m + 1) := rfl
theorem row_neg (n : Nat) : ∀ i, i < n → (([] : List Int) ++ List.replicate n (-1))[0 + i]? = some (-1) := by
  intro i hi
  simp [hi]

/-- Behind the rounds all are shown up to the last one. -/
theorem rounds_end {W w : World} {ab q k n m : Nat} {X : List Int} {lo st : Int} (h : Av R0 W w ab q 0 k (showN X 0 k lo m) st) (hn : (n : Int) = two k) (hXl : (0 : Nat) + two k ≤ (X.length : Int)) (hXn : ∀ i, i < n → X[0 + i]? = some (-1)) (hl0 : 0 ≤ lo) (hl1 : lo ≤ 4294967295) (hm : m ≤ 255) (h0 : 0 ≤ st) (h1 : st ≤ 1000) :
    Calls Try.prog 68 #[.pointer (some ⟨q, 0, none⟩), .pointer (some ⟨ab, 0, none⟩), .int .i64 (max lo (lo + (m : Int) - two k)), .int .i64 (lo + (m : Int) + 5)] w fun e w' => e = .returned (.tuple #[.int .i64 (lo + (m : Int) - 1), .nilIface]) ∧ Below W.heap.size W w' := by
  have hk := two_pos k
  obtain ⟨J, hJ⟩ : ∃ J : Nat, lo + (m : Int) - max lo (lo + (m : Int) - two k) = J := ⟨(lo + (m : Int) - max lo (lo + (m : Int) - two k)).toNat, by omega⟩
  have hR : RunTo (shownB (showN X 0 k lo m) 0 k) (max lo (lo + (m : Int) - two k)) (lo + (m : Int) + 5) J := by
    refine ⟨fun i hi => ?_, fun _ => ?_, Or.inr (by omega)⟩
    · have := showN_get X 0 k lo hXl m (m - J + i) (by omega) (by omega)
      rw [show lo + ((m - J + i : Nat) : Int) = max lo (lo + (m : Int) - two k) + i by omega] at this
      exact this
    · exact showN_not n 0 k lo hn hl0 X hXn m _ (by omega)
  refine (hi_ok h _ _ (by omega) (by omega) (by omega) (by omega) (by rw [showN_len]; exact hXl) h0 (by omega)).mono ?_
  rintro e w' ⟨j, st', hr, rfl, ha, _⟩
  have hj : j = J := hr.unique hR fun _ _ _ => rfl
  subst hj
  exact ⟨by rw [show max lo (lo + (m : Int) - two k) + (j : Int) - 1 = lo + m - 1 by omega], ha.below⟩
end Go.Proofs.Ytjadapjjilegnaa
