/-
  Plain facts on powers of two and on the integer operations that package pow uses. No condition.
-/
import Derived.WalkKit
import Derived.Laws.BitsLemmas
namespace Go.Proofs.Ytjadapjjilegnaa
open Go.RowKit

/-- The powers of two that a ring may have, by cases. -/
theorem pow_cases {k : Nat} (h : k ≤ 20) : k = 0 ∨ k = 1 ∨ k = 2 ∨ k = 3 ∨ k = 4 ∨ k = 5 ∨ k = 6 ∨ k = 7 ∨ k = 8 ∨ k = 9 ∨ k = 10 ∨ k = 11 ∨ k = 12 ∨ k = 13 ∨ k = 14 ∨ k = 15 ∨ k = 16 ∨ k = 17 ∨ k = 18 ∨ k = 19 ∨ k = 20 := by omega

/-- Two to the k, kept behind a name. -/
def two (k : Nat) : Int := 2 ^ k
theorem two_pos (k : Nat) : 0 < two k := by unfold two; exact Int.pow_pos (by decide)
theorem two_le {k : Nat} (h : k ≤ 20) : two k ≤ 1048576 := by
  unfold two; rcases pow_cases h with rfl | rfl | rfl | rfl | rfl | rfl | rfl | rfl | rfl | rfl | rfl | rfl | rfl | rfl | rfl | rfl | rfl | rfl | rfl | rfl | rfl <;> decide

/-- '&' with a mask is the remainder, of any number. -/
theorem and_two (k : Nat) (hk : k ≤ 20) (a : Int) : bits .and .i64 a (two k - 1) = a % two k := by
  have hp : (0 : Nat) < 2 ^ k := Nat.two_pow_pos k
  have hle : (2 : Nat) ^ k ≤ 2 ^ 20 := Nat.pow_le_pow_right (by decide) hk
  have hdvd : (2 : Nat) ^ k ∣ 2 ^ 64 := Nat.pow_dvd_pow 2 (by omega)
  have hc : two k - 1 = ((2 ^ k - 1 : Nat) : Int) := by
    unfold two; rw [Int.natCast_sub hp]; simp
  have hc2 : two k = ((2 ^ k : Nat) : Int) := by unfold two; simp
  have hm : (2 ^ k - 1) % 2 ^ 64 = 2 ^ k - 1 := Nat.mod_eq_of_lt (by omega)
  rw [hc]
  simp only [bits, BitVec.toNat_and, BitVec.toNat_ofInt, BitVec.ofInt_natCast, BitVec.toNat_ofNat]
  simp only [IntKind.bits, hm, Nat.and_two_pow_sub_one_eq_mod]
  rw [hc2]
  have e1 : (((a % ((2 ^ 64 : Nat) : Int)).toNat % 2 ^ k : Nat) : Int) = a % ((2 ^ k : Nat) : Int) := by
    have h0 : 0 ≤ a % ((2 ^ 64 : Nat) : Int) := Int.emod_nonneg _ (by decide)
    rw [Int.natCast_emod, Int.toNat_of_nonneg h0]
    exact Int.emod_emod_of_dvd a (Int.natCast_dvd_natCast.2 hdvd)
  rw [e1]
  have h1 : 0 ≤ a % ((2 ^ k : Nat) : Int) := Int.emod_nonneg _ (by omega)
  have h2 : a % ((2 ^ k : Nat) : Int) < ((2 ^ k : Nat) : Int) := Int.emod_lt_of_pos _ (by omega)
  rw [IntKind.wrap_i64]
  omega
end Go.Proofs.Ytjadapjjilegnaa
