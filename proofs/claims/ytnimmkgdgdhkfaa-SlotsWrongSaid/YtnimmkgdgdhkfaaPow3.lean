/-
  The document's own answers for layer 2 (sizes, places, rooms), and the example that each statement asks: contracts.
-/
import Derived.Test.YtnimmkgdgdhkfaaPow2
import Derived.LoopTactic
import Derived.BigQuiet
import Derived.Deep.QuietTactic
namespace Go.Proofs.Ytnimmkgdgdhkfaa
open Go.RowKit

theorem refShift_yes (k : Nat) (hk : k ≤ 20) (w : World) :
    Calls Try.prog 15 #[.int .i64 (two k)] w fun e w' => e = .returned (.int .i64 k) ∧ w = w' := by
  go_enter Try.func15, Try.ntmps15
  go_wp2
  go_loop [3, 4] (fun p i => ∃ j : Nat, j ≤ k ∧ p = .int .i64 (two j) ∧ i = .int .i64 j) (fun _ i => 21 - (intOf i).toNat)
  case atStart => exact ⟨0, Nat.zero_le _, rfl, rfl⟩
  case round =>
    obtain ⟨j, hj, rfl, rfl⟩ := hrel
    have g1 := two_le (k := j) (by omega)
    have g2 := two_pos j
    by_cases hjk : j = k
    · obtain rfl : j = k := hjk
      go_wp2
      go_ret
      exact ⟨rfl, rfl⟩
    · have hN : (two j == two k) = false := by simpa using fun e => hjk (two_inj e)
      have hlt : j < k := by omega
      have HS := Lib.hid (two_succ j)
      clear hjk
      go_wp2
      go_round
      case rel => exact ⟨j + 1, by omega, by rw [HS.out], by go_num⟩
      case measure => simp [intOf]; omega

theorem refShift_no (n : Int) (hno : ∀ k, k ≤ 20 → n ≠ two k) (w : World) :
    Calls Try.prog 15 #[.int .i64 n] w fun e w' => e = .returned (.int .i64 (-1)) ∧ w = w' := by
  have HN := Lib.hid hno
  clear hno
  go_enter Try.func15, Try.ntmps15
  go_wp2
  go_loop [3, 4] (fun p i => ∃ j : Nat, j ≤ 21 ∧ p = .int .i64 (two j) ∧ i = .int .i64 j) (fun _ i => 21 - (intOf i).toNat)
  case atStart => exact ⟨0, Nat.zero_le _, rfl, rfl⟩
  case round =>
    obtain ⟨j, hj, rfl, rfl⟩ := hrel
    by_cases hjk : j ≤ 20
    · have g1 := two_le (k := j) (by omega)
      have g2 := two_pos j
      have hN : (two j == n) = false := by simpa using fun e => HN.out j hjk e.symm
      have HS := Lib.hid (two_succ j)
      go_wp2
      go_round
      case rel => exact ⟨j + 1, by omega, by rw [HS.out], by go_num⟩
      case measure => simp [intOf]; omega
    · go_wp2
      go_ret
      exact ⟨rfl, rfl⟩

theorem refUp_yes (k : Nat) (hk : k ≤ 20) (n : Int) (h : Least k n) (w : World) :
    Calls Try.prog 21 #[.int .i64 n] w fun e w' => e = .returned (.int .i64 k) ∧ w = w' := by
  have HL := Lib.hid h
  clear h
  go_enter Try.func21, Try.ntmps21
  go_wp2
  go_loop [3, 4] (fun p i => ∃ j : Nat, j ≤ k ∧ p = .int .i64 (two j) ∧ i = .int .i64 j) (fun _ i => 21 - (intOf i).toNat)
  case atStart => exact ⟨0, Nat.zero_le _, rfl, rfl⟩
  case round =>
    obtain ⟨j, hj, rfl, rfl⟩ := hrel
    have g1 := two_le (k := j) (by omega)
    have g2 := two_pos j
    by_cases hjk : j = k
    · obtain rfl : j = k := hjk
      have hle := HL.out.1
      go_wp2
      go_ret
      exact ⟨rfl, rfl⟩
    · have hlt : j < k := by omega
      have hl := HL.out.2 j hlt
      have HS := Lib.hid (two_succ j)
      clear hjk
      go_wp2
      go_round
      case rel => exact ⟨j + 1, by omega, by rw [HS.out], by go_num⟩
      case measure => simp [intOf]; omega

theorem refUp_no (n : Int) (h : 1048576 < n) (w : World) :
    Calls Try.prog 21 #[.int .i64 n] w fun e w' => e = .returned (.int .i64 (-1)) ∧ w = w' := by
  go_enter Try.func21, Try.ntmps21
  go_wp2
  go_loop [3, 4] (fun p i => ∃ j : Nat, j ≤ 21 ∧ p = .int .i64 (two j) ∧ i = .int .i64 j) (fun _ i => 21 - (intOf i).toNat)
  case atStart => exact ⟨0, Nat.zero_le _, rfl, rfl⟩
  case round =>
    obtain ⟨j, hj, rfl, rfl⟩ := hrel
    by_cases hjk : j ≤ 20
    · have g1 := two_le (k := j) (by omega)
      have g2 := two_pos j
      have HS := Lib.hid (two_succ j)
      go_wp2
      go_round
      case rel => exact ⟨j + 1, by omega, by rw [HS.out], by go_num⟩
      case measure => simp [intOf]; omega
    · go_wp2
      go_ret
      exact ⟨rfl, rfl⟩

theorem trunc_of (a n : Int) (ha : a < 0) (h1 : 1 ≤ n) :
    (a.tmod n = 0 ∧ a % n = 0 ∧ a / n = a.tdiv n) ∨ (a.tmod n < 0 ∧ -n < a.tmod n ∧ a % n = a.tmod n + n ∧ a / n = a.tdiv n - 1 ∧ a ≤ 2 * a.tdiv n ∧ a.tdiv n ≤ 0) := by
  obtain ⟨b, hb⟩ : ∃ b : Int, b = -a := ⟨_, rfl⟩
  have hb0 : 0 < b := by omega
  obtain rfl : a = -b := by omega
  rw [Int.neg_tmod, Int.neg_tdiv, Int.tmod_eq_emod_of_nonneg (by omega), Int.tdiv_eq_ediv_of_nonneg (by omega)]
  have h0 := Int.emod_nonneg b (show n ≠ 0 by omega)
  have h2 := Int.emod_lt_of_pos b (show 0 < n by omega)
  have h3 := Int.emod_add_mul_ediv b n
  by_cases hz : b % n = 0
  · left
    have u := (Int.ediv_emod_unique (a := -b) (b := n) (q := -(b / n)) (r := 0) (by omega)).2 ⟨by rw [Int.mul_neg]; omega, by omega, by omega⟩
    exact ⟨by omega, u.2, u.1⟩
  · right
    have u := (Int.ediv_emod_unique (a := -b) (b := n) (q := -(b / n) - 1) (r := -(b % n) + n) (by omega)).2 ⟨by rw [Int.mul_sub, Int.mul_neg]; omega, by omega, by omega⟩
    have hn : 2 ≤ n := by
      rcases Int.lt_or_le n 2 with h | h
      · obtain rfl : n = 1 := by omega
        simp at hz
      · exact h
    have hq : 0 ≤ b / n := Int.ediv_nonneg (by omega) (by omega)
    have hm : 2 * (b / n) ≤ n * (b / n) := Int.mul_le_mul_of_nonneg_right hn hq
    exact ⟨by omega, by omega, u.2, u.1, by omega, by omega⟩

theorem refPlace_any (a n : Int) (ha : -9223372036854775808 ≤ a ∧ a ≤ 9223372036854775807) (h1 : 1 ≤ n) (h2 : n ≤ 1048576) (w : World) :
    Calls Try.prog 23 #[.int .i64 a, .int .i64 n] w fun e w' => e = .returned (.tuple #[.int .i64 (a % n), .int .i64 (a / n)]) ∧ w = w' := by
  obtain ⟨ha1, ha2⟩ := ha
  by_cases h0 : 0 ≤ a
  · have g0 := Int.emod_nonneg a (show n ≠ 0 by omega)
    go_enter Try.func23, Try.ntmps23
    go_wp2
    go_ret2
    exact ⟨rfl, rfl⟩
  · rcases trunc_of a n (by omega) h1 with ⟨t0, t1, t2⟩ | ⟨t0, t1, t2, t3, t4, t5⟩
    · have T1 := Lib.hid t1
      have T2 := Lib.hid t2
      clear t1 t2
      go_enter Try.func23, Try.ntmps23
      go_wp2
      go_ret2
      exact ⟨by rw [T1.out, T2.out]; rfl, rfl⟩
    · have T1 := Lib.hid t2
      have T2 := Lib.hid t3
      clear t2 t3
      go_enter Try.func23, Try.ntmps23
      go_wp2
      go_ret2
      exact ⟨by rw [T1.out, T2.out]; rfl, rfl⟩

/-- The document's example. -/
theorem awake2 (w : World) :
    Calls Try.prog 22 #[] w fun e w' => e = .returned (.bool true) ∧ Below w.heap.size w w' := by
  go_enter Try.func22, Try.ntmps22
  go_wp2_with (first
    | (go_at_call 14; refine (of_yes 3 (by omega) _).mono ?_; rintro e w1 ⟨rfl, hb1⟩)
    | (go_at_call 25; refine (index_any 3 (by omega) 21 _).mono ?_; rintro e w2 ⟨he, hb2⟩; rw [show (21 : Int) % two 3 = 5 from rfl] at he; subst he; have hs := keepc hb2 (b := w1.heap.size) (o := 0) (v := .int .u8 3) (by go_simp))
    | (go_at_call 26; refine (round_any 3 (by omega) 21 _).mono ?_; rintro e w3 ⟨he, hb3⟩; rw [show (21 : Int) / two 3 = 2 from rfl] at he; subst he))
  go_ret
  exact ⟨rfl, (((hb1.alloc hb1.size _).trans (hb2.mono (by have := hb1.size; simp; omega))).trans (hb3.mono (by have := hb1.size; have := hb2.size; simp at this; omega)))⟩
end Go.Proofs.Ytnimmkgdgdhkfaa
