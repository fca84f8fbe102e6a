/-
  What package pow's functions do at a size of two to the k slots (k from 0 to 20): contracts. A number is any of its kind where no condition says other.
-/
import Derived.Test.YtjadapjjilegnaaChecked
import Derived.Test.YtjadapjjilegnaaBits
import Derived.Test.YtjadapjjilegnaaErr
import Derived.WalkKit
import Derived.Below
import Derived.Lib.Hide
import Derived.Handy
namespace Go.Proofs.Ytjadapjjilegnaa
open Go.RowKit

theorem wrap_two (k : Nat) (hk : k ≤ 20) : wrap64 (2 ^ k) = two k := by
  have := two_le hk; have := two_pos k
  show wrap64 (two k) = two k
  exact IntWalk.wrap64_in _ ⟨by omega, by omega⟩

theorem slots_any (k : Nat) (hk : k ≤ 20) (w : World) :
    Calls Try.prog 87 #[.agg #[.int .u8 k]] w fun e w' => e = .returned (.int .i64 (two k)) ∧ w.alloc (.cells #[.int .u8 k] 106) = w' := by
  go_enter Try.func87, Try.ntmps87
  go_wp2
  go_ret
  exact ⟨by rw [← wrap_two k hk]; rfl, rfl⟩

theorem shift_any (k : Nat) (hk : k ≤ 20) (w : World) :
    Calls Try.prog 86 #[.agg #[.int .u8 k]] w fun e w' => e = .returned (.int .i64 k) ∧ w.alloc (.cells #[.int .u8 k] 106) = w' := by
  go_enter Try.func86, Try.ntmps86
  go_wp2
  go_ret
  exact ⟨rfl, rfl⟩

theorem mask_any (k : Nat) (hk : k ≤ 20) (w : World) :
    Calls Try.prog 88 #[.agg #[.int .u8 k]] w fun e w' => e = .returned (.int .i64 (two k - 1)) ∧ Below w.heap.size w w' := by
  have h1 := two_le hk
  have h2 := two_pos k
  go_enter Try.func88, Try.ntmps88
  go_wp2_with (go_at_call 87; refine (slots_any k hk _).mono ?_; rintro e w' ⟨rfl, rfl⟩)
  go_ret
  exact ⟨rfl, by go_grown⟩

theorem index_any (k : Nat) (hk : k ≤ 20) (seq : Int) (w : World) :
    Calls Try.prog 135 #[.agg #[.int .u8 k], .int .i64 seq] w fun e w' => e = .returned (.int .i64 (seq % two k)) ∧ Below w.heap.size w w' := by
  have ha := and_two k hk seq
  go_enter Try.func135, Try.ntmps135
  go_wp2_with (go_at_call 88; refine (mask_any k hk _).mono ?_; rintro e w' ⟨rfl, hb⟩)
  go_ret
  exact ⟨rfl, (((Below.refl _ _).alloc (Nat.le_refl _) _).trans (hb.mono (by simp)))⟩

theorem round_any (k : Nat) (hk : k ≤ 20) (seq : Int) (w : World) :
    Calls Try.prog 136 #[.agg #[.int .u8 k], .int .i64 seq] w fun e w' => e = .returned (.int .i64 (seq / two k)) ∧ Below w.heap.size w w' := by
  go_enter Try.func136, Try.ntmps136
  go_wp2
  go_ret
  exact ⟨rfl, (Below.refl _ _).alloc (Nat.le_refl _) _⟩


theorem next_yes (seq n : Int) (h1 : 1 ≤ n) (h2 : n ≤ 1048576) (h3 : -1 ≤ seq) (h4 : seq ≤ 4611686018427387904 - n) (w : World) :
    Calls Try.prog 174 #[.int .i64 seq, .int .i64 n] w fun e w' => e = .returned (.tuple #[.int .i64 (seq + n), .nilIface]) ∧ w = w' := by
  go_enter Try.func174, Try.ntmps174
  go_wp2
  go_ret2
  exact ⟨rfl, rfl⟩
theorem next_arg (seq n : Int) (h : n < 1 ∨ 1048576 < n) (w : World) :
    Calls Try.prog 174 #[.int .i64 seq, .int .i64 n] w fun e w' => ∃ F, e = .returned (.tuple #[.int .i64 0, F]) ∧ Chain w' F 1 1 ∧ Below w.heap.size w w' := by
  rcases h with h | h
  · go_enter Try.func174, Try.ntmps174
    go_wp2_with (go_at_call 115; refine (wrap_iface _ _ _ _).mono ?_; rintro e w' ⟨rfl, rfl⟩)
    go_ret2
    exact ⟨_, rfl, .fault _ _ _ _ 0 1 (heap_at _ _ _ (by simp)) (.num 1), by go_grown⟩
  · have h' : ¬ n < 1 := by omega
    go_enter Try.func174, Try.ntmps174
    go_wp2_with (go_at_call 115; refine (wrap_iface _ _ _ _).mono ?_; rintro e w' ⟨rfl, rfl⟩)
    go_ret2
    exact ⟨_, rfl, .fault _ _ _ _ 0 1 (heap_at _ _ _ (by simp)) (.num 1), by go_grown⟩
theorem next_range (seq n : Int) (h1 : 1 ≤ n) (h2 : n ≤ 1048576) (h : seq < -1) (w : World) :
    Calls Try.prog 174 #[.int .i64 seq, .int .i64 n] w fun e w' => ∃ F, e = .returned (.tuple #[.int .i64 0, F]) ∧ Chain w' F 1 5 ∧ Below w.heap.size w w' := by
  go_enter Try.func174, Try.ntmps174
  go_wp2_with (go_at_call 115; refine (wrap_iface _ _ _ _).mono ?_; rintro e w' ⟨rfl, rfl⟩)
  go_ret2
  exact ⟨_, rfl, .fault _ _ _ _ 0 5 (heap_at _ _ _ (by simp)) (.num 5), by go_grown⟩
theorem next_end (seq n : Int) (h1 : 1 ≤ n) (h2 : n ≤ 1048576) (h : 4611686018427387904 - n < seq) (w : World) :
    Calls Try.prog 174 #[.int .i64 seq, .int .i64 n] w fun e w' => ∃ F, e = .returned (.tuple #[.int .i64 0, F]) ∧ Chain w' F 1 15 ∧ Below w.heap.size w w' := by
  have h' : ¬ seq < -1 := by omega
  go_enter Try.func174, Try.ntmps174
  go_wp2_with (go_at_call 115; refine (wrap_iface _ _ _ _).mono ?_; rintro e w' ⟨rfl, rfl⟩)
  go_ret2
  exact ⟨_, rfl, .fault _ _ _ _ 0 15 (heap_at _ _ _ (by simp)) (.num 15), by go_grown⟩


/-- An index by its number. -/
theorem index_is (k : Nat) (hk : k ≤ 20) (seq : Int) (i : Nat) (hi : seq % two k = i) (w : World) :
    Calls Try.prog 135 #[.agg #[.int .u8 k], .int .i64 seq] w fun e w' => e = .returned (.int .i64 i) ∧ Below w.heap.size w w' := by
  rw [← hi]; exact index_any k hk seq w
end Go.Proofs.Ytjadapjjilegnaa
