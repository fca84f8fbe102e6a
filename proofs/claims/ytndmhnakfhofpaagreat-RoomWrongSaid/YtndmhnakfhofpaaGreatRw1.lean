/-
  A room that is none; a room without a ring: what is refused, by contract. No condition but those that each theorem names.
-/
import Derived.Test.YtndmhnakfhofpaaGreatRo5
namespace Go.Proofs.YtndmhnakfhofpaaGreat
open Go.RowKit
set_option linter.unusedVariables false

theorem rnil_arena (W : World) : Calls Tryz.prog 33 #[.pointer none] W fun e w' => e = .returned (.pointer none) ∧ W = w' := by
  go_enter Tryz.func33, Tryz.ntmps33
  go_wp2
  go_ret
  exact ⟨rfl, rfl⟩
theorem rnil_clock (W : World) : Calls Tryz.prog 47 #[.pointer none] W fun e w' => e = .returned (.pointer none) ∧ W = w' := by
  go_enter Tryz.func47, Tryz.ntmps47
  go_wp2
  go_ret
  exact ⟨rfl, rfl⟩
theorem rnil_actors (W : World) : Calls Tryz.prog 14 #[.pointer none] W fun e w' => e = .returned (.pointer none) ∧ W = w' := by
  go_enter Tryz.func14, Tryz.ntmps14
  go_wp2
  go_ret
  exact ⟨rfl, rfl⟩
theorem rnil_rings (W : World) : Calls Tryz.prog 16 #[.pointer none] W fun e w' => e = .returned (.int .i64 0) ∧ W = w' := by
  go_enter Tryz.func16, Tryz.ntmps16
  go_wp2
  go_ret
  exact ⟨rfl, rfl⟩
theorem tlen_nil (W : World) : Calls Tryz.prog 15 #[.pointer none] W fun e w' => e = .returned (.int .i64 0) ∧ W = w' := by
  go_enter Tryz.func15, Tryz.ntmps15
  go_wp2
  go_ret
  exact ⟨rfl, rfl⟩

/-- An error by its number, in a new world. -/
def NewE (W w : World) (q : Nat) (n : Int) : Prop := Chain w (Flt q) 1 n ∧ Below W.heap.size W w

theorem rnil_find (op : ByteArray) (id : Int) (W : World) : Calls Tryz.prog 69 #[.pointer none, .string op, .int .i64 id] W fun e w' => ∃ q, e = .returned (.tuple #[.pointer none, Flt q]) ∧ NewE W w' q 2 := by
  go_enter Tryz.func69, Tryz.ntmps69
  go_wp2_with (go_at_call 75; refine (wrap_iface _ _ _ _).mono ?_; rintro e w' ⟨rfl, hw⟩; obtain ⟨hch, hbb⟩ := ferr hw; clear hw)
  go_ret2
  exact ⟨_, rfl, hch, hbb⟩
theorem rnil_ring (n k : Int) (W : World) : Calls Tryz.prog 23 #[.pointer none, .int .i64 n, .int .i64 k] W fun e w' => ∃ q, e = .returned (.tuple #[.int .i64 0, Flt q]) ∧ NewE W w' q 2 := by
  go_enter Tryz.func23, Tryz.ntmps23
  go_wp2_with (go_at_call 75; refine (wrap_iface _ _ _ _).mono ?_; rintro e w' ⟨rfl, hw⟩; obtain ⟨hch, hbb⟩ := ferr hw; clear hw)
  go_ret2
  exact ⟨_, rfl, hch, hbb⟩
theorem rnil_show (id at' hi : Int) (W : World) : Calls Tryz.prog 29 #[.pointer none, .int .i64 id, .int .i64 at', .int .i64 hi] W fun e w' => ∃ q, e = .returned (.tuple #[.int .i64 0, Flt q]) ∧ NewE W w' q 2 := by
  go_enter Tryz.func29, Tryz.ntmps29
  go_wp2_with (go_at_call 69; refine (rnil_find _ _ _).mono ?_; rintro e w' ⟨q, rfl, hn⟩)
  go_ret2
  exact ⟨_, rfl, hn⟩
theorem rnil_signal (id : Int) (W : World) : Calls Tryz.prog 20 #[.pointer none, .int .i64 id] W fun e w' => ∃ q, e = .returned (.tuple #[.int .i64 0, Flt q]) ∧ NewE W w' q 2 := by
  go_enter Tryz.func20, Tryz.ntmps20
  go_wp2_with (go_at_call 69; refine (rnil_find _ _ _).mono ?_; rintro e w' ⟨q, rfl, hn⟩)
  go_ret2
  exact ⟨_, rfl, hn⟩
theorem rnil_enlist (id who : Int) (W : World) : Calls Tryz.prog 17 #[.pointer none, .int .i64 id, .int .i64 who] W fun e w' => ∃ q, e = .returned (Flt q) ∧ NewE W w' q 2 := by
  go_enter Tryz.func17, Tryz.ntmps17
  go_wp2_with (go_at_call 69; refine (rnil_find _ _ _).mono ?_; rintro e w' ⟨q, rfl, hn⟩)
  go_ret
  exact ⟨_, rfl, hn⟩
theorem rnil_park (who d : Int) (W : World) : Calls Tryz.prog 22 #[.pointer none, .int .i64 who, .int .i64 d] W fun e w' => ∃ q, e = .returned (.tuple #[.bool false, Flt q]) ∧ NewE W w' q 2 := by
  go_enter Tryz.func22, Tryz.ntmps22
  go_wp2_with (go_at_call 75; refine (wrap_iface _ _ _ _).mono ?_; rintro e w' ⟨rfl, hw⟩; obtain ⟨hch, hbb⟩ := ferr hw; clear hw)
  go_ret2
  exact ⟨_, rfl, hch, hbb⟩
theorem rnil_wake (who : Int) (W : World) : Calls Tryz.prog 42 #[.pointer none, .int .i64 who] W fun e w' => ∃ q, e = .returned (.tuple #[.bool false, Flt q]) ∧ NewE W w' q 2 := by
  go_enter Tryz.func42, Tryz.ntmps42
  go_wp2_with (go_at_call 75; refine (wrap_iface _ _ _ _).mono ?_; rintro e w' ⟨rfl, hw⟩; obtain ⟨hch, hbb⟩ := ferr hw; clear hw)
  go_ret2
  exact ⟨_, rfl, hch, hbb⟩
theorem rnil_tick (d : Int) (W : World) : Calls Tryz.prog 43 #[.pointer none, .int .i64 d] W fun e w' => ∃ q, e = .returned (.tuple #[.slice none 0 0, Flt q]) ∧ NewE W w' q 2 := by
  go_enter Tryz.func43, Tryz.ntmps43
  go_wp2_with (go_at_call 75; refine (wrap_iface _ _ _ _).mono ?_; rintro e w' ⟨rfl, hw⟩; obtain ⟨hch, hbb⟩ := ferr hw; clear hw)
  go_ret2
  exact ⟨_, rfl, hch, hbb⟩
theorem rnil_halt (who : Int) (W : World) : Calls Tryz.prog 45 #[.pointer none, .int .i64 who] W fun e w' => ∃ q, e = .returned (Flt q) ∧ NewE W w' q 2 := by
  go_enter Tryz.func45, Tryz.ntmps45
  go_wp2_with (go_at_call 75; refine (wrap_iface _ _ _ _).mono ?_; rintro e w' ⟨rfl, hw⟩; obtain ⟨hch, hbb⟩ := ferr hw; clear hw)
  go_ret
  exact ⟨_, rfl, hch, hbb⟩
theorem rnil_look (id : Int) (W : World) : Calls Tryz.prog 73 #[.pointer none, .int .i64 id] W fun e w' => e = .returned (.agg #[.pointer none, .pointer none, .pointer none, .slice none 0 0]) ∧ Below W.heap.size W w' := by
  by_cases h : id < 0
  · have d1 : decide (id < 0) = true := decide_eq_true h
    go_enter Tryz.func73, Tryz.ntmps73
    go_wp2
    go_returns
    exact ⟨rfl, by go_grown⟩
  · have d1 : decide (id < 0) = false := decide_eq_false h
    have d2 : decide ((0 : Int) ≤ id) = true := decide_eq_true (by omega)
    go_enter Tryz.func73, Tryz.ntmps73
    go_wp2_with (go_at_call 16; refine (rnil_rings _).mono ?_; rintro e w' ⟨rfl, rfl⟩)
    go_returns
    exact ⟨rfl, by go_grown⟩
end Go.Proofs.YtndmhnakfhofpaaGreat
