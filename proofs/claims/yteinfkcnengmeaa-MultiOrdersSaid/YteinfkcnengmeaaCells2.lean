/-
  Load, Store, Swap and Add of package cells where there is no arena, or no such cell: the error, and nothing is changed. No condition but that the arena's row is its own.
-/
import Derived.Test.YteinfkcnengmeaaCells
namespace Go.Proofs.Yteinfkcnengmeaa
open Go.RowKit
theorem load_nil (id : Int) (W : World) :
    Calls Try.prog 29 #[.pointer none, .int .i64 id] W fun e w' => e = .returned (.tuple #[.int .i64 0, .iface 164 (.pointer (some ⟨W.heap.size, 0, none⟩))]) ∧ W.alloc (.cells #[.string ⟨#[108, 111, 97, 100]⟩, .int .i64 id, .iface 130 (.int .i64 2)] 166) = w' := by
  go_enter Try.func29, Try.ntmps29
  go_wp2_with (go_at_call 86; refine (step_nil _ _ _).mono ?_; rintro e w' ⟨rfl, rfl⟩)
  go_returns
  exact ⟨rfl, rfl⟩
theorem load_none (id : Int) (W : World) (b : Nat) (v : Value) (xs : List Int) (st : Int) (h : Ar W b v xs st) (hid : id < 0 ∨ (xs.length : Int) ≤ id) :
    Calls Try.prog 29 #[.pointer (some ⟨b, 0, none⟩), .int .i64 id] W fun e w' => e = .returned (.tuple #[.int .i64 0, .iface 164 (.pointer (some ⟨W.heap.size, 0, none⟩))]) ∧ W.alloc (.cells #[.string ⟨#[108, 111, 97, 100]⟩, .int .i64 id, .iface 130 (.int .i64 3)] 166) = w' := by
  have H := Lib.hid h
  clear h
  go_enter Try.func29, Try.ntmps29
  go_wp2_with (go_at_call 86; refine (step_none _ _ _ b v xs st H.out hid).mono ?_; rintro e w' ⟨rfl, rfl⟩)
  go_returns
  exact ⟨rfl, rfl⟩
theorem store_nil (id : Int) (x : Int) (W : World) :
    Calls Try.prog 30 #[.pointer none, .int .i64 id, .int .i64 x] W fun e w' => e = .returned (.iface 164 (.pointer (some ⟨W.heap.size, 0, none⟩))) ∧ W.alloc (.cells #[.string ⟨#[115, 116, 111, 114, 101]⟩, .int .i64 id, .iface 130 (.int .i64 2)] 166) = w' := by
  go_enter Try.func30, Try.ntmps30
  go_wp2_with (go_at_call 86; refine (step_nil _ _ _).mono ?_; rintro e w' ⟨rfl, rfl⟩)
  go_returns
  exact ⟨rfl, rfl⟩
theorem store_none (id : Int) (x : Int) (W : World) (b : Nat) (v : Value) (xs : List Int) (st : Int) (h : Ar W b v xs st) (hid : id < 0 ∨ (xs.length : Int) ≤ id) :
    Calls Try.prog 30 #[.pointer (some ⟨b, 0, none⟩), .int .i64 id, .int .i64 x] W fun e w' => e = .returned (.iface 164 (.pointer (some ⟨W.heap.size, 0, none⟩))) ∧ W.alloc (.cells #[.string ⟨#[115, 116, 111, 114, 101]⟩, .int .i64 id, .iface 130 (.int .i64 3)] 166) = w' := by
  have H := Lib.hid h
  clear h
  go_enter Try.func30, Try.ntmps30
  go_wp2_with (go_at_call 86; refine (step_none _ _ _ b v xs st H.out hid).mono ?_; rintro e w' ⟨rfl, rfl⟩)
  go_returns
  exact ⟨rfl, rfl⟩
theorem swap_nil (id : Int) (o : Int) (x : Int) (W : World) :
    Calls Try.prog 32 #[.pointer none, .int .i64 id, .int .i64 o, .int .i64 x] W fun e w' => e = .returned (.tuple #[.bool false, .iface 164 (.pointer (some ⟨W.heap.size, 0, none⟩))]) ∧ W.alloc (.cells #[.string ⟨#[115, 119, 97, 112]⟩, .int .i64 id, .iface 130 (.int .i64 2)] 166) = w' := by
  go_enter Try.func32, Try.ntmps32
  go_wp2_with (go_at_call 86; refine (step_nil _ _ _).mono ?_; rintro e w' ⟨rfl, rfl⟩)
  go_returns
  exact ⟨rfl, rfl⟩
theorem swap_none (id : Int) (o : Int) (x : Int) (W : World) (b : Nat) (v : Value) (xs : List Int) (st : Int) (h : Ar W b v xs st) (hid : id < 0 ∨ (xs.length : Int) ≤ id) :
    Calls Try.prog 32 #[.pointer (some ⟨b, 0, none⟩), .int .i64 id, .int .i64 o, .int .i64 x] W fun e w' => e = .returned (.tuple #[.bool false, .iface 164 (.pointer (some ⟨W.heap.size, 0, none⟩))]) ∧ W.alloc (.cells #[.string ⟨#[115, 119, 97, 112]⟩, .int .i64 id, .iface 130 (.int .i64 3)] 166) = w' := by
  have H := Lib.hid h
  clear h
  go_enter Try.func32, Try.ntmps32
  go_wp2_with (go_at_call 86; refine (step_none _ _ _ b v xs st H.out hid).mono ?_; rintro e w' ⟨rfl, rfl⟩)
  go_returns
  exact ⟨rfl, rfl⟩
theorem add_nil (id : Int) (x : Int) (W : World) :
    Calls Try.prog 33 #[.pointer none, .int .i64 id, .int .i64 x] W fun e w' => e = .returned (.tuple #[.int .i64 0, .iface 164 (.pointer (some ⟨W.heap.size, 0, none⟩))]) ∧ W.alloc (.cells #[.string ⟨#[97, 100, 100]⟩, .int .i64 id, .iface 130 (.int .i64 2)] 166) = w' := by
  go_enter Try.func33, Try.ntmps33
  go_wp2_with (go_at_call 86; refine (step_nil _ _ _).mono ?_; rintro e w' ⟨rfl, rfl⟩)
  go_returns
  exact ⟨rfl, rfl⟩
theorem add_none (id : Int) (x : Int) (W : World) (b : Nat) (v : Value) (xs : List Int) (st : Int) (h : Ar W b v xs st) (hid : id < 0 ∨ (xs.length : Int) ≤ id) :
    Calls Try.prog 33 #[.pointer (some ⟨b, 0, none⟩), .int .i64 id, .int .i64 x] W fun e w' => e = .returned (.tuple #[.int .i64 0, .iface 164 (.pointer (some ⟨W.heap.size, 0, none⟩))]) ∧ W.alloc (.cells #[.string ⟨#[97, 100, 100]⟩, .int .i64 id, .iface 130 (.int .i64 3)] 166) = w' := by
  have H := Lib.hid h
  clear h
  go_enter Try.func33, Try.ntmps33
  go_wp2_with (go_at_call 86; refine (step_none _ _ _ b v xs st H.out hid).mono ?_; rintro e w' ⟨rfl, rfl⟩)
  go_returns
  exact ⟨rfl, rfl⟩
end Go.Proofs.Yteinfkcnengmeaa
