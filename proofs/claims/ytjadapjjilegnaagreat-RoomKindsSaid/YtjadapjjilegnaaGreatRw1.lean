/-
  A room that is none; a room without a ring: what is refused, by contract. No condition but those that each theorem names.
  A room that is none: what its rings are; kinds and rings that are none. No condition but those that each theorem names.
-/
import Derived.Test.YtjadapjjilegnaaGreatRo5
set_option linter.unusedSimpArgs false
namespace Go.Proofs.YtjadapjjilegnaaGreat
open Go.RowKit
set_option linter.unusedVariables false

theorem rnil_arena (W : World) : Calls Tryz.prog 33 #[.pointer none] W fun e w' => e = .returned (.pointer none) ∧ W = w' := by
  go_enter Tryz.func33, Tryz.ntmps33
  go_wp2
  go_ret
  exact ⟨rfl, rfl⟩
theorem rnil_clock (W : World) : Calls Tryz.prog 47 #[.pointer none] W fun e w' => e = .returned (.pointer none) ∧ W = w' := by
  go_enter Tryz.func47, Tryz.ntmps47
  go_wp2
  go_ret
  exact ⟨rfl, rfl⟩
theorem rnil_actors (W : World) : Calls Tryz.prog 14 #[.pointer none] W fun e w' => e = .returned (.pointer none) ∧ W = w' := by
  go_enter Tryz.func14, Tryz.ntmps14
  go_wp2
  go_ret
  exact ⟨rfl, rfl⟩
theorem rnil_rings (W : World) : Calls Tryz.prog 16 #[.pointer none] W fun e w' => e = .returned (.int .i64 0) ∧ W = w' := by
  go_enter Tryz.func16, Tryz.ntmps16
  go_wp2
  go_ret
  exact ⟨rfl, rfl⟩
theorem tlen_nil (W : World) : Calls Tryz.prog 15 #[.pointer none] W fun e w' => e = .returned (.int .i64 0) ∧ W = w' := by
  go_enter Tryz.func15, Tryz.ntmps15
  go_wp2
  go_ret
  exact ⟨rfl, rfl⟩

/-- An error by its number, in a new world. -/
def NewE (W w : World) (q : Nat) (n : Int) : Prop := Chain w (Flt q) 1 n ∧ Below W.heap.size W w

theorem rnil_find (op : ByteArray) (id : Int) (W : World) : Calls Tryz.prog 69 #[.pointer none, .string op, .int .i64 id] W fun e w' => ∃ q, e = .returned (.tuple #[.pointer none, Flt q]) ∧ NewE W w' q 2 := by
  go_enter Tryz.func69, Tryz.ntmps69
  go_wp2_with (go_at_call 75; refine (wrap_iface _ _ _ _).mono ?_; rintro e w' ⟨rfl, hw⟩; obtain ⟨hch, hbb⟩ := ferr hw; clear hw)
  go_ret2
  exact ⟨_, rfl, hch, hbb⟩
theorem rnil_ring (n k : Int) (W : World) : Calls Tryz.prog 23 #[.pointer none, .int .i64 n, .int .i64 k] W fun e w' => ∃ q, e = .returned (.tuple #[.int .i64 0, Flt q]) ∧ NewE W w' q 2 := by
  go_enter Tryz.func23, Tryz.ntmps23
  go_wp2_with (go_at_call 75; refine (wrap_iface _ _ _ _).mono ?_; rintro e w' ⟨rfl, hw⟩; obtain ⟨hch, hbb⟩ := ferr hw; clear hw)
  go_ret2
  exact ⟨_, rfl, hch, hbb⟩
theorem rnil_show (id at' hi : Int) (W : World) : Calls Tryz.prog 29 #[.pointer none, .int .i64 id, .int .i64 at', .int .i64 hi] W fun e w' => ∃ q, e = .returned (.tuple #[.int .i64 0, Flt q]) ∧ NewE W w' q 2 := by
  go_enter Tryz.func29, Tryz.ntmps29
  go_wp2_with (go_at_call 69; refine (rnil_find _ _ _).mono ?_; rintro e w' ⟨q, rfl, hn⟩)
  go_ret2
  exact ⟨_, rfl, hn⟩
theorem rnil_signal (id : Int) (W : World) : Calls Tryz.prog 20 #[.pointer none, .int .i64 id] W fun e w' => ∃ q, e = .returned (.tuple #[.int .i64 0, Flt q]) ∧ NewE W w' q 2 := by
  go_enter Tryz.func20, Tryz.ntmps20
  go_wp2_with (go_at_call 69; refine (rnil_find _ _ _).mono ?_; rintro e w' ⟨q, rfl, hn⟩)
  go_ret2
  exact ⟨_, rfl, hn⟩
theorem rnil_enlist (id who : Int) (W : World) : Calls Tryz.prog 17 #[.pointer none, .int .i64 id, .int .i64 who] W fun e w' => ∃ q, e = .returned (Flt q) ∧ NewE W w' q 2 := by
  go_enter Tryz.func17, Tryz.ntmps17
  go_wp2_with (go_at_call 69; refine (rnil_find _ _ _).mono ?_; rintro e w' ⟨q, rfl, hn⟩)
  go_ret
  exact ⟨_, rfl, hn⟩
theorem rnil_park (who d : Int) (W : World) : Calls Tryz.prog 22 #[.pointer none, .int .i64 who, .int .i64 d] W fun e w' => ∃ q, e = .returned (.tuple #[.bool false, Flt q]) ∧ NewE W w' q 2 := by
  go_enter Tryz.func22, Tryz.ntmps22
  go_wp2_with (go_at_call 75; refine (wrap_iface _ _ _ _).mono ?_; rintro e w' ⟨rfl, hw⟩; obtain ⟨hch, hbb⟩ := ferr hw; clear hw)
  go_ret2
  exact ⟨_, rfl, hch, hbb⟩
theorem rnil_wake (who : Int) (W : World) : Calls Tryz.prog 42 #[.pointer none, .int .i64 who] W fun e w' => ∃ q, e = .returned (.tuple #[.bool false, Flt q]) ∧ NewE W w' q 2 := by
  go_enter Tryz.func42, Tryz.ntmps42
  go_wp2_with (go_at_call 75; refine (wrap_iface _ _ _ _).mono ?_; rintro e w' ⟨rfl, hw⟩; obtain ⟨hch, hbb⟩ := ferr hw; clear hw)
  go_ret2
  exact ⟨_, rfl, hch, hbb⟩
theorem rnil_tick (d : Int) (W : World) : Calls Tryz.prog 43 #[.pointer none, .int .i64 d] W fun e w' => ∃ q, e = .returned (.tuple #[.slice none 0 0, Flt q]) ∧ NewE W w' q 2 := by
  go_enter Tryz.func43, Tryz.ntmps43
  go_wp2_with (go_at_call 75; refine (wrap_iface _ _ _ _).mono ?_; rintro e w' ⟨rfl, hw⟩; obtain ⟨hch, hbb⟩ := ferr hw; clear hw)
  go_ret2
  exact ⟨_, rfl, hch, hbb⟩
theorem rnil_halt (who : Int) (W : World) : Calls Tryz.prog 45 #[.pointer none, .int .i64 who] W fun e w' => ∃ q, e = .returned (Flt q) ∧ NewE W w' q 2 := by
  go_enter Tryz.func45, Tryz.ntmps45
  go_wp2_with (go_at_call 75; refine (wrap_iface _ _ _ _).mono ?_; rintro e w' ⟨rfl, hw⟩; obtain ⟨hch, hbb⟩ := ferr hw; clear hw)
  go_ret
  exact ⟨_, rfl, hch, hbb⟩
theorem rnil_look (id : Int) (W : World) : Calls Tryz.prog 73 #[.pointer none, .int .i64 id] W fun e w' => e = .returned (.agg #[.pointer none, .pointer none, .pointer none, .slice none 0 0]) ∧ Below W.heap.size W w' := by
  by_cases h : id < 0
  · have d1 : decide (id < 0) = true := decide_eq_true h
    go_enter Tryz.func73, Tryz.ntmps73
    go_wp2
    go_returns
    exact ⟨rfl, by go_grown⟩
  · have d1 : decide (id < 0) = false := decide_eq_false h
    have d2 : decide ((0 : Int) ≤ id) = true := decide_eq_true (by omega)
    go_enter Tryz.func73, Tryz.ntmps73
    go_wp2_with (go_at_call 16; refine (rnil_rings _).mono ?_; rintro e w' ⟨rfl, rfl⟩)
    go_returns
    exact ⟨rfl, by go_grown⟩
end Go.Proofs.YtjadapjjilegnaaGreat
namespace Go.Proofs.YtjadapjjilegnaaGreat
open Go.RowKit
set_option linter.unusedVariables false

theorem seq_none (W : World) : Calls Tryz.prog 95 #[.agg #[.pointer none, .pointer none, .pointer none, .slice none 0 0]] W fun e w' => e = .returned (.iface 53 (.pointer none)) ∧ Below W.heap.size W w' := by
  go_enter Tryz.func95, Tryz.ntmps95
  go_wp2
  go_ret
  exact ⟨rfl, by go_grown⟩
theorem scursor_nil (W : World) : Calls Tryz.prog 195 #[.pointer none] W fun e w' => e = .returned (.int .i64 (-1)) ∧ W = w' := by
  go_enter Tryz.func195, Tryz.ntmps195
  go_wp2
  go_ret
  exact ⟨rfl, rfl⟩
theorem sgate_nil (W : World) : Calls Tryz.prog 196 #[.pointer none] W fun e w' => e = .returned (.pointer none) ∧ W = w' := by
  go_enter Tryz.func196, Tryz.ntmps196
  go_wp2
  go_ret
  exact ⟨rfl, rfl⟩
theorem rnil_cursor (id : Int) (W : World) : Calls Tryz.prog 36 #[.pointer none, .int .i64 id] W fun e w' => e = .returned (.int .i64 (-1)) ∧ Below W.heap.size W w' := by
  go_enter Tryz.func36, Tryz.ntmps36
  go_wp2_with (first
    | (go_at_call 73; refine (rnil_look _ _).mono ?_; rintro e w1 ⟨rfl, hb⟩; have HB := Lib.hid hb; clear hb)
    | (go_at_call 95; refine (seq_none _).mono ?_; rintro e w2 ⟨rfl, hb⟩; have HB2 := Lib.hid (bthen HB.out hb); clear hb)
    | (go_at_call 195; refine (scursor_nil _).mono ?_; rintro e w3 ⟨rfl, rfl⟩))
  go_ret
  exact ⟨rfl, HB2.out⟩
theorem rnil_gate (id : Int) (W : World) : Calls Tryz.prog 37 #[.pointer none, .int .i64 id] W fun e w' => e = .returned (.pointer none) ∧ Below W.heap.size W w' := by
  go_enter Tryz.func37, Tryz.ntmps37
  go_wp2_with (first
    | (go_at_call 73; refine (rnil_look _ _).mono ?_; rintro e w1 ⟨rfl, hb⟩; have HB := Lib.hid hb; clear hb)
    | (go_at_call 95; refine (seq_none _).mono ?_; rintro e w2 ⟨rfl, hb⟩; have HB2 := Lib.hid (bthen HB.out hb); clear hb)
    | (go_at_call 196; refine (sgate_nil _).mono ?_; rintro e w3 ⟨rfl, rfl⟩))
  go_ret
  exact ⟨rfl, HB2.out⟩
theorem rfld0 (x y z u : Value) (w : World) : (Instr.field 149 (.agg #[x, y, z, u]) 0).run Tryz.prog w = .ok x w := by kernel_rfl
theorem rfld2 (x y z u : Value) (w : World) : (Instr.field 149 (.agg #[x, y, z, u]) 2).run Tryz.prog w = .ok z w := by kernel_rfl
theorem rfld3 (x y z u : Value) (w : World) : (Instr.field 149 (.agg #[x, y, z, u]) 3).run Tryz.prog w = .ok u w := by kernel_rfl
theorem rnil_slots (id : Int) (W : World) : Calls Tryz.prog 39 #[.pointer none, .int .i64 id] W fun e w' => e = .returned (.pointer none) ∧ Below W.heap.size W w' := by
  have hfl := rfld0
  go_enter Tryz.func39, Tryz.ntmps39
  go_wp2_with (go_at_call 73; refine (rnil_look _ _).mono ?_; rintro e w1 ⟨rfl, hb⟩; have HB := Lib.hid hb; clear hb)
  go_ret
  exact ⟨rfl, HB.out⟩
theorem rnil_many (id : Int) (W : World) : Calls Tryz.prog 31 #[.pointer none, .int .i64 id] W fun e w' => e = .returned (.bool false) ∧ Below W.heap.size W w' := by
  have hfl := rfld2
  go_enter Tryz.func31, Tryz.ntmps31
  go_wp2_with (go_at_call 73; refine (rnil_look _ _).mono ?_; rintro e w1 ⟨rfl, hb⟩; have HB := Lib.hid hb; clear hb)
  go_ret
  exact ⟨rfl, HB.out⟩
theorem rnil_waiting (id : Int) (W : World) : Calls Tryz.prog 18 #[.pointer none, .int .i64 id] W fun e w' => e = .returned (.slice none 0 0) ∧ Below W.heap.size W w' := by
  have hfl := rfld3
  go_enter Tryz.func18, Tryz.ntmps18
  go_wp2_with (first
    | (go_at_call 73; refine (rnil_look _ _).mono ?_; rintro e w1 ⟨rfl, hb⟩; have HB := Lib.hid hb; clear hb)
    | (go_at_call 72; refine (Tryz.slices_Clone_int_nil 0 0 _).mono ?_; rintro e w' ⟨rfl, rfl⟩))
  go_ret
  exact ⟨rfl, HB.out⟩

/-! A room without a ring -/
theorem rring_kind (r : Nat) (n : Int) (W : World) : Calls Tryz.prog 23 #[.pointer (some ⟨r, 0, none⟩), .int .i64 n, .int .i64 2] W fun e w' => ∃ q, e = .returned (.tuple #[.int .i64 0, Flt q]) ∧ NewE W w' q 1 := by
  go_enter Tryz.func23, Tryz.ntmps23
  go_wp2_with (go_at_call 75; refine (wrap_iface _ _ _ _).mono ?_; rintro e w' ⟨rfl, hw⟩; obtain ⟨hch, hbb⟩ := ferr hw; clear hw)
  go_ret2
  exact ⟨_, rfl, hch, hbb⟩
theorem rfind_none (op : ByteArray) {W : World} {r : Nat} (c3 : W.cell? ⟨r, 3, none⟩ = some (.slice none 0 0)) (id : Int) : Calls Tryz.prog 69 #[.pointer (some ⟨r, 0, none⟩), .string op, .int .i64 id] W fun e w' => ∃ q, e = .returned (.tuple #[.pointer none, Flt q]) ∧ NewE W w' q 3 := by
  by_cases h : id < 0
  · have d1 : decide (id < 0) = true := decide_eq_true h
    go_enter Tryz.func69, Tryz.ntmps69
    go_wp2_with (go_at_call 75; refine (wrap_iface _ _ _ _).mono ?_; rintro e w' ⟨rfl, hw⟩; obtain ⟨hch, hbb⟩ := ferr hw; clear hw)
    go_ret2
    exact ⟨_, rfl, hch, hbb⟩
  · have d1 : decide (id < 0) = false := decide_eq_false h
    have d2 : decide ((0 : Int) ≤ id) = true := decide_eq_true (by omega)
    go_enter Tryz.func69, Tryz.ntmps69
    go_wp2_with (go_at_call 75; refine (wrap_iface _ _ _ _).mono ?_; rintro e w' ⟨rfl, hw⟩; obtain ⟨hch, hbb⟩ := ferr hw; clear hw)
    go_ret2
    exact ⟨_, rfl, hch, hbb⟩
theorem rpublished_none {W : World} {r : Nat} (c3 : W.cell? ⟨r, 3, none⟩ = some (.slice none 0 0)) (id at' : Int) : Calls Tryz.prog 30 #[.pointer (some ⟨r, 0, none⟩), .int .i64 id, .int .i64 at'] W fun e w' => ∃ q, e = .returned (.tuple #[.int .i64 0, Flt q]) ∧ NewE W w' q 3 := by
  go_enter Tryz.func30, Tryz.ntmps30
  go_wp2_with (go_at_call 69; refine (rfind_none _ c3 _).mono ?_; rintro e w' ⟨q, rfl, hn⟩)
  go_ret2
  exact ⟨_, rfl, hn⟩
end Go.Proofs.YtjadapjjilegnaaGreat
