/-
  The arena of package cells, by contract: each call's answer, and what becomes of the arena's block and its row. Conditions: the arena is one whose row is its own; fewer than 2^62 steps; for Alloc fewer than 2097152 cells.
-/
import Derived.Test.YteinfkcnengmeaaErr
import Derived.Test.YteinfkcnengmeaaMem
import Derived.Deep.QuietTactic
import Derived.BigQuiet
import Derived.Deep.RegionHeld3
import Derived.StillTailTactics
import Derived.Outline
namespace Go.Proofs.Yteinfkcnengmeaa
open Go.RowKit

/-- An arena in a block: its row, what it has, how many steps there were. -/
def Ar (W : World) (b : Nat) (v : Value) (xs : List Int) (st : Int) : Prop :=
  W.heap[b]? = some (.cells #[v, .int .i64 st] 135 (0, 0)) ∧ W.ownsRow 0 2 1 v xs.length (xs.map (Value.int .i64))

theorem Ar.c0 {W : World} {b : Nat} {v : Value} {xs : List Int} {st : Int} (h : Ar W b v xs st) : W.cell? ⟨b, 0, none⟩ = some v := by rw [obj_cell h.1]; rfl
theorem Ar.c1 {W : World} {b : Nat} {v : Value} {xs : List Int} {st : Int} (h : Ar W b v xs st) : W.cell? ⟨b, 1, none⟩ = some (.int .i64 st) := by rw [obj_cell h.1]; rfl
theorem Ar.f {W : World} {b : Nat} {v : Value} {xs : List Int} {st : Int} (h : Ar W b v xs st) (i : Nat) : W.frozen? ⟨b, i, none⟩ = false := obj_free h.1 i
theorem Ar.lt {W : World} {b : Nat} {v : Value} {xs : List Int} {st : Int} (h : Ar W b v xs st) : b < W.heap.size := lt_of_block h.1
theorem Ar.ne {W : World} {b : Nat} {v : Value} {xs : List Int} {st : Int} (h : Ar W b v xs st) : v.ownBlock ≠ some b := row_ne h.2 h.1 (by decide)
/-- It stays what it is where neither its block nor its row's turns. -/
theorem Ar.keep {S : Nat → Prop} {W w' : World} {b : Nat} {v : Value} {xs : List Int} {st : Int} (h : Ar W b v xs st) (hf : Frm S W w') (hb : ¬ S b) (hr : ∀ g, v.ownBlock = some g → ¬ S g) : Ar w' b v xs st :=
  ⟨hf.obj h.1 hb, hf.row h.2 hr⟩
theorem Ar.keepB {W w' : World} {b : Nat} {v : Value} {xs : List Int} {st : Int} (h : Ar W b v xs st) (hf : Below W.heap.size W w') : Ar w' b v xs st :=
  h.keep (Frm.of_below hf fun _ => False) id fun _ _ => id

/-- A step in an arena: what it has behind it; nothing else has turned; its row lies where it lay, or in a new block. -/
def ArStep (W w' : World) (b : Nat) (v : Value) (xs : List Int) (st : Int) : Prop :=
  ∃ v', Ar w' b v' xs st ∧ Frm (fun k => k = b ∨ v.ownBlock = some k) W w' ∧ (v'.ownBlock = v.ownBlock ∨ ∀ g, v'.ownBlock = some g → W.heap.size ≤ g)

theorem step_nil (op : ByteArray) (id : Int) (W : World) :
    Calls Try.prog 86 #[.pointer none, .string op, .int .i64 id] W fun e w' => e = .returned (.tuple #[.pointer none, .iface 164 (.pointer (some ⟨W.heap.size, 0, none⟩))]) ∧ W.alloc (.cells #[.string op, .int .i64 id, .iface 130 (.int .i64 2)] 166) = w' := by
  go_enter Try.func86, Try.ntmps86
  go_wp2_with (go_at_call 77; refine (wrap_iface _ _ _ _).mono ?_; rintro e w' ⟨rfl, rfl⟩)
  go_ret2
  exact ⟨rfl, rfl⟩

theorem step_none (op : ByteArray) (id : Int) (W : World) (b : Nat) (v : Value) (xs : List Int) (st : Int) (h : Ar W b v xs st) (hid : id < 0 ∨ (xs.length : Int) ≤ id) :
    Calls Try.prog 86 #[.pointer (some ⟨b, 0, none⟩), .string op, .int .i64 id] W fun e w' => e = .returned (.tuple #[.pointer none, .iface 164 (.pointer (some ⟨W.heap.size, 0, none⟩))]) ∧ W.alloc (.cells #[.string op, .int .i64 id, .iface 130 (.int .i64 3)] 166) = w' := by
  have c0 := h.c0
  obtain ⟨p, c, rfl, hc⟩ := row_form h.2
  generalize xs.length = n at *
  rcases hid with hid | hid
  · go_enter Try.func86, Try.ntmps86
    go_wp2_with (go_at_call 77; refine (wrap_iface _ _ _ _).mono ?_; rintro e w' ⟨rfl, rfl⟩)
    go_ret2
    exact ⟨rfl, rfl⟩
  · have hn : ¬ id < 0 := by omega
    go_enter Try.func86, Try.ntmps86
    go_wp2_with (go_at_call 77; refine (wrap_iface _ _ _ _).mono ?_; rintro e w' ⟨rfl, rfl⟩)
    go_ret2
    exact ⟨rfl, rfl⟩

theorem step_some (op : ByteArray) (i : Nat) (W : World) (b g n c : Nat) (st : Int) (c0 : W.cell? ⟨b, 0, none⟩ = some (.slice (some ⟨g, 0, none⟩) n c)) (c1 : W.cell? ⟨b, 1, none⟩ = some (.int .i64 st)) (f1 : W.frozen? ⟨b, 1, none⟩ = false)
    (h0 : 0 ≤ st) (h1 : st < 4611686018427387904) (hi : i < n) (_hn : n ≤ 9223372036854775807) :
    Calls Try.prog 86 #[.pointer (some ⟨b, 0, none⟩), .string op, .int .i64 i] W fun e w' => e = .returned (.tuple #[.pointer (some ⟨g, i, none⟩), .nilIface]) ∧ W.setCell ⟨b, 1, none⟩ (.int .i64 (st + 1)) = w' := by
  go_enter Try.func86, Try.ntmps86
  go_wp2
  go_ret2
  exact ⟨by simp, rfl⟩
end Go.Proofs.Yteinfkcnengmeaa
