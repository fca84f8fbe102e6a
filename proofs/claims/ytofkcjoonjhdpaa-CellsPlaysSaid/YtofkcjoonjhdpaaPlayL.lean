/-
  One thing done to both arenas (norialaw03.play): what is kept: by contract. Conditions: both arenas are the same, at most 1000 cells and steps.
-/
import Derived.Test.YtofkcjoonjhdpaaPlay1
namespace Go.Proofs.Ytofkcjoonjhdpaa
open Go.RowKit

theorem get_lt {xs : List Int} {i : Nat} {y : Int} (h : xs[i]? = some y) : i < xs.length := by
  rcases Nat.lt_or_ge i xs.length with k | k
  · exact k
  · simp [List.getElem?_eq_none k] at h
theorem OpAt.below {W w' : World} {b : Nat} {kind id old x : Int} (h : OpAt W b kind id old x) (hb : Below W.heap.size W w') : OpAt w' b kind id old x := (hb.block b (lt_of_block h)).trans h
theorem OpAt.drew {W : World} {b : Nat} {kind id old x : Int} (h : OpAt W b kind id old x) : OpAt W.drew b kind id old x := h
theorem OpAt.count {W0 W : World} {ba bm b : Nat} {v u : Value} {xs ys : List Int} {st su kind id old x : Int} (h : OpAt W b kind id old x) (t : Two W0 W ba bm v u xs st ys su) (o : Nat) (y : Value) : OpAt (W.setCell ⟨bm, o, none⟩ y) b kind id old x :=
  (Below.heap_setCell _ _ _ _ (obj_ne h t.2.1.1 (by decide))).trans h
theorem Two.drewN {W0 W : World} {ba bm : Nat} {v u : Value} {xs ys : List Int} {st su : Int} (h : Two W0 W ba bm v u xs st ys su) (n : Nat) : Two W0 (W.drewN n) ba bm v u xs st ys su := h.keep ⟨rfl, rfl, rfl, Nat.le_refl _, fun _ _ => rfl⟩

theorem below_drewN (w : World) (n : Nat) : Below w.heap.size w (w.drewN n) := ⟨rfl, rfl, rfl, Nat.le_refl _, fun _ _ => rfl⟩
theorem oneCells (xs : List Int) : ∀ u ∈ xs.map (Value.int .i64), u.oneCell' = true := by
  intro u hu
  simp at hu
  obtain ⟨x, _, rfl⟩ := hu
  rfl
theorem range_set {xs : List Int} {i : Nat} {x : Int} (hx : ∀ y ∈ xs, -9223372036854775808 ≤ y ∧ y ≤ 9223372036854775807) (h1 : -9223372036854775808 ≤ x) (h2 : x ≤ 9223372036854775807) : ∀ y ∈ xs.set i x, -9223372036854775808 ≤ y ∧ y ≤ 9223372036854775807 := by
  intro y hy
  rcases List.mem_or_eq_of_mem_set hy with h | h
  · exact hx y h
  · subst h; exact ⟨h1, h2⟩
theorem set_two {W0 W : World} {ba bm i B p c : Nat} {v u : Value} {q : Option Addr} {xs ys : List Int} {st su x : Int} (h : Two W0 W ba bm v u xs st ys su) (hB : W0.heap.size ≤ B) (ho : W.ownsRow 0 2 1 (.slice q p c) ys.length ((ys.map (Value.int .i64)).set i (.int .i64 x))) (hn : ∀ g, (Value.slice q p c).ownBlock = some g → B ≤ g) (hv : ∀ g, v.ownBlock = some g → g < B) :
    Two W0 ((W.setCell ⟨bm, 0, none⟩ (.slice q p c)).setCell ⟨bm, 1, none⟩ (.int .i64 su)) ba bm v (.slice q p c) xs st (ys.set i x) su :=
  h.fresh hB (by rw [List.length_set, List.map_set]; exact ho) hn hv

end Go.Proofs.Ytofkcjoonjhdpaa
