/-
  The least of some numbers; slices.Min at []int64 by contract. Condition: the slice isn't empty.
-/
import Derived.Test.YtjadapjjilegnaaGreatGq
import Derived.LoopTactic
namespace Go.Proofs.YtjadapjjilegnaaGreat
open Go.RowKit

/-- It is among them, and none is less. -/
def IsMin (l : List Int) (m : Int) : Prop := m ∈ l ∧ ∀ x ∈ l, m ≤ x
theorem IsMin.unique {l : List Int} {m n : Int} (h : IsMin l m) (k : IsMin l n) : m = n := by
  have := h.2 n k.1
  have := k.2 m h.1
  omega
theorem IsMin.one (m : Int) : IsMin [m] m := ⟨by simp, fun x hx => by simp at hx; omega⟩
theorem IsMin.snoc {l : List Int} {m : Int} (h : IsMin l m) (x : Int) : IsMin (l ++ [x]) (min m x) := by
  refine ⟨?_, fun y hy => ?_⟩
  · rcases Int.le_total m x with k | k
    · rw [Int.min_eq_left k]; exact List.mem_append_left _ h.1
    · rw [Int.min_eq_right k]; simp
  · rcases List.mem_append.1 hy with hy | hy
    · have := h.2 y hy; omega
    · simp at hy; omega
theorem IsMin.same {l k : List Int} {m : Int} (h : IsMin l m) (hs : ∀ x, x ∈ l ↔ x ∈ k) : IsMin k m := ⟨(hs m).1 h.1, fun x hx => h.2 x ((hs x).2 hx)⟩

theorem take_snoc {zs : List Int} {k : Nat} (hk : k < zs.length) : zs.take (k + 1) = zs.take k ++ [zs.getD k 0] := by
  rw [List.take_add_one, List.getElem?_eq_getElem hk]
  simp [List.getElem?_eq_getElem hk]

end Go.Proofs.YtjadapjjilegnaaGreat
