/-
  The document's Step of layer 10 by contract: each way that doesn't judge. Conditions: the numbers are modest.
-/
import Derived.Test.YtjadapjjilegnaaRs
namespace Go.Proofs.Ytjadapjjilegnaa
open Go.RowKit
set_option linter.unusedVariables false

/-- The two result cells are set, and nothing else. -/
theorem step_end {W Y : World} {B : Nat} {x0 x1 x2 x3 x4 x5 x6 z0 z1 z2 z3 z4 z5 z6 : Value} (hA : Y.heap[B + 1 + 1]? = some (.cells #[x0, x1, x2, x3, x4, x5, x6] 125 (0, 0))) (hB : Y.heap[B + 1 + 1 + 1]? = some (.cells #[z0, z1, z2, z3, z4, z5, z6] 169 (0, 0))) (hW : Below B W Y) (u0 u1 u2 u3 u4 u5 u6 v0 v1 v2 v3 v4 v5 v6 : Value) (hBW : W.heap.size = B := by rfl) :
    ∀ y, y = (put7 (put7 Y (B + 1 + 1) u0 u1 u2 u3 u4 u5 u6) (B + 1 + 1 + 1) v0 v1 v2 v3 v4 v5 v6).drew → y.heap[B + 1 + 1]? = some (.cells #[u0, u1, u2, u3, u4, u5, u6] 125 (0, 0)) ∧ y.heap[B + 1 + 1 + 1]? = some (.cells #[v0, v1, v2, v3, v4, v5, v6] 169 (0, 0)) ∧ Below B W y := by
  intro y hy
  subst hBW
  have e1 := put7_is hA u0 u1 u2 u3 u4 u5 u6
  have f1 := put7_frm Y (W.heap.size + 1 + 1) u0 u1 u2 u3 u4 u5 u6
  have e2 := put7_is (f1.obj hB (by omega)) v0 v1 v2 v3 v4 v5 v6
  have f2 := put7_frm (put7 Y (W.heap.size + 1 + 1) u0 u1 u2 u3 u4 u5 u6) (W.heap.size + 1 + 1 + 1) v0 v1 v2 v3 v4 v5 v6
  have e3 := f2.obj e1 (by omega)
  have hb2 : Below W.heap.size W (put7 Y (W.heap.size + 1 + 1) u0 u1 u2 u3 u4 u5 u6) := hW.trans (f1.below hW.size fun k e => by omega)
  have hb3 := hb2.trans (f2.below hb2.size fun k e => by omega)
  clear f2
  generalize put7 (put7 Y (W.heap.size + 1 + 1) u0 u1 u2 u3 u4 u5 u6) (W.heap.size + 1 + 1 + 1) v0 v1 v2 v3 v4 v5 v6 = Z at *
  subst hy
  exact ⟨e3, e2, Below.drew hb3⟩
theorem step_end2 {W Y : World} {B : Nat} {x0 x1 x2 x3 x4 x5 x6 z0 z1 z2 z3 z4 z5 z6 : Value} (hA : Y.heap[B + 1 + 1]? = some (.cells #[x0, x1, x2, x3, x4, x5, x6] 125 (0, 0))) (hB : Y.heap[B + 1 + 1 + 1]? = some (.cells #[z0, z1, z2, z3, z4, z5, z6] 169 (0, 0))) (hW : Below B W Y) (u0 u1 u2 u3 u4 u5 u6 v0 v1 v2 v3 v4 v5 v6 : Value) (hBW : W.heap.size = B := by rfl) :
    ∀ y, y = put7 (put7 Y (B + 1 + 1) u0 u1 u2 u3 u4 u5 u6) (B + 1 + 1 + 1) v0 v1 v2 v3 v4 v5 v6 → y.heap[B + 1 + 1]? = some (.cells #[u0, u1, u2, u3, u4, u5, u6] 125 (0, 0)) ∧ y.heap[B + 1 + 1 + 1]? = some (.cells #[v0, v1, v2, v3, v4, v5, v6] 169 (0, 0)) ∧ Below B W y := by
  intro y hy
  obtain ⟨h1, h2, h3⟩ := step_end hA hB hW u0 u1 u2 u3 u4 u5 u6 v0 v1 v2 v3 v4 v5 v6 hBW y.drew (by rw [hy])
  clear hy
  exact ⟨h1, h2, ⟨h3.os, h3.tape, h3.output, h3.size, h3.block⟩⟩

end Go.Proofs.Ytjadapjjilegnaa
