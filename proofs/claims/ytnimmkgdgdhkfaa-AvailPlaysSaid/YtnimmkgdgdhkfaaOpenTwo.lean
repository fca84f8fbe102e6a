/-
  A struct of two integers that is read by value. Condition: it is read as data.
-/
import Derived.Test.YtnimmkgdgdhkfaaShut
import Derived.OpenShut
import Derived.Lib.SmallJoins
namespace Go.Proofs.Ytnimmkgdgdhkfaa
open Go.RowKit Go.ChangeShapes Go.WideShapes Go.Joins Go.Deep

theorem open_pair {H : Type} {enc : TypeId × Value → H} {P : Program} {w : World} {base b0 : Nat} {spare : Nat → Bool} {held : Bool} {r : Reach} {t : TypeId} {f0 f1 : Field} {v : Value} {d : DataW H} {p : List MemPlace}
    (hs : P.underlying t = some (.struct #[f0, f1])) (hone : oneCellFields P #[f0, f1] = true) (hC : P.cellsOf t = 2) (ht0 : P.underlying f0.type = some (.int .i64)) (ht1 : P.underlying f1.type = some (.int .i64))
    (hv : Value.okWide P w r b0 t v) (h : DataW.Trod enc P w base spare held t v d p) :
    ∃ x y, v = .agg #[.int .i64 x, .int .i64 y] ∧ (Lit.int .i64 x).wf = true ∧ (Lit.int .i64 y).wf = true := by
  obtain ⟨v0, v1, y0, y1, n, rfl, _, _, h0, h1⟩ := open_agg2 hs hone hC hv h
  obtain ⟨q0, hq0, _, hw0⟩ := DataW.trod_int ht0 h0
  obtain ⟨q1, hq1, _, hw1⟩ := DataW.trod_int ht1 h1
  simp only [List.cons.injEq, and_true] at hq0 hq1
  exact ⟨q0, q1, by rw [hq0, hq1], hw0, hw1⟩
end Go.Proofs.Ytnimmkgdgdhkfaa
