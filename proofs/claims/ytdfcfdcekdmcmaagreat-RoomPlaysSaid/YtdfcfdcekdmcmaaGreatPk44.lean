/-
  A claim of a room that is none, by contract. No condition.
-/
import Derived.Test.YtdfcfdcekdmcmaaGreatPk24
set_option linter.unusedVariables false
set_option linter.unusedSimpArgs false
namespace Go.Proofs.YtdfcfdcekdmcmaaGreat
open Go.RowKit
set_option linter.unusedVariables false
def claz : Array Value := (([.bool false, .pointer none, .int .i64 0, .int .i64 0, .bool false] : List Value) ++ (scC [] 0 0).toList ++ ([.bool false, .bool false] : List Value) ++ tyz.toList).toArray
theorem built_claz : Tryz.prog.built 66 [] = some claz := by kernel_rfl
theorem run_alloc_cla (w : World) : (Instr.alloc 66 true (.tuple #[])).run Tryz.prog w = .ok (.pointer (some ⟨w.heap.size, 0, none⟩)) (w.alloc (.cells claz 66)) := by kernel_rfl
structure ClaZ (cs : Array Value) : Prop where
  size : cs.size = 82
  one : cs.all (·.oneCell') = true
  info : (Tryz.prog.info? 66).map (·.size) = some cs.size
theorem claz_f : ClaZ claz := ⟨by kernel_rfl, by kernel_rfl, by kernel_rfl⟩
theorem wpList_alloc_cla {ops : Array Oper} {rest : List Oper} {o : Oper} {a : Act} {w : World} {Q : Exit → Act → World → Prop} (hg : o.guard = none) (ho : o.op = .alloc 66)
    (h : ∀ zs : Array Value, zs.size = 82 → wpList Tryz.prog ops Q rest (a.put o.dst (.pointer (some ⟨w.heap.size, 0, none⟩))) (w.alloc (.cells zs 66))) : wpList Tryz.prog ops Q (o :: rest) a w := by
  refine Great.wpList_runTo hg o.dst rfl _ _ ?_ (h claz claz_f.size)
  unfold execOp
  simp only [ho, Sem.run_bind, run_alloc_cla, Result.andThen_ok, Sem.run_pure]
end Go.Proofs.YtdfcfdcekdmcmaaGreat
