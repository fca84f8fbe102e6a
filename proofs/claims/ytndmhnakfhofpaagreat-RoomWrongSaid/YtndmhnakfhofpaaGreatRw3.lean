/-
  A claim of a room that is none, by contract. No condition.
-/
import Derived.Test.YtndmhnakfhofpaaGreatRw2
namespace Go.Proofs.YtndmhnakfhofpaaGreat
open Go.RowKit
set_option linter.unusedVariables false

/-- A zero claim's cells. -/
def claz : Array Value := (([.bool false, .pointer none, .int .i64 0, .int .i64 0, .bool false] : List Value) ++ (scC [] 0 0).toList ++ ([.bool false, .bool false] : List Value) ++ tyz.toList).toArray
theorem built_claz : Tryz.prog.built 66 [] = some claz := by kernel_rfl
theorem run_alloc_cla (w : World) : (Instr.alloc 66 true (.tuple #[])).run Tryz.prog w = .ok (.pointer (some ⟨w.heap.size, 0, none⟩)) (w.alloc (.cells claz 66)) := by kernel_rfl
structure ClaZ (cs : Array Value) : Prop where
  size : cs.size = 82
  one : cs.all (·.oneCell') = true
  info : (Tryz.prog.info? 66).map (·.size) = some cs.size
theorem claz_f : ClaZ claz := ⟨by kernel_rfl, by kernel_rfl, by kernel_rfl⟩
theorem wpList_alloc_cla {ops : Array Oper} {rest : List Oper} {o : Oper} {a : Act} {w : World} {Q : Exit → Act → World → Prop} (hg : o.guard = none) (ho : o.op = .alloc 66)
    (h : ∀ zs : Array Value, zs.size = 82 → wpList Tryz.prog ops Q rest (a.put o.dst (.pointer (some ⟨w.heap.size, 0, none⟩))) (w.alloc (.cells zs 66))) : wpList Tryz.prog ops Q (o :: rest) a w := by
  refine Great.wpList_runTo hg o.dst rfl _ _ ?_ (h claz claz_f.size)
  unfold execOp
  simp only [ho, Sem.run_bind, run_alloc_cla, Result.andThen_ok, Sem.run_pure]
theorem NewE.of_refused {W w : World} {E : Value} {n : Int} (h : Refused W w E n) : ∃ q, E = Flt q ∧ NewE W w q n := by
  obtain ⟨q, rfl, h2, h3⟩ := h
  exact ⟨q, rfl, h2, h3⟩

set_option maxHeartbeats 1000000 in
set_option maxRecDepth 100000 in
theorem rnil_claim (id n : Int) (W : World) : Calls Tryz.prog 24 #[.pointer none, .int .i64 id, .int .i64 n] W fun e w' => ∃ cs E, e = .returned (.tuple #[.agg cs, E]) ∧ ClaZ cs ∧ Refused W w' E 2 := by
  have HB := Lib.hid built_claz
  have HS := Lib.hid claz_f
  have HI := Lib.hid claz_f.info
  have HF : Hid (∀ (op : ByteArray) (w : World), Calls Tryz.prog 69 #[.pointer none, .string op, .int .i64 id] w fun e w' => ∃ q, e = .returned (.tuple #[.pointer none, Flt q]) ∧ Refused w w' (Flt q) 2) := Lib.hid fun op w => (rnil_find op id w).mono fun e w' ⟨q, he, hn⟩ => ⟨q, he, q, rfl, hn.1, hn.2⟩
  generalize claz = cs at *
  go_enter Tryz.func24, Tryz.ntmps24
  go_wp2_with (first
    | (refine wpList_alloc_cla rfl rfl ?_; intro zs hz; have HZ := Lib.hid hz; have HG := Lib.hid (obj_new W (.cells zs 66)); clear hz)
    | (go_at_call 69; refine (HF.out _ _).mono ?_; rintro e w1 ⟨q, rfl, hr⟩; have HG1 := Lib.hid ((hr.below.block _ (by simp)).trans HG.out); have HR := Lib.hid (Refused.box hr); clear hr)
    | (refine wpList_build0 rfl 66 rfl cs ?_ ?_; exact HB.out)
    | (refine wpList_store_row rfl 66 (.tmp 6) (.tmp 19) rfl W.heap.size cs rfl rfl 66 _ HG1.out HI.out (by rw [HS.out.size, HZ.out]) HS.out.one ?_))
  exact bodyPost_ret (results_row_fault (p := 6) (u := 7) (by kernel_rfl) _ _ W.heap.size 66 cs (0, 0) _ _ rfl rfl (setRow_heap _ _ _ _ _ _ HG1.out) Tryz.underlying66 rfl HI.out) rfl ⟨cs, _, rfl, HS.out, HR.out.rowT (Nat.le_refl _) HG1.out (by decide) cs⟩
end Go.Proofs.YtndmhnakfhofpaaGreat
