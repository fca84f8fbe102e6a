/-
  errors.As at the two targets that package fault takes, a number's variable and a fault's: contracts. Condition: the library's own variable for the type error holds it, as it does from the start.
-/
import Derived.Test.YtofkcjoonjhdpaaDoorErr
namespace Go.Proofs.YtofkcjoonjhdpaaDoor
open Go.RowKit Go.Extern.Stop Go.Stop Go.Extern

/-- The library's variable for the type error. -/
def Glob (W : World) : Prop := W.cell? ⟨0, 0, none⟩ = some (.iface 80 (.agg #[.pointer (some ⟨4, 26, none⟩)]))
theorem Glob.keep {W W' : World} (hb : Below W.heap.size W W') (h : Glob W) : Glob W' := keepc hb h
theorem setCell_other {W : World} {a b : Addr} {v x : Value} (h : a.block ≠ b.block) (hb : W.cell? b = some x) : (W.setCell a v).cell? b = some x := by
  rw [World.cell?_setCell_other _ _ _ _ (by intro e; exact h (by rw [e]))]; exact hb

theorem Tryd.valueOfEP (t : Addr) (w : World) : (callFunc 21 #[.iface 50 (.pointer (some t))]).run Tryd.prog w = .ok (Next.value (.agg #[.pointer (some ⟨4, 50, none⟩), .pointer (some ⟨w.heap.size, 0, none⟩), .int .u64 150])) (w.alloc (.cells #[.pointer (some t)] 50)) := by kernel_rfl
theorem Tryd.valueOfE (n : Int) (w : World) : (callFunc 21 #[.iface 30 (.int .i64 n)]).run Tryd.prog w = .ok (Next.value (.agg #[.pointer (some ⟨4, 30, none⟩), .pointer (some ⟨w.heap.size, 0, none⟩), .int .u64 130])) (w.alloc (.cells #[.int .i64 n] 30)) := by kernel_rfl
theorem Tryd.typeEP (a : Addr) (w : World) : (callFunc 22 #[.agg #[.pointer (some ⟨4, 50, none⟩), .pointer (some a), .int .u64 150]]).run Tryd.prog w = .ok (Next.value (.iface 80 (.agg #[.pointer (some ⟨4, 50, none⟩)]))) w := by kernel_rfl
theorem Tryd.kindEP (w : World) : (callFunc 76 #[.pointer (some ⟨4, 50, none⟩)]).run Tryd.prog w = .ok (Next.value (.int .u8 22)) w := by kernel_rfl
theorem Tryd.kindE (w : World) : (callFunc 76 #[.pointer (some ⟨4, 30, none⟩)]).run Tryd.prog w = .ok (Next.value (.int .u8 2)) w := by kernel_rfl
theorem Tryd.elemEP (w : World) : (callFunc 87 #[.agg #[.pointer (some ⟨4, 50, none⟩)]]).run Tryd.prog w = .ok (Next.value (.iface 80 (.agg #[.pointer (some ⟨4, 30, none⟩)]))) w := by kernel_rfl
theorem Tryd.implementsE (w : World) : (callFunc 88 #[.agg #[.pointer (some ⟨4, 30, none⟩)], .iface 80 (.agg #[.pointer (some ⟨4, 26, none⟩)])]).run Tryd.prog w = .ok (Next.value (.bool true)) w := by kernel_rfl
theorem Tryd.typeOfE (v : Value) (w : World) : (callFunc 37 #[.iface 30 v]).run Tryd.prog w = .ok (Next.value (.iface 80 (.agg #[.pointer (some ⟨4, 30, none⟩)]))) w := by kernel_rfl
theorem Tryd.assignableEE (w : World) : (callFunc 85 #[.agg #[.pointer (some ⟨4, 30, none⟩)], .iface 80 (.agg #[.pointer (some ⟨4, 30, none⟩)])]).run Tryd.prog w = .ok (Next.value (.bool true)) w := by kernel_rfl
theorem Tryd.assignableEF (w : World) : (callFunc 85 #[.agg #[.pointer (some ⟨4, 30, none⟩)], .iface 80 (.agg #[.pointer (some ⟨4, 36, none⟩)])]).run Tryd.prog w = .ok (Next.value (.bool false)) w := by kernel_rfl
theorem Tryd.noAsE (v : Value) (xT : TypeId) (w : World) : (Instr.typeAssert (.iface 30 v) xT 84 true).run Tryd.prog w = .ok (.tuple #[.nilIface, .bool false]) w := run_typeAssert_lacksB Tryd.underlying84 (by kernel_rfl) (by kernel_rfl) v xT w
theorem Tryd.partsEP (a : Addr) (w : World) : (ReflectliteValue.parts (.agg #[.pointer (some ⟨4, 50, none⟩), .pointer (some a), .int .u64 150])).run Tryd.prog w = .ok (some (50, a, 150)) w := by kernel_rfl
theorem Tryd.partsEA (a : Addr) (w : World) : (ReflectliteValue.parts (.agg #[.pointer (some ⟨4, 30, none⟩), .pointer (some a), .int .u64 386])).run Tryd.prog w = .ok (some (30, a, 386)) w := by kernel_rfl
theorem Tryd.partsE (a : Addr) (w : World) : (ReflectliteValue.parts (.agg #[.pointer (some ⟨4, 30, none⟩), .pointer (some a), .int .u64 130])).run Tryd.prog w = .ok (some (30, a, 130)) w := by kernel_rfl
theorem Tryd.elemOfEP (w : World) : (Rtype.elem? 50).run Tryd.prog w = .ok (some 30) w := by kernel_rfl
theorem Tryd.mkEA (p : Addr) (w : World) : (ReflectliteValue.mk 30 p ReflectliteValue.flagAddr).run Tryd.prog w = .ok (.agg #[.pointer (some ⟨4, 30, none⟩), .pointer (some p), .int .u64 386]) w := by kernel_rfl
theorem Tryd.directE (w : World) : (Rtype.directlyAssignable 30 30).run Tryd.prog w = .ok true w := by kernel_rfl
theorem Tryd.isNilEP (a p : Addr) (W : World) (ha : W.cell? a = some (.pointer (some p))) :
    (callFunc 23 #[.agg #[.pointer (some ⟨4, 50, none⟩), .pointer (some a), .int .u64 150]]).run Tryd.prog W = .ok (Next.value (.bool false)) W := by
  rw [@run_callFunc_extern Tryd.prog 23 _ (ReflectliteValue.method (ReflectliteValue.valueError "reflectlite.Value.IsNil" 0) ReflectliteValue.isNil) Tryd.func23 (by kernel_rfl) (by kernel_rfl) (by kernel_rfl) (by kernel_rfl)]
  change Result.andThen (Sem.run Tryd.prog (ReflectliteValue.parts _ >>= _) W) _ = _
  simp only [Sem.run_bind, Array.getLit, List.getElem_toArray, List.getElem_cons_zero, Tryd.partsEP, Result.andThen]
  simp [ReflectliteValue.isNil, loadVar, isAgg, underlying, Tryd.underlying50, ha, Result.andThen]
theorem Tryd.elemVEP (a p : Addr) (W : World) (ha : W.cell? a = some (.pointer (some p))) :
    (callFunc 39 #[.agg #[.pointer (some ⟨4, 50, none⟩), .pointer (some a), .int .u64 150]]).run Tryd.prog W = .ok (Next.value (.agg #[.pointer (some ⟨4, 30, none⟩), .pointer (some p), .int .u64 386])) W := by
  rw [@run_callFunc_extern Tryd.prog 39 _ (ReflectliteValue.method (ReflectliteValue.valueError "reflectlite.Value.Elem" 0) ReflectliteValue.elem) Tryd.func39 (by kernel_rfl) (by kernel_rfl) (by kernel_rfl) (by kernel_rfl)]
  change Result.andThen (Sem.run Tryd.prog (ReflectliteValue.parts _ >>= _) W) _ = _
  simp only [Sem.run_bind, Array.getLit, List.getElem_toArray, List.getElem_cons_zero, Tryd.partsEP, Result.andThen]
  simp [ReflectliteValue.elem, loadVar, isAgg, underlying, Tryd.underlying50, ha, Result.andThen, Tryd.elemOfEP, Tryd.mkEA]
theorem Tryd.setE (ta b : Addr) (n : Int) (old : Value) (W : World) (hb : W.cell? b = some (.int .i64 n)) (ht : W.cell? ta = some old) (hf : W.frozen? ta = false) :
    (callFunc 40 #[.agg #[.pointer (some ⟨4, 30, none⟩), .pointer (some ta), .int .u64 386], .agg #[.pointer (some ⟨4, 30, none⟩), .pointer (some b), .int .u64 130]]).run Tryd.prog W = .ok (Next.value (.tuple #[])) (W.setCell ta (.int .i64 n)) := by
  rw [@run_callFunc_extern Tryd.prog 40 _ ReflectliteValue.set Tryd.func40 (by kernel_rfl) (by kernel_rfl) (by kernel_rfl) (by kernel_rfl)]
  change Result.andThen (Sem.run Tryd.prog (ReflectliteValue.parts _ >>= _) W) _ = _
  simp only [Sem.run_bind, Array.getLit, List.getElem_toArray, List.getElem_cons_zero, List.getElem_cons_succ, Tryd.partsEA, Tryd.partsE, Result.andThen]
  simp [ReflectliteValue.flagAddr, loadVar, isAgg, underlying, Tryd.underlying30, hb, Result.andThen, Tryd.directE, storeVar, Value.cells, storeCells, Addr.add]
  rw [run_store Tryd.prog W ta _ _ (by rfl)]
  simp [ht, hf]
theorem Tryd.valueOfFP (t : Addr) (w : World) : (callFunc 21 #[.iface 38 (.pointer (some t))]).run Tryd.prog w = .ok (Next.value (.agg #[.pointer (some ⟨4, 38, none⟩), .pointer (some ⟨w.heap.size, 0, none⟩), .int .u64 150])) (w.alloc (.cells #[.pointer (some t)] 38)) := by kernel_rfl
theorem Tryd.valueOfF (n : Addr) (w : World) : (callFunc 21 #[.iface 36 (.pointer (some n))]).run Tryd.prog w = .ok (Next.value (.agg #[.pointer (some ⟨4, 36, none⟩), .pointer (some ⟨w.heap.size, 0, none⟩), .int .u64 150])) (w.alloc (.cells #[.pointer (some n)] 36)) := by kernel_rfl
theorem Tryd.typeFP (a : Addr) (w : World) : (callFunc 22 #[.agg #[.pointer (some ⟨4, 38, none⟩), .pointer (some a), .int .u64 150]]).run Tryd.prog w = .ok (Next.value (.iface 80 (.agg #[.pointer (some ⟨4, 38, none⟩)]))) w := by kernel_rfl
theorem Tryd.kindFP (w : World) : (callFunc 76 #[.pointer (some ⟨4, 38, none⟩)]).run Tryd.prog w = .ok (Next.value (.int .u8 22)) w := by kernel_rfl
theorem Tryd.kindF (w : World) : (callFunc 76 #[.pointer (some ⟨4, 36, none⟩)]).run Tryd.prog w = .ok (Next.value (.int .u8 22)) w := by kernel_rfl
theorem Tryd.elemFP (w : World) : (callFunc 87 #[.agg #[.pointer (some ⟨4, 38, none⟩)]]).run Tryd.prog w = .ok (Next.value (.iface 80 (.agg #[.pointer (some ⟨4, 36, none⟩)]))) w := by kernel_rfl
theorem Tryd.implementsF (w : World) : (callFunc 88 #[.agg #[.pointer (some ⟨4, 36, none⟩)], .iface 80 (.agg #[.pointer (some ⟨4, 26, none⟩)])]).run Tryd.prog w = .ok (Next.value (.bool true)) w := by kernel_rfl
theorem Tryd.typeOfF (v : Value) (w : World) : (callFunc 37 #[.iface 36 v]).run Tryd.prog w = .ok (Next.value (.iface 80 (.agg #[.pointer (some ⟨4, 36, none⟩)]))) w := by kernel_rfl
theorem Tryd.assignableFE (w : World) : (callFunc 85 #[.agg #[.pointer (some ⟨4, 36, none⟩)], .iface 80 (.agg #[.pointer (some ⟨4, 30, none⟩)])]).run Tryd.prog w = .ok (Next.value (.bool false)) w := by kernel_rfl
theorem Tryd.assignableFF (w : World) : (callFunc 85 #[.agg #[.pointer (some ⟨4, 36, none⟩)], .iface 80 (.agg #[.pointer (some ⟨4, 36, none⟩)])]).run Tryd.prog w = .ok (Next.value (.bool true)) w := by kernel_rfl
theorem Tryd.noAsF (v : Value) (xT : TypeId) (w : World) : (Instr.typeAssert (.iface 36 v) xT 84 true).run Tryd.prog w = .ok (.tuple #[.nilIface, .bool false]) w := run_typeAssert_lacksB Tryd.underlying84 (by kernel_rfl) (by kernel_rfl) v xT w
theorem Tryd.partsFP (a : Addr) (w : World) : (ReflectliteValue.parts (.agg #[.pointer (some ⟨4, 38, none⟩), .pointer (some a), .int .u64 150])).run Tryd.prog w = .ok (some (38, a, 150)) w := by kernel_rfl
theorem Tryd.partsFA (a : Addr) (w : World) : (ReflectliteValue.parts (.agg #[.pointer (some ⟨4, 36, none⟩), .pointer (some a), .int .u64 406])).run Tryd.prog w = .ok (some (36, a, 406)) w := by kernel_rfl
theorem Tryd.partsF (a : Addr) (w : World) : (ReflectliteValue.parts (.agg #[.pointer (some ⟨4, 36, none⟩), .pointer (some a), .int .u64 150])).run Tryd.prog w = .ok (some (36, a, 150)) w := by kernel_rfl
theorem Tryd.elemOfFP (w : World) : (Rtype.elem? 38).run Tryd.prog w = .ok (some 36) w := by kernel_rfl
theorem Tryd.mkFA (p : Addr) (w : World) : (ReflectliteValue.mk 36 p ReflectliteValue.flagAddr).run Tryd.prog w = .ok (.agg #[.pointer (some ⟨4, 36, none⟩), .pointer (some p), .int .u64 406]) w := by kernel_rfl
theorem Tryd.directF (w : World) : (Rtype.directlyAssignable 36 36).run Tryd.prog w = .ok true w := by kernel_rfl
theorem Tryd.isNilFP (a p : Addr) (W : World) (ha : W.cell? a = some (.pointer (some p))) :
    (callFunc 23 #[.agg #[.pointer (some ⟨4, 38, none⟩), .pointer (some a), .int .u64 150]]).run Tryd.prog W = .ok (Next.value (.bool false)) W := by
  rw [@run_callFunc_extern Tryd.prog 23 _ (ReflectliteValue.method (ReflectliteValue.valueError "reflectlite.Value.IsNil" 0) ReflectliteValue.isNil) Tryd.func23 (by kernel_rfl) (by kernel_rfl) (by kernel_rfl) (by kernel_rfl)]
  change Result.andThen (Sem.run Tryd.prog (ReflectliteValue.parts _ >>= _) W) _ = _
  simp only [Sem.run_bind, Array.getLit, List.getElem_toArray, List.getElem_cons_zero, Tryd.partsFP, Result.andThen]
  simp [ReflectliteValue.isNil, loadVar, isAgg, underlying, Tryd.underlying38, ha, Result.andThen]
theorem Tryd.elemVFP (a p : Addr) (W : World) (ha : W.cell? a = some (.pointer (some p))) :
    (callFunc 39 #[.agg #[.pointer (some ⟨4, 38, none⟩), .pointer (some a), .int .u64 150]]).run Tryd.prog W = .ok (Next.value (.agg #[.pointer (some ⟨4, 36, none⟩), .pointer (some p), .int .u64 406])) W := by
  rw [@run_callFunc_extern Tryd.prog 39 _ (ReflectliteValue.method (ReflectliteValue.valueError "reflectlite.Value.Elem" 0) ReflectliteValue.elem) Tryd.func39 (by kernel_rfl) (by kernel_rfl) (by kernel_rfl) (by kernel_rfl)]
  change Result.andThen (Sem.run Tryd.prog (ReflectliteValue.parts _ >>= _) W) _ = _
  simp only [Sem.run_bind, Array.getLit, List.getElem_toArray, List.getElem_cons_zero, Tryd.partsFP, Result.andThen]
  simp [ReflectliteValue.elem, loadVar, isAgg, underlying, Tryd.underlying38, ha, Result.andThen, Tryd.elemOfFP, Tryd.mkFA]
theorem Tryd.setF (ta b : Addr) (n : Addr) (old : Value) (W : World) (hb : W.cell? b = some (.pointer (some n))) (ht : W.cell? ta = some old) (hf : W.frozen? ta = false) :
    (callFunc 40 #[.agg #[.pointer (some ⟨4, 36, none⟩), .pointer (some ta), .int .u64 406], .agg #[.pointer (some ⟨4, 36, none⟩), .pointer (some b), .int .u64 150]]).run Tryd.prog W = .ok (Next.value (.tuple #[])) (W.setCell ta (.pointer (some n))) := by
  rw [@run_callFunc_extern Tryd.prog 40 _ ReflectliteValue.set Tryd.func40 (by kernel_rfl) (by kernel_rfl) (by kernel_rfl) (by kernel_rfl)]
  change Result.andThen (Sem.run Tryd.prog (ReflectliteValue.parts _ >>= _) W) _ = _
  simp only [Sem.run_bind, Array.getLit, List.getElem_toArray, List.getElem_cons_zero, List.getElem_cons_succ, Tryd.partsFA, Tryd.partsF, Result.andThen]
  simp [ReflectliteValue.flagAddr, loadVar, isAgg, underlying, Tryd.underlying36, hb, Result.andThen, Tryd.directF, storeVar, Value.cells, storeCells, Addr.add]
  rw [run_store Tryd.prog W ta _ _ (by rfl)]
  simp [ht, hf]
end Go.Proofs.YtofkcjoonjhdpaaDoor
