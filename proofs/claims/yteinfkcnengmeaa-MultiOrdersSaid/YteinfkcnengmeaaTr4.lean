/-
  What a step of a claim of package multi works on: the claim's own block and the result's, beside the sequencer, its arena and its buffer. No condition but those that each theorem names.
-/
import Derived.Test.YteinfkcnengmeaaTr3
import Derived.Great.Walk
import Derived.Deep.RegionHeld3
namespace Go.Proofs.Yteinfkcnengmeaa
open Go.RowKit

theorem run_alloc_try (w : World) : (Instr.alloc 116 true (.tuple #[])).run Try.prog w = .ok (.pointer (some ⟨w.heap.size, 0, none⟩)) (w.alloc (.cells tyz 116)) := by kernel_rfl
/-- A new claim's block, whatever is in it. -/
theorem wpList_alloc_try {ops : Array Oper} {rest : List Oper} {o : Oper} {a : Act} {w : World} {Q : Exit → Act → World → Prop} (hg : o.guard = none) (ho : o.op = .alloc 116)
    (h : ∀ zs : Array Value, zs.size = 40 → wpList Try.prog ops Q rest (a.put o.dst (.pointer (some ⟨w.heap.size, 0, none⟩))) (w.alloc (.cells zs 116))) : wpList Try.prog ops Q (o :: rest) a w := by
  refine Great.wpList_runTo hg o.dst rfl _ _ ?_ (h tyz tyz_f.size)
  unfold execOp
  simp only [ho, Sem.run_bind, run_alloc_try, Result.andThen_ok, Sem.run_pure]

theorem Ms.prot_lt {R : Rest} {W0 W : World} {s : Sh} {ids xs : List Int} {sw st : Int} (h : Ms R W0 W s ids sw xs st) {k : Nat} (hk : R.prot k) : k < W.heap.size := by
  obtain ⟨cs, h1, h2, h3, v, _, _, _, _, _, h6⟩ := h
  exact (h6.1 k (.inl hk)).1

/-- The claim's own block, the result's, and all else. -/
structure M2 (R : Rest) (W0 w : World) (s : Sh) (ids : List Int) (sw : Int) (xs : List Int) (st : Int) (b : Nat) (ts zs : Array Value) : Prop where
  ms : Ms ((R.and b ts 116).and (b + 1) zs 116) W0 w s ids sw xs st
  z : zs.size = 40
  low : W0.heap.size ≤ b
  np : ∀ k, R.prot k → k < b

set_option linter.unusedVariables false
section
variable {R : Rest} {W0 W w w' : World} {s : Sh} {ids xs : List Int} {sw st : Int} {b : Nat} {ts zs : Array Value}
theorem M2.start (h : Ms R W0 W s ids sw xs st) (ts : Array Value) : ∀ zs : Array Value, zs.size = 40 → M2 R W0 ((W.alloc (.cells ts 116)).alloc (.cells zs 116)) s ids sw xs st W.heap.size ts zs := by
  intro zs hz
  have hT := Two.start W ts zs hz
  exact ⟨((h.keep hT.low).with hT.t (by decide) (by decide) (by decide)).with hT.r (by decide) (by decide) (by decide), hz, h.below.size, fun k hk => h.prot_lt hk⟩
theorem M2.t (h : M2 R W0 w s ids sw xs st b ts zs) : Blk w b ts 116 := h.ms.inv.1.2
theorem M2.r (h : M2 R W0 w s ids sw xs st b ts zs) : Blk w (b + 1) zs 116 := h.ms.inv.2
theorem M2.cell (h : M2 R W0 w s ids sw xs st b ts zs) (i : Nat) : w.cell? ⟨b, i, none⟩ = ts[i]? := obj_cell h.t i
theorem M2.free (h : M2 R W0 w s ids sw xs st b ts zs) (i : Nat) : w.frozen? ⟨b, i, none⟩ = false := obj_free h.t i
theorem M2.keep (h : M2 R W0 w s ids sw xs st b ts zs) (hb : Below w.heap.size w w') : M2 R W0 w' s ids sw xs st b ts zs := ⟨h.ms.keep hb, h.z, h.low, h.np⟩
/-- The claim's block turns. -/
theorem M2.turn {ts' : Array Value} (h : M2 R W0 w s ids sw xs st b ts zs) (hf : Frm (fun k => k = b) w w') (hb : Blk w' b ts' 116) : M2 R W0 w' s ids sw xs st b ts' zs := by
  have hr := h.r
  have ht := h.t
  refine ⟨h.ms.turn hf (fun g o ho e => ?_) (fun g hg => ?_) ⟨⟨?_, hb⟩, hf.obj hr (by omega)⟩, h.z, h.low, h.np⟩
  · subst e
    rw [ht] at ho
    cases ho
    exact ⟨h.low, _, _, _, rfl, by decide, by decide, by decide, by decide⟩
  · exact .inl hg
  · exact R.ok _ _ h.ms.inv.1.1 fun k hk => hf.block k (Nat.lt_trans (h.np k hk) (lt_of_block ht)) (by have := h.np k hk; omega)
theorem M2.set (h : M2 R W0 w s ids sw xs st b ts zs) (i : Nat) (v : Value) : M2 R W0 (w.setCell ⟨b, i, none⟩ v) s ids sw xs st b (ts.setIfInBounds i v) zs :=
  h.turn ((Frm.refl (fun k => k = b) w).setCell (p := ⟨b, i, none⟩) rfl v) (obj_setCell _ h.t)
theorem obj_setCells {b : Nat} {T : TypeId} {m : Nat × Nat} : ∀ (vs : List Value) (o : Nat) (w : World) (l : List Value), w.heap[b]? = some (.cells l.toArray T m) → o + vs.length ≤ l.length →
    (w.setCells b o vs).heap[b]? = some (.cells (l.take o ++ vs ++ l.drop (o + vs.length)).toArray T m)
  | [], o, w, l, h, _ => by simpa [World.setCells] using h
  | v :: vs, o, w, l, h, hl => by
    have h1 := obj_setCell (i := o) v h
    rw [List.setIfInBounds_toArray] at h1
    simp only [List.length_cons] at hl
    have h2 := obj_setCells vs (o + 1) _ _ h1 (by simp; omega)
    rw [World.setCells, h2]
    rw [List.drop_set_of_lt (by omega)]
    have e1 : (l.set o v).take (o + 1) = l.take o ++ [v] := by
      have hm : min o l.length = o := by omega
      rw [List.set_eq_take_append_cons_drop, if_pos (by omega), List.take_append]
      simp [hm, List.take_take]
    rw [e1]
    simp [Nat.add_assoc, Nat.add_comm 1]
theorem frm_setCells {b : Nat} : ∀ (vs : List Value) (o : Nat) (a w' : World), Frm (fun k => k = b) a w' → Frm (fun k => k = b) a (w'.setCells b o vs)
  | [], _, _, _, h => h
  | v :: vs, o, a, w, h => frm_setCells vs (o + 1) a _ (h.setCell (p := ⟨b, o, none⟩) rfl v)
theorem putSc_set {ts cs : Array Value} (h : ts.size = 40) (hc : cs.size = 35) : ts.toList.take 5 ++ cs.toList ++ ts.toList.drop (5 + cs.toList.length) = (putSc ts cs).toList := by
  have : ts.toList.drop (5 + cs.toList.length) = [] := List.drop_of_length_le (by simp; omega)
  rw [this]
  simp [putSc]
theorem M2.scan (h : M2 R W0 w s ids sw xs st b ts zs) {cs : Array Value} (hs : ts.size = 40) (hc : cs.size = 35) : M2 R W0 (w.setCells b 5 cs.toList) s ids sw xs st b (putSc ts cs) zs := by
  refine h.turn (frm_setCells _ 5 _ _ (Frm.refl _ _)) ?_
  have ht : w.heap[b]? = some (.cells ts.toList.toArray 116 (0, 0)) := by rw [Array.toArray_toList]; exact h.t
  have := obj_setCells cs.toList 5 w ts.toList ht (by simp; omega)
  rw [putSc_set hs hc, Array.toArray_toList] at this
  exact this
theorem M2.there (h : M2 R W0 w s ids sw xs st b ts zs) (hs : ts.size = 40) : w.there b 5 35 := by
  intro j hj
  refine ⟨?_, obj_free h.t _⟩
  rw [obj_cell h.t, Array.getElem?_eq_getElem (by omega)]
  rfl
/-- The result is stored. -/
theorem M2.out (h : M2 R W0 w s ids sw xs st b ts zs) (cs : Array Value) : (w.setRow (b + 1) cs).heap[b + 1]? = some (.cells cs 116 (0, 0)) ∧ Ms R W0 (w.setRow (b + 1) cs) s ids sw xs st := by
  have hr := h.r
  have hf : Frm (fun k => k = b + 1) w (w.setRow (b + 1) cs) := (Frm.refl (fun k => k = b + 1) w).setRow rfl cs
  refine ⟨setRow_heap _ _ _ _ _ _ hr, h.ms.turn hf (fun g o ho e => ?_) (fun g hg => .inl (.inl (.inl hg))) ?_⟩
  · subst e
    rw [hr] at ho
    cases ho
    exact ⟨by have := h.low; omega, _, _, _, rfl, by decide, by decide, by decide, by decide⟩
  · exact R.ok _ _ h.ms.inv.1.1 fun k hk => hf.block k (Nat.lt_trans (h.np k hk) (lt_of_block h.t)) (by have := h.np k hk; omega)
end
end Go.Proofs.Yteinfkcnengmeaa
