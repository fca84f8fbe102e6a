/-
  GraphPlays: both graphs side by side. No condition but those that each theorem names.
-/
import Derived.Test.YtggjimeligbmcabGr34
namespace Go.Proofs.Ytggjimeligbmcab
open Go.RowKit
set_option linter.unusedVariables false

/-- Both graphs, and the document's in its box. -/
structure Gb (W w : World) (g mb : Nat) (G : List Nd) (N : List (Bool × Value)) (vn va vg : Value) (M : List Value) : Prop where
  gw : Gw W.heap.size w g G N vn
  rw : Rw W.heap.size w va vg G M
  dis : ∀ k, gOwn g N vn k → ¬ rOwn va vg M k
  box : w.heap[mb]? = some (.cells #[va, vg] 30 (0, 0))
  low : W.heap.size ≤ mb
  lo : Below W.heap.size W w
def Ge (W w : World) (g mb : Nat) (G : List Nd) : Prop := ∃ N vn va vg M, Gb W w g mb G N vn va vg M
section
variable {W w w' : World} {g mb : Nat} {G G' : List Nd} {N : List (Bool × Value)} {vn va vg va' vg' : Value} {M : List Value} {E : Value} {n : Int}
theorem Gb.keep (h : Gb W w g mb G N vn va vg M) (hb : Below w.heap.size w w') : Gb W w' g mb G N vn va vg M :=
  ⟨h.gw.keep hb, h.rw.keep hb, h.dis, (hb.block _ (lt_of_block h.box)).trans h.box, h.low, bthen h.lo hb⟩
theorem Ge.keep (h : Ge W w g mb G) (hb : Below w.heap.size w w') : Ge W w' g mb G := by
  obtain ⟨N, vn, va, vg, M, h⟩ := h
  exact ⟨N, vn, va, vg, M, h.keep hb⟩
theorem own_types (h : Gb W w g mb G N vn va vg M) {k : Nat} (hk : gOwn g N vn k ∨ rOwn va vg M k) : ∃ cs T m, w.heap[k]? = some (.cells cs T m) ∧ T ≠ 30 ∧ T ≠ 76 := by
  rcases hk with (rfl | hk | ⟨i, hi, hk⟩) | (hk | hk | ⟨i, hi, hk⟩)
  · exact ⟨_, _, _, h.gw.blk, by decide, by decide⟩
  · obtain ⟨c, hc⟩ := ownsRow_obj h.gw.row hk
    exact ⟨_, _, _, hc, by decide, by decide⟩
  · obtain ⟨c, hc⟩ := ownsRow_obj (h.gw.own i (by rw [← h.gw.len]; exact hi)) hk
    exact ⟨_, _, _, hc, by decide, by decide⟩
  · obtain ⟨c, hc⟩ := ownsRow_obj h.rw.ra hk
    exact ⟨_, _, _, hc, by decide, by decide⟩
  · obtain ⟨c, hc⟩ := ownsRow_obj h.rw.rg hk
    exact ⟨_, _, _, hc, by decide, by decide⟩
  · obtain ⟨c, hc⟩ := ownsRow_obj (h.rw.own i (by rw [← h.rw.len]; exact hi)) hk
    exact ⟨_, _, _, hc, by decide, by decide⟩
theorem own_op (h : Gb W w g mb G N vn va vg M) {k : Nat} (hk : gOwn g N vn k ∨ rOwn va vg M k) : ∃ cs T m, w.heap[k]? = some (.cells cs T m) ∧ T ≠ 33 := by
  rcases hk with (rfl | hk | ⟨i, hi, hk⟩) | (hk | hk | ⟨i, hi, hk⟩)
  · exact ⟨_, _, _, h.gw.blk, by decide⟩
  · obtain ⟨c, hc⟩ := ownsRow_obj h.gw.row hk
    exact ⟨_, _, _, hc, by decide⟩
  · obtain ⟨c, hc⟩ := ownsRow_obj (h.gw.own i (by rw [← h.gw.len]; exact hi)) hk
    exact ⟨_, _, _, hc, by decide⟩
  · obtain ⟨c, hc⟩ := ownsRow_obj h.rw.ra hk
    exact ⟨_, _, _, hc, by decide⟩
  · obtain ⟨c, hc⟩ := ownsRow_obj h.rw.rg hk
    exact ⟨_, _, _, hc, by decide⟩
  · obtain ⟨c, hc⟩ := ownsRow_obj (h.rw.own i (by rw [← h.rw.len]; exact hi)) hk
    exact ⟨_, _, _, hc, by decide⟩
theorem Gb.opNot (h : Gb W w g mb G N vn va vg M) {k ob : Nat} {cs : Array Value} (hob : w.heap[ob]? = some (.cells cs 33 (0, 0))) (hk : gOwn g N vn k ∨ rOwn va vg M k) : k ≠ ob := fun e => by
  obtain ⟨cs', T, m, h1, h2⟩ := own_op h hk
  rw [e, hob] at h1
  simp only [Option.some.injEq, Obj.cells.injEq] at h1
  exact h2 h1.2.1.symm
theorem Gb.boxNot (h : Gb W w g mb G N vn va vg M) {k : Nat} (hk : gOwn g N vn k ∨ rOwn va vg M k) : k ≠ mb := fun e => by
  obtain ⟨cs, T, m, h1, h2, _⟩ := own_types h hk
  rw [e, h.box] at h1
  simp only [Option.some.injEq, Obj.cells.injEq] at h1
  exact h2 h1.2.1.symm
theorem Gb.held (h : Gb W w g mb G N vn va vg M) {S : Nat → Prop} (hf : Frm S w w') (hS : ∀ k, S k → gOwn g N vn k ∨ rOwn va vg M k) : Held w w' := by
  refine Held.of_frm hf fun k cs T m hk hc => ?_
  obtain ⟨cs', T', m', h1, _, h3⟩ := own_types h (hS k hk)
  rw [h1] at hc
  simp only [Option.some.injEq, Obj.cells.injEq] at hc
  rw [← hc.2.1]
  exact h3
theorem Rw.form {B : Nat} (h : Rw B w va vg G M) : ∃ pa ca pg cg, va = .slice pa G.length ca ∧ vg = .slice pg G.length cg := by
  obtain ⟨qa, qg, h⟩ := h.rr
  obtain ⟨pa, ca, h1, _⟩ := h.a
  obtain ⟨pg, cg, h2, _⟩ := h.g
  exact ⟨pa, ca, pg, cg, h1, h2⟩
theorem Rz.form {B : Nat} {N : List Value} (h : Rz B W w va vg N va' vg' G') : ∃ pa ca pg cg, va' = .slice pa G'.length ca ∧ vg' = .slice pg G'.length cg := by
  obtain ⟨⟨N', h1, _⟩, _⟩ := h
  exact h1.form
/-- The program's graph has changed; the document's not yet. -/
structure Gc (W w : World) (g mb : Nat) (G' G : List Nd) (N' : List (Bool × Value)) (vn' va vg : Value) (M : List Value) : Prop where
  gw : Gw W.heap.size w g G' N' vn'
  rw : Rw W.heap.size w va vg G M
  dis : ∀ k, gOwn g N' vn' k → ¬ rOwn va vg M k
  box : w.heap[mb]? = some (.cells #[va, vg] 30 (0, 0))
  low : W.heap.size ≤ mb
  lo : Below W.heap.size W w
theorem Gb.opG (h : Gb W w g mb G N vn va vg M) (hs : Gs W.heap.size w w' g G N vn G') : ∃ N' vn', Gc W w' g mb G' G N' vn' va vg M := by
  obtain ⟨⟨N', vn', h1, h2⟩, h3⟩ := hs
  refine ⟨N', vn', h1, h.rw.frm h3 fun k hk hg => h.dis k hg hk, fun k hk hr => ?_, h3.obj h.box fun e => h.boxNot (.inl e) rfl, h.low, h.lo.trans (h3.below h.lo.size fun k hk => (h.gw.own_lt hk).1)⟩
  rcases h2 k hk with h4 | h4
  · exact h.dis k h4 hr
  · have := (h.rw.own_lt hr).2
    omega
theorem Gc.keep {N' : List (Bool × Value)} {vn' : Value} (h : Gc W w g mb G' G N' vn' va vg M) (hb : Below w.heap.size w w') : Gc W w' g mb G' G N' vn' va vg M :=
  ⟨h.gw.keep hb, h.rw.keep hb, h.dis, (hb.block _ (lt_of_block h.box)).trans h.box, h.low, bthen h.lo hb⟩
theorem Gc.opR {N' : List (Bool × Value)} {vn' : Value} (h : Gc W w g mb G' G N' vn' va vg M) (hs : Rz W.heap.size w w' va vg M va' vg' G') :
    Gb W ((w'.setCell ⟨mb, 0, none⟩ va').setCell ⟨mb, 1, none⟩ vg') g mb G' N' vn' va' vg' (Classical.choose hs.st) ∧ Held w ((w'.setCell ⟨mb, 0, none⟩ va').setCell ⟨mb, 1, none⟩ vg') ∧ w'.heap[mb]? = some (.cells #[va, vg] 30 (0, 0)) := by
  obtain ⟨h1, h2⟩ := Classical.choose_spec hs.st
  have h3 := hs.fr
  generalize Classical.choose hs.st = M' at *
  have hbx : ∀ k, rOwn va vg M k → k ≠ mb := fun k hk e => by
    rcases hk with hk | hk | ⟨i, hi, hk⟩
    · exact row_ne h.rw.ra h.box (by decide) (e ▸ hk)
    · exact row_ne h.rw.rg h.box (by decide) (e ▸ hk)
    · exact row_ne (h.rw.own i (by rw [← h.rw.len]; exact hi)) h.box (by decide) (e ▸ hk)
  have hb2 : w'.heap[mb]? = some (.cells #[va, vg] 30 (0, 0)) := h3.obj h.box fun e => hbx mb e rfl
  have hf : Frm (fun k => k = mb) w' ((w'.setCell ⟨mb, 0, none⟩ va').setCell ⟨mb, 1, none⟩ vg') := ((Frm.refl (fun k => k = mb) w').setCell (p := ⟨mb, 0, none⟩) rfl _).setCell (p := ⟨mb, 1, none⟩) rfl _
  have hmb := lt_of_block h.box
  have hgr : ∀ k, gOwn g N' vn' k → k ≠ mb := fun k hk e => by
    rcases hk with rfl | hk | ⟨i, hi, hk⟩
    · have := h.gw.blk
      rw [e, h.box] at this
      simp at this
    · exact row_ne h.gw.row h.box (by decide) (e ▸ hk)
    · exact row_ne (h.gw.own i (by rw [← h.gw.len]; exact hi)) h.box (by decide) (e ▸ hk)
  refine ⟨⟨(h.gw.frm h3 h.dis).frm hf fun k hk e => hgr k hk e, h1.frm hf fun k hk e => ?_, fun k hk hr => ?_, ?_, h.low, (h.lo.trans (h3.below h.lo.size fun k hk => (h.rw.own_lt hk).1)).trans (hf.below (Nat.le_trans h.lo.size h3.size) fun k hk => by have := h.low; omega)⟩, ?_, hb2⟩
  · rcases h2 k hk with h4 | h4
    · exact hbx k h4 e
    · omega
  · rcases h2 k hr with h4 | h4
    · exact h.dis k hk h4
    · have := (h.gw.own_lt hk).2
      omega
  · have := obj_setCell (i := 1) vg' (obj_setCell (i := 0) va' hb2)
    simpa using this
  · refine Held.then (Held.of_frm h3 fun k cs T m hk hc => ?_) (Held.of_frm hf fun k cs T m hk hc => ?_)
    · rcases hk with hk | hk | ⟨i, hi, hk⟩
      · obtain ⟨c, hc'⟩ := ownsRow_obj h.rw.ra hk
        rw [hc'] at hc; simp at hc; rw [← hc.2.1]; decide
      · obtain ⟨c, hc'⟩ := ownsRow_obj h.rw.rg hk
        rw [hc'] at hc; simp at hc; rw [← hc.2.1]; decide
      · obtain ⟨c, hc'⟩ := ownsRow_obj (h.rw.own i (by rw [← h.rw.len]; exact hi)) hk
        rw [hc'] at hc; simp at hc; rw [← hc.2.1]; decide
    · have hk2 : k = mb := hk
      rw [hk2, hb2] at hc; simp at hc; rw [← hc.2.1]; decide
end
end Go.Proofs.Ytggjimeligbmcab
