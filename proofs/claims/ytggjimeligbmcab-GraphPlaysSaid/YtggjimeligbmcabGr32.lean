/-
  The document's table of who is ahead of whom, by contract. Conditions: a graph in which nobody is behind itself.
-/
import Derived.Test.YtggjimeligbmcabGr31
namespace Go.Proofs.Ytggjimeligbmcab
open Go.RowKit
set_option linter.unusedVariables false

/-! A row of so many marks -/
def mkB (n : Nat) (m : Nat → Bool) : Array Value := ((List.range n).map fun i => Value.bool (m i)).toArray
theorem mkB_size (n : Nat) (m : Nat → Bool) : (mkB n m).size = n := by simp [mkB]
theorem mkB_at (n : Nat) (m : Nat → Bool) {j : Nat} (h : j < n) : (mkB n m)[j]? = some (.bool (m j)) := by simp [mkB, h]
theorem mkB_set (n : Nat) (m : Nat → Bool) {j : Nat} (h : j < n) : (mkB n m).setIfInBounds j (.bool true) = mkB n (upd m j) := by
  apply Array.ext_getElem?
  intro i
  by_cases hi : i < n
  · rw [mkB_at _ _ hi]
    by_cases e : i = j
    · subst e
      rw [Array.getElem?_setIfInBounds_self_of_lt (by rw [mkB_size]; exact h), upd_self]
    · rw [Array.getElem?_setIfInBounds_ne (Ne.symm e), mkB_at _ _ hi, upd_ne m e]
  · rw [Array.getElem?_eq_none (by simp [mkB_size]; omega), Array.getElem?_eq_none (by rw [mkB_size]; omega)]
theorem made_bools (n : Nat) : madeCells #[Value.bool false] n = mkB n fun _ => false := by
  unfold madeCells mkB
  apply Array.ext_getElem?
  intro i
  by_cases hi : i < n
  · simp [hi, Nat.mod_one]
  · simp [hi]
def rowV (n b : Nat) : Value := .slice (some ⟨b, 0, none⟩) n n
/-- The table so far. -/
structure Tb (W w : World) (gb : Nat) (va vg : Value) (n i : Nat) (v : Value) (rb : List Nat) (t : Nat → Nat → Bool) : Prop where
  row : w.ownsRow W.heap.size 28 1 v i (rb.map (rowV n))
  cells : ∀ j, j < i → w.heap[rb.getD j 0]? = some (.cells (mkB n (t j)) 4 (0, 0))
  low : ∀ j, j < i → W.heap.size ≤ rb.getD j 0
  nod : rb.Nodup
  b : w.heap[gb]? = some (.cells #[va, vg] 30 (0, 0))
  lo : Below W.heap.size W w
section
variable {W w w' : World} {gb n i nb : Nat} {va vg v v' : Value} {rb : List Nat} {t : Nat → Nat → Bool} {f : Nat → Bool}
theorem Tb.len (h : Tb W w gb va vg n i v rb t) : rb.length = i := by simpa using h.row.1
theorem Tb.keep (h : Tb W w gb va vg n i v rb t) (hb : Below w.heap.size w w') : Tb W w' gb va vg n i v rb t :=
  ⟨(Frm.of_below hb fun _ => False).row h.row fun _ _ h => h, fun j hj => (hb.block _ (lt_of_block (h.cells j hj))).trans (h.cells j hj), h.low, h.nod, (hb.block _ (lt_of_block h.b)).trans h.b, bthen h.lo hb⟩
/-- A new row's cell is set. -/
theorem Tb.other (h : Tb W w gb va vg n i v rb t) (hn : w.heap[nb]? = some (.cells (mkB n f) 4 (0, 0))) (hl : W.heap.size ≤ nb) (hne : ∀ j, j < i → rb.getD j 0 ≠ nb) (x : Nat) (u : Value) : Tb W (w.setCell ⟨nb, x, none⟩ u) gb va vg n i v rb t := by
  have fr := (Frm.refl (fun k => k = nb) w).setCell (p := ⟨nb, x, none⟩) rfl u
  exact ⟨fr.row h.row fun k hk e => row_ne h.row hn (by decide) (e ▸ hk), fun j hj => fr.obj (h.cells j hj) (hne j hj), h.low, h.nod, fr.obj h.b (obj_ne h.b hn (by decide)), h.lo.setCell hl _⟩
/-- A row more. -/
theorem Tb.app (h : Tb W w gb va vg n i v rb t) (hn : w.heap[nb]? = some (.cells (mkB n (t i)) 4 (0, 0))) (hl : W.heap.size ≤ nb) (hne : ∀ j, j < i → rb.getD j 0 ≠ nb)
    (hown : w'.ownsRow 0 28 1 v' (i + 1) (rb.map (rowV n) ++ [rowV n nb])) (hf : Frm (fun k => v.ownBlock = some k) w w') (hv : v'.ownBlock = v.ownBlock ∨ ∀ g, v'.ownBlock = some g → w.heap.size ≤ g) :
    Tb W w' gb va vg n (i + 1) v' (rb ++ [nb]) t := by
  have hs := h.lo.size
  have hrl := h.len
  have hat : ∀ j, j < i → (rb ++ [nb]).getD j 0 = rb.getD j 0 := fun j hj => by
    rw [List.getD_eq_getElem?_getD, List.getElem?_append_left (by omega), ← List.getD_eq_getElem?_getD]
  have hself : (rb ++ [nb]).getD i 0 = nb := by
    rw [List.getD_eq_getElem?_getD, ← hrl]
    simp
  refine ⟨?_, fun j hj => ?_, fun j hj => ?_, ?_, hf.obj h.b fun e => row_ne h.row h.b (by decide) e, h.lo.trans (hf.below hs fun k hk => (h.row.lt k hk).1)⟩
  · rw [List.map_append]
    refine row_up hown fun g hg => ?_
    rcases hv with h1 | h1
    · exact (h.row.lt g (h1 ▸ hg)).1
    · have := h1 g hg; omega
  · rcases Nat.lt_or_ge j i with k | k
    · rw [hat j k]
      exact hf.obj (h.cells j k) fun e => row_ne h.row (h.cells j k) (by decide) e
    · obtain rfl : j = i := by omega
      rw [hself]
      exact hf.obj hn fun e => row_ne h.row hn (by decide) e
  · rcases Nat.lt_or_ge j i with k | k
    · rw [hat j k]; exact h.low j k
    · obtain rfl : j = i := by omega
      rw [hself]; exact hl
  · refine List.nodup_append.2 ⟨h.nod, by simp, fun x hx y hy e => ?_⟩
    simp at hy
    subst hy
    obtain ⟨j, hj, e2⟩ := List.getElem_of_mem hx
    refine hne j (by omega) ?_
    rw [← e, ← e2]
    simp [hj]
/-- A cell of the table is set. -/
theorem Tb.put (h : Tb W w gb va vg n i v rb t) {x y : Nat} (hx : x < i) (hy : y < n) : Tb W (w.setCell ⟨rb.getD x 0, y, none⟩ (.bool true)) gb va vg n i v rb (setT t x y) := by
  have fr := (Frm.refl (fun k => k = rb.getD x 0) w).setCell (p := ⟨rb.getD x 0, y, none⟩) rfl (.bool true)
  have hrl := h.len
  refine ⟨fr.row h.row fun k hk e => row_ne h.row (h.cells x hx) (by decide) (e ▸ hk), fun j hj => ?_, h.low, h.nod, fr.obj h.b (obj_ne h.b (h.cells x hx) (by decide)), h.lo.setCell (h.low x hx) _⟩
  by_cases e : j = x
  · subst e
    have h1 := obj_setCell (i := y) (.bool true) (h.cells j hj)
    rw [mkB_set n (t j) hy] at h1
    rw [show setT t j y j = upd (t j) y by funext z; unfold setT upd; by_cases e : z = y <;> simp [e]]
    exact h1
  · rw [show setT t x y j = t j by funext z; unfold setT; rw [if_neg (fun h => e h.1)]]
    refine fr.obj (h.cells j hj) fun hk => e ?_
    have h1 : rb.getD j 0 = rb[j]'(by omega) := by simp [List.getD, List.getElem?_eq_getElem (show j < rb.length by omega)]
    have h2 : rb.getD x 0 = rb[x]'(by omega) := by simp [List.getD, List.getElem?_eq_getElem (show x < rb.length by omega)]
    have hk2 : rb.getD j 0 = rb.getD x 0 := hk
    rw [h1, h2] at hk2
    rcases Nat.lt_trichotomy j x with hlt | hlt | hlt
    · exact absurd hk2 (List.pairwise_iff_getElem.1 h.nod j x (by omega) (by omega) hlt)
    · exact hlt
    · exact absurd hk2.symm (List.pairwise_iff_getElem.1 h.nod x j (by omega) (by omega) hlt)
theorem Tb.rowAt (h : Tb W w gb va vg n i v rb t) {q c x : Nat} (hv : v = .slice (some ⟨q, 0, none⟩) i c) (hx : x < i) : w.cell? ⟨q, x, none⟩ = some (rowV n (rb.getD x 0)) := by
  subst hv
  have hrl := h.len
  have := h.row.cells (g := q) rfl x (rowV n (rb.getD x 0)) (by simp [List.getElem?_eq_getElem (show x < rb.length by omega)])
  rwa [Addr.add_mid, Nat.zero_add] at this
theorem Tb.cell (h : Tb W w gb va vg n i v rb t) {x y : Nat} (hx : x < i) (hy : y < n) : w.cell? ⟨rb.getD x 0, y, none⟩ = some (.bool (t x y)) := (obj_cell (h.cells x hx) y).trans (mkB_at n (t x) hy)
end
end Go.Proofs.Ytggjimeligbmcab
