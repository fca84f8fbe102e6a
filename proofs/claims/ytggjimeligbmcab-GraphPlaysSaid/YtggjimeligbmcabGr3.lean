/-
  Marks of 64 nodes, as a block and as a value; the search of package graph in plain words. No condition but those that each theorem names.
-/
import Derived.Test.YtggjimeligbmcabGr2
import Derived.Great.Walk
namespace Go.Proofs.Ytggjimeligbmcab
open Go.RowKit
set_option linter.unusedVariables false

/-! How many aren't marked -/
theorem filter_one (p q : Nat → Bool) (i : Nat) (hp : p i = true) (hq : q i = false) (hpq : ∀ j, j ≠ i → q j = p j) : ∀ l : List Nat, l.Nodup → i ∈ l → (l.filter p).length = (l.filter q).length + 1 := by
  intro l
  induction l with
  | nil => intro _ hi; cases hi
  | cons x l ih =>
    intro hl hi
    rw [List.nodup_cons] at hl
    by_cases e : x = i
    · subst e
      have h1 : l.filter q = l.filter p := List.filter_congr fun j hj => hpq j fun e => hl.1 (e ▸ hj)
      rw [List.filter_cons_of_pos hp, List.filter_cons_of_neg (by simp [hq]), h1]
      rfl
    · have hi' : i ∈ l := by
        rcases List.mem_cons.1 hi with h | h
        · exact absurd h.symm e
        · exact h
      have := ih hl.2 hi'
      have hx := hpq x e
      cases hpx : p x
      · rw [List.filter_cons_of_neg (by simp [hpx]), List.filter_cons_of_neg (by rw [hx, hpx]; decide), this]
      · rw [List.filter_cons_of_pos hpx, List.filter_cons_of_pos (hx.trans hpx), List.length_cons, List.length_cons, this]
def upd (m : Nat → Bool) (x : Nat) : Nat → Bool := fun y => if y = x then true else m y
theorem upd_self (m : Nat → Bool) (x : Nat) : upd m x x = true := by simp [upd]
theorem upd_ne (m : Nat → Bool) {x y : Nat} (h : y ≠ x) : upd m x y = m y := by simp [upd, h]
theorem upd_mono {m : Nat → Bool} {x y : Nat} (h : m y = true) : upd m x y = true := by
  by_cases e : y = x
  · rw [e]; exact upd_self m x
  · rw [upd_ne m e]; exact h
def un (m : Nat → Bool) : Nat := ((List.range 64).filter fun x => !m x).length
theorem un_le (m : Nat → Bool) : un m ≤ 64 := filter_len _ 64
theorem un_upd {m : Nat → Bool} {x : Nat} (h : m x = false) (hx : x < 64) : un m = un (upd m x) + 1 :=
  filter_one _ _ x (by simp [h]) (by simp [upd_self]) (fun j hj => by simp [upd_ne m hj]) _ List.nodup_range (List.mem_range.2 hx)

/-! The search -/
structure Dfs (G : List Nd) (n : Nat) (st : List Nat) (m : Nat → Bool) : Prop where
  i1 : ∀ x, m x = true → Rch G n x
  i2 : ∀ x, x ∈ st → x = n ∨ m x = true
  i3 : ∀ x, (x = n ∨ m x = true) → x ∈ st ∨ ∀ a, a ∈ aft G x → m a = true
  i4 : st.length + 2 * un m ≤ 129
theorem Dfs.start (G : List Nd) (n : Nat) : Dfs G n [n] (fun _ => false) :=
  ⟨fun x h => (by cases h), fun x h => .inl (by simpa using h), fun x h => .inl (by simpa using h), by have := un_le (fun _ => false); simp; omega⟩
theorem Dfs.push {G : List Nd} {n : Nat} {st : List Nat} {t a : Nat} {m : Nat → Bool} (h : Dfs G n (st ++ [t]) m) (ha : a ∈ aft G t) (hm : m a = false) (h64 : a < 64) : Dfs G n (st ++ [t] ++ [a]) (upd m a) := by
  have hr : Rch G n a := by
    rcases h.i2 t (by simp) with rfl | ht
    · exact .one ha
    · exact (h.i1 t ht).snoc ha
  refine ⟨fun x hx => ?_, fun x hx => ?_, fun x hx => ?_, ?_⟩
  · by_cases e : x = a
    · exact e ▸ hr
    · rw [upd_ne m e] at hx
      exact h.i1 x hx
  · rcases List.mem_append.1 hx with hx | hx
    · exact (h.i2 x hx).imp id upd_mono
    · simp at hx
      exact .inr (hx ▸ upd_self m a)
  · by_cases e : x = a
    · exact .inl (by simp [e])
    · rw [upd_ne m e] at hx
      rcases h.i3 x hx with h' | h'
      · exact .inl (List.mem_append_left _ h')
      · exact .inr fun b hb => upd_mono (h' b hb)
  · have := h.i4
    have := un_upd hm h64
    simp only [List.length_append, List.length_singleton] at *
    omega
theorem Dfs.pop {G : List Nd} {n : Nat} {st : List Nat} {t : Nat} {m : Nat → Bool} (h : Dfs G n (st ++ [t]) m) (ha : ∀ a, a ∈ aft G t → m a = true) : Dfs G n st m := by
  refine ⟨h.i1, fun x hx => h.i2 x (List.mem_append_left _ hx), fun x hx => ?_, ?_⟩
  · rcases h.i3 x hx with h' | h'
    · rcases List.mem_append.1 h' with h' | h'
      · exact .inl h'
      · simp at h'
        exact .inr (h' ▸ ha)
    · exact .inr h'
  · have := h.i4
    simp only [List.length_append, List.length_singleton] at *
    omega
theorem Dfs.done {G : List Nd} {n : Nat} {m : Nat → Bool} (h : Dfs G n [] m) (x : Nat) : m x = true ↔ Rch G n x := by
  refine ⟨h.i1 x, fun hr => ?_⟩
  have cl : ∀ y, (y = n ∨ m y = true) → ∀ a, a ∈ aft G y → m a = true := fun y hy => by
    rcases h.i3 y hy with h' | h'
    · cases h'
    · exact h'
  have key : ∀ {i j : Nat}, Rch G i j → (i = n ∨ m i = true) → m j = true := by
    intro i j hr
    induction hr with
    | one ha => exact fun hi => cl _ hi _ ha
    | more ha _ ih => exact fun hi => ih (.inr (cl _ hi _ ha))
  exact key hr (.inl rfl)
/-- The last of a list. -/
theorem last_of {l : List Nat} {k : Nat} (h : l.length = k + 1) : ∃ st t, l = st ++ [t] ∧ st.length = k ∧ l.getD k 0 = t := by
  have hne : l ≠ [] := fun e => by simp [e] at h
  refine ⟨l.dropLast, l.getLast hne, (List.dropLast_concat_getLast hne).symm, by simp [h], ?_⟩
  rw [List.getLast_eq_getElem]
  simp [h]

/-! Marks in memory -/
def mkC (m : Nat → Bool) : Array Value := ((List.range 64).map fun i => Value.bool (m i)).toArray
theorem mkC_size (m : Nat → Bool) : (mkC m).size = 64 := by simp [mkC]
theorem mkC_at (m : Nat → Bool) {j : Nat} (h : j < 64) : (mkC m)[j]? = some (.bool (m j)) := by simp [mkC, h]
theorem mkC_one (m : Nat → Bool) : (mkC m).all (·.oneCell') = true := by
  rw [Array.all_eq_true_iff_forall_mem]
  intro x hx
  simp [mkC] at hx
  obtain ⟨j, _, rfl⟩ := hx
  rfl
theorem mkC_set (m : Nat → Bool) {j : Nat} (h : j < 64) : (mkC m).setIfInBounds j (.bool true) = mkC (upd m j) := by
  apply Array.ext_getElem?
  intro i
  by_cases hi : i < 64
  · rw [mkC_at _ hi]
    by_cases e : i = j
    · subst e
      rw [Array.getElem?_setIfInBounds_self_of_lt (by rw [mkC_size]; exact h), upd_self]
    · rw [Array.getElem?_setIfInBounds_ne (Ne.symm e), mkC_at _ hi, upd_ne m e]
  · rw [Array.getElem?_eq_none (by simp [mkC_size]; omega), Array.getElem?_eq_none (by rw [mkC_size]; omega)]
theorem mkC_info (m : Nat → Bool) : (Try.prog.info? 67).map (·.size) = some (mkC m).size := by
  rw [mkC_size]
  kernel_rfl
/-- A block of marks. -/
def Mk (w : World) (b : Nat) (m : Nat → Bool) : Prop := w.heap[b]? = some (.cells (mkC m) 67 (0, 0))
theorem Mk.cell {w : World} {b : Nat} {m : Nat → Bool} (h : Mk w b m) {j : Nat} (hj : j < 64) : w.cell? ⟨b, j, none⟩ = some (.bool (m j)) := (obj_cell h j).trans (mkC_at m hj)
theorem Mk.free {w : World} {b : Nat} {m : Nat → Bool} (h : Mk w b m) (j : Nat) : w.frozen? ⟨b, j, none⟩ = false := obj_free h j
theorem Mk.keep {w w' : World} {b : Nat} {m : Nat → Bool} (h : Mk w b m) (hb : Below w.heap.size w w') : Mk w' b m := (hb.block _ (lt_of_block h)).trans h
theorem Mk.set {w : World} {b : Nat} {m : Nat → Bool} (h : Mk w b m) {j : Nat} (hj : j < 64) : Mk (w.setCell ⟨b, j, none⟩ (.bool true)) b (upd m j) := by
  have := obj_setCell (i := j) (.bool true) h
  rwa [mkC_set m hj] at this
theorem run_alloc_marks (w : World) : (Instr.alloc 67 true (.tuple #[])).run Try.prog w = .ok (.pointer (some ⟨w.heap.size, 0, none⟩)) (w.alloc (.cells (mkC fun _ => false) 67)) := by kernel_rfl
theorem wpList_alloc_marks {ops : Array Oper} {rest : List Oper} {o : Oper} {a : Act} {w : World} {Q : Exit → Act → World → Prop} (d : Tmp) (hd : o.dst = some d) (hg : o.guard = none) (ho : o.op = .alloc 67)
    (h : ∀ w', Mk w' w.heap.size (fun _ => false) → Below w.heap.size w w' → w.heap.size < w'.heap.size → wpList Try.prog ops Q rest (a.put o.dst (.pointer (some ⟨w.heap.size, 0, none⟩))) w') : wpList Try.prog ops Q (o :: rest) a w := by
  refine wpList_plain hg fun _ hK => ?_
  unfold Oper.wp execOp
  simp only [ho, Sem.run_bind, run_alloc_marks, Result.andThen_ok, Sem.run_pure]
  exact hK _ _ (h _ (obj_new _ _) (balloc (Below.refl _ _) _) (by simp))
end Go.Proofs.Ytggjimeligbmcab
