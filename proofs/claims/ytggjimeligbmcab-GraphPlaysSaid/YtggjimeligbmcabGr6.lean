/-
  The order of a graph, and how deep its nodes stand, in plain lists. No condition but those that each theorem names; nothing here speaks of a program.
-/
import Derived.Test.YtggjimeligbmcabGr0
namespace Go.Proofs.Ytggjimeligbmcab
set_option linter.unusedVariables false

/-! The order -/
def mayB (G : List Nd) (l : List Nat) (n : Nat) : Bool := hasB G n && !l.contains n && (aft G n).all (fun a => l.contains a)
theorem mayB_iff {G : List Nd} {l : List Nat} {n : Nat} : mayB G l n = true ↔ hasB G n = true ∧ n ∉ l ∧ ∀ a, a ∈ aft G n → a ∈ l := by
  unfold mayB
  rw [Bool.and_eq_true, Bool.and_eq_true]
  simp [and_assoc]
def nxt (G : List Nd) (l : List Nat) : Option Nat := (List.range G.length).find? (mayB G l)
def ordL (G : List Nd) : Nat → List Nat
  | 0 => []
  | k + 1 => match nxt G (ordL G k) with
    | some n => ordL G k ++ [n]
    | none => ordL G k
structure OrdOk (G : List Nd) (l : List Nat) : Prop where
  nod : l.Nodup
  inn : ∀ x, x ∈ l → hasB G x = true
  pre : ∀ p x s, l = p ++ x :: s → ∀ a, a ∈ aft G x → a ∈ p
theorem OrdOk.nil (G : List Nd) : OrdOk G [] := ⟨List.nodup_nil, fun x h => (by cases h), fun p x s h => (by cases p <;> cases h)⟩
theorem snoc_split {l p s : List Nat} {x n : Nat} (h : l ++ [n] = p ++ x :: s) : (p = l ∧ x = n ∧ s = []) ∨ ∃ s', l = p ++ x :: s' := by
  rcases List.eq_nil_or_concat s with rfl | ⟨s', y, rfl⟩
  · have := List.append_inj' h rfl
    simp at this
    exact .inl ⟨this.1.symm, this.2.symm, rfl⟩
  · refine .inr ⟨s', ?_⟩
    rw [List.concat_eq_append] at h
    have h2 : l ++ [n] = (p ++ x :: s') ++ [y] := by simpa using h
    exact (List.append_inj' h2 rfl).1
theorem OrdOk.snoc {G : List Nd} {l : List Nat} {n : Nat} (h : OrdOk G l) (hm : mayB G l n = true) : OrdOk G (l ++ [n]) := by
  obtain ⟨h1, h2, h3⟩ := mayB_iff.1 hm
  refine ⟨List.nodup_append.2 ⟨h.nod, by simp, fun x hx y hy => ?_⟩, fun x hx => ?_, fun p x s e a ha => ?_⟩
  · simp at hy
    subst hy
    exact fun e => h2 (e ▸ hx)
  · rcases List.mem_append.1 hx with hx | hx
    · exact h.inn x hx
    · simp at hx
      exact hx ▸ h1
  · rcases snoc_split e with ⟨rfl, rfl, _⟩ | ⟨s', e'⟩
    · exact h3 a ha
    · exact h.pre p x s' e' a ha
theorem nxt_some {G : List Nd} {l : List Nat} {n : Nat} (h : nxt G l = some n) : mayB G l n = true := List.find?_some h
theorem nxt_none {G : List Nd} {l : List Nat} (h : nxt G l = none) (n : Nat) : mayB G l n = false := by
  cases e : mayB G l n
  · rfl
  · have hn := has_lt (mayB_iff.1 e).1
    have := List.find?_eq_none.1 h n (List.mem_range.2 hn)
    exact absurd e this
/-- The first that may. -/
theorem nxt_first {G : List Nd} {l : List Nat} {n : Nat} (hm : mayB G l n = true) (hf : ∀ k, k < n → mayB G l k = false) : nxt G l = some n := by
  have hn := has_lt (mayB_iff.1 hm).1
  unfold nxt
  rw [List.find?_range_eq_some]
  exact ⟨hm, List.mem_range.2 hn, fun j hj => by rw [hf j hj]; rfl⟩
theorem nxt_no {G : List Nd} {l : List Nat} (hf : ∀ k, k < G.length → mayB G l k = false) : nxt G l = none := by
  unfold nxt
  rw [List.find?_eq_none]
  intro x hx
  rw [hf x (List.mem_range.1 hx)]
  decide
theorem ordL_some {G : List Nd} {k n : Nat} (h : nxt G (ordL G k) = some n) : ordL G (k + 1) = ordL G k ++ [n] := by
  rw [ordL, h]
theorem ordL_none {G : List Nd} {k : Nat} (h : nxt G (ordL G k) = none) : ordL G (k + 1) = ordL G k := by
  rw [ordL, h]
theorem ordL_ok (G : List Nd) : ∀ k, OrdOk G (ordL G k) := by
  intro k
  induction k with
  | zero => exact .nil G
  | succ k ih =>
    cases h : nxt G (ordL G k) with
    | none => rw [ordL_none h]; exact ih
    | some n => rw [ordL_some h]; exact ih.snoc (nxt_some h)
theorem OrdOk.len {G : List Nd} {l : List Nat} (h : OrdOk G l) : l.length ≤ G.length := by
  have := List.Nodup.length_le_of_subset h.nod (l₂ := List.range G.length) (fun a ha => List.mem_range.2 (has_lt (h.inn a ha)))
  simpa using this
theorem ordL_stay {G : List Nd} {k : Nat} (h : nxt G (ordL G k) = none) : ∀ m, ordL G (k + m) = ordL G k := by
  intro m
  induction m with
  | zero => rfl
  | succ m ih =>
    have : nxt G (ordL G (k + m)) = none := by rw [ih]; exact h
    rw [show k + (m + 1) = (k + m) + 1 by omega, ordL_none this, ih]
def ordG (G : List Nd) : List Nat := ordL G G.length
theorem ordL_end {G : List Nd} {k : Nat} (h : nxt G (ordL G k) = none) (hk : (ordL G k).length = k) : ordG G = ordL G k := by
  have := (ordL_ok G k).len
  obtain ⟨m, hm⟩ : ∃ m, G.length = k + m := ⟨G.length - k, by omega⟩
  unfold ordG
  rw [hm]
  exact ordL_stay h m
theorem ordL_or (G : List Nd) : ∀ k, (ordL G k).length = k ∨ nxt G (ordL G k) = none := by
  intro k
  induction k with
  | zero => exact .inl rfl
  | succ k ih =>
    rcases ih with ih | ih
    · cases h : nxt G (ordL G k) with
      | none => right; rw [ordL_none h]; exact h
      | some n => left; rw [ordL_some h]; simp [ih]
    · right; rw [ordL_none ih]; exact ih
theorem ordG_stuck (G : List Nd) : nxt G (ordG G) = none := by
  rcases ordL_or G G.length with h | h
  · cases e : nxt G (ordG G) with
    | none => rfl
    | some n =>
      have := ((ordL_ok G G.length).snoc (nxt_some e)).len
      simp [h] at this
      omega
  · exact h
theorem ordG_ok (G : List Nd) : OrdOk G (ordG G) := ordL_ok G _
theorem ordG_all {G : List Nd} (h : GOk G) {x : Nat} (hx : hasB G x = true) : x ∈ ordG G := by
  obtain ⟨r, hr⟩ := h.rank
  have key : ∀ k x, r x < k → hasB G x = true → x ∈ ordG G := by
    intro k
    induction k with
    | zero => intro x hk; omega
    | succ k ih =>
      intro x hk hx
      rcases Classical.em (x ∈ ordG G) with hm | hm
      · exact hm
      · have h0 := nxt_none (ordG_stuck G) x
        have : mayB G (ordG G) x = true := mayB_iff.2 ⟨hx, hm, fun a ha => ih a (by have := hr x a ha; omega) (h.inn x a ha)⟩
        rw [h0] at this
        cases this
  exact key (r x + 1) x (by omega) hx
theorem ordG_mem {G : List Nd} (h : GOk G) (x : Nat) : x ∈ ordG G ↔ hasB G x = true := ⟨(ordG_ok G).inn x, ordG_all h⟩

/-! How deep -/
def dmx (d : Nat → Nat) : List Nat → Nat → Nat
  | [], m => m
  | a :: l, m => dmx d l (max m (d a + 1))
theorem dmx_snoc (d : Nat → Nat) (l : List Nat) (a m : Nat) : dmx d (l ++ [a]) m = max (dmx d l m) (d a + 1) := by
  induction l generalizing m with
  | nil => rfl
  | cons x l ih => exact ih _
theorem dmx_congr {d d' : Nat → Nat} {l : List Nat} (h : ∀ a, a ∈ l → d a = d' a) (m : Nat) : dmx d l m = dmx d' l m := by
  induction l generalizing m with
  | nil => rfl
  | cons x l ih =>
    show dmx d l (max m (d x + 1)) = dmx d' l (max m (d' x + 1))
    rw [h x (by simp), ih fun a ha => h a (List.mem_cons_of_mem _ ha)]
theorem dmx_le {d : Nat → Nat} {l : List Nat} {b : Nat} (h : ∀ a, a ∈ l → d a + 1 ≤ b) {m : Nat} (hm : m ≤ b) : dmx d l m ≤ b := by
  induction l generalizing m with
  | nil => exact hm
  | cons x l ih => exact ih (fun a ha => h a (List.mem_cons_of_mem _ ha)) (by have := h x (by simp); omega)
theorem dmx_start {d : Nat → Nat} {l : List Nat} (m : Nat) : m ≤ dmx d l m := by
  induction l generalizing m with
  | nil => exact Nat.le_refl _
  | cons x l ih => exact Nat.le_trans (Nat.le_max_left _ _) (ih _)
theorem dmx_ge {d : Nat → Nat} {l : List Nat} {a : Nat} (h : a ∈ l) (m : Nat) : d a + 1 ≤ dmx d l m := by
  induction l generalizing m with
  | nil => cases h
  | cons x l ih =>
    rcases List.mem_cons.1 h with rfl | h
    · exact Nat.le_trans (Nat.le_max_right _ _) (dmx_start _)
    · exact ih h _
def DepOk (G : List Nd) (d : Nat → Nat) : Prop := ∀ n, d n = dmx d (aft G n) 0
theorem DepOk.same {G : List Nd} (h : GOk G) {d d' : Nat → Nat} (h1 : DepOk G d) (h2 : DepOk G d') (n : Nat) : d n = d' n := by
  obtain ⟨r, hr⟩ := h.rank
  have key : ∀ k x, r x < k → d x = d' x := by
    intro k
    induction k with
    | zero => intro x hk; omega
    | succ k ih =>
      intro x hk
      rw [h1 x, h2 x]
      exact dmx_congr (fun a ha => ih a (by have := hr x a ha; omega)) 0
  exact key (r n + 1) n (by omega)
theorem DepOk.off {G : List Nd} (h : GOk G) {d : Nat → Nat} (h1 : DepOk G d) {n : Nat} (hn : hasB G n = false) : d n = 0 := by
  rw [h1 n, h.off n hn]
  rfl
/-- Half done: those that are placed have their depth, no other has. -/
structure DepTo (G : List Nd) (p : List Nat) (d : Nat → Nat) : Prop where
  ok : ∀ x, x ∈ p → d x = dmx d (aft G x) 0
  no : ∀ x, x ∉ p → d x = 0
  le : ∀ x, x ∈ p → d x + 1 ≤ p.length
def setD (d : Nat → Nat) (x v : Nat) : Nat → Nat := fun y => if y = x then v else d y
theorem setD_self (d : Nat → Nat) (x v : Nat) : setD d x v x = v := by simp [setD]
theorem setD_ne (d : Nat → Nat) {x y : Nat} (v : Nat) (h : y ≠ x) : setD d x v y = d y := by simp [setD, h]
theorem setD_twice (d : Nat → Nat) (x u v : Nat) : setD (setD d x u) x v = setD d x v := by
  funext y
  simp only [setD]
  split <;> rfl
theorem DepTo.nil (G : List Nd) : DepTo G [] fun _ => 0 := ⟨fun x h => (by cases h), fun x _ => rfl, fun x h => (by cases h)⟩
theorem DepTo.snoc {G : List Nd} {p : List Nat} {d : Nat → Nat} {x : Nat} (h : DepTo G p d) (hx : x ∉ p) (ha : ∀ a, a ∈ aft G x → a ∈ p) (hp : ∀ y, y ∈ p → ∀ a, a ∈ aft G y → a ∈ p) : DepTo G (p ++ [x]) (setD d x (dmx d (aft G x) 0)) := by
  have ne : ∀ y, y ∈ p → y ≠ x := fun y hy e => hx (e ▸ hy)
  refine ⟨fun y hy => ?_, fun y hy => ?_, fun y hy => ?_⟩
  · rcases List.mem_append.1 hy with hy | hy
    · rw [setD_ne _ _ (ne y hy), h.ok y hy]
      exact dmx_congr (fun a haa => (setD_ne _ _ (ne a (hp y hy a haa))).symm) 0
    · simp at hy
      subst hy
      rw [setD_self]
      exact dmx_congr (fun a haa => (setD_ne _ _ (ne a (ha a haa))).symm) 0
  · simp at hy
    rw [setD_ne _ _ hy.2]
    exact h.no y hy.1
  · rcases List.mem_append.1 hy with hy | hy
    · rw [setD_ne _ _ (ne y hy)]
      have := h.le y hy
      simp
      omega
    · simp at hy
      subst hy
      rw [setD_self]
      have := dmx_le (d := d) (l := aft G y) (b := p.length) (fun a haa => h.le a (ha a haa)) (Nat.zero_le _)
      simp
      omega
theorem OrdOk.closed {G : List Nd} {l p s : List Nat} (h : OrdOk G l) (e : l = p ++ s) : ∀ y, y ∈ p → ∀ a, a ∈ aft G y → a ∈ p := by
  intro y hy a ha
  obtain ⟨p1, s1, rfl⟩ := List.append_of_mem hy
  have := h.pre p1 y (s1 ++ s) (by simp [e]) a ha
  exact List.mem_append_left _ this
theorem DepTo.done {G : List Nd} (h : GOk G) {d : Nat → Nat} (hd : DepTo G (ordG G) d) : DepOk G d := fun n => by
  cases e : hasB G n
  · rw [hd.no n (fun hm => by rw [(ordG_mem h n).1 hm] at e; cases e), h.off n e]
    rfl
  · exact hd.ok n (ordG_all h e)
/-- The first of the order. -/
theorem DepOk.at_ {G : List Nd} (h : GOk G) {d : Nat → Nat} (h1 : DepOk G d) : ∀ p x s, ordG G = p ++ x :: s → d x ≤ p.length := by
  have key : ∀ k, ∀ p x s, p.length < k → ordG G = p ++ x :: s → d x ≤ p.length := by
    intro k
    induction k with
    | zero => intro p x s hk; omega
    | succ k ih =>
      intro p x s hk e
      rw [h1 x]
      refine dmx_le (fun a ha => ?_) (Nat.zero_le _)
      have hp := (ordG_ok G).pre p x s e a ha
      obtain ⟨p1, s1, rfl⟩ := List.append_of_mem hp
      have := ih p1 a (s1 ++ x :: s) (by simp at hk; omega) (by rw [e]; simp)
      simp
      omega
  exact fun p x s e => key (p.length + 1) p x s (by omega) e
theorem DepOk.lt {G : List Nd} (h : GOk G) {d : Nat → Nat} (h1 : DepOk G d) (n : Nat) : d n ≤ 63 := by
  cases e : hasB G n
  · rw [h1.off h e]
    omega
  · obtain ⟨p, s, e2⟩ := List.append_of_mem (ordG_all h e)
    have := h1.at_ h p n s e2
    have hl := (ordG_ok G).len
    rw [e2] at hl
    have := h.len
    simp at hl
    omega
theorem take_snoc {l : List Nat} {n : Nat} (h : n < l.length) : l.take (n + 1) = l.take n ++ [l.getD n 0] := by
  rw [List.take_add_one, List.getD_eq_getElem?_getD]
  simp [h]
theorem ord_split {l : List Nat} {n : Nat} (h : n < l.length) : l = l.take n ++ l.getD n 0 :: l.drop (n + 1) := by
  have e : l.drop n = l.getD n 0 :: l.drop (n + 1) := by
    rw [List.drop_eq_getElem_cons h]
    simp [h]
  rw [← e, List.take_append_drop]
theorem DepTo.next {G : List Nd} {n : Nat} {d : Nat → Nat} (h : DepTo G ((ordG G).take n) d) (hn : n < (ordG G).length) : DepTo G ((ordG G).take (n + 1)) (setD d ((ordG G).getD n 0) (dmx d (aft G ((ordG G).getD n 0)) 0)) := by
  have e := ord_split hn
  rw [take_snoc hn]
  have hnd := (ordG_ok G).nod
  rw [e] at hnd
  refine h.snoc (fun hm => ?_) (fun a ha => (ordG_ok G).pre _ _ _ e a ha) ((ordG_ok G).closed e)
  exact (List.nodup_append.1 hnd).2.2 _ hm _ (List.mem_cons_self) rfl
theorem dep_ex {G : List Nd} (h : GOk G) : ∃ d, DepOk G d := by
  have key : ∀ n, n ≤ (ordG G).length → ∃ d, DepTo G ((ordG G).take n) d := by
    intro n
    induction n with
    | zero => exact fun _ => ⟨_, by simpa using DepTo.nil G⟩
    | succ n ih =>
      intro hn
      obtain ⟨d, hd⟩ := ih (by omega)
      exact ⟨_, hd.next (by omega)⟩
  obtain ⟨d, hd⟩ := key _ (Nat.le_refl _)
  rw [List.take_length] at hd
  exact ⟨d, hd.done h⟩
open Classical in
/-- How deep. -/
noncomputable def dpt (G : List Nd) : Nat → Nat := if h : ∃ d, DepOk G d then h.choose else fun _ => 0
theorem dpt_ok {G : List Nd} (h : GOk G) : DepOk G (dpt G) := by
  unfold dpt
  rw [dif_pos (dep_ex h)]
  exact (dep_ex h).choose_spec
theorem DepOk.eq {G : List Nd} (h : GOk G) {d : Nat → Nat} (hd : DepOk G d) : d = dpt G := funext fun n => hd.same h (dpt_ok h) n
end Go.Proofs.Ytggjimeligbmcab
