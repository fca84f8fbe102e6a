/-
  Graphs in plain lists: nodes that are there or gone, each behind some others; nobody is behind itself. No condition but those that each theorem names; nothing here speaks of a program.
-/
namespace Go.Proofs.Ytggjimeligbmcab
set_option linter.unusedVariables false

/-- A node: is it gone, whom is it directly behind? -/
structure Nd where
  gone : Bool
  after : List Nat
def nd (G : List Nd) (i : Nat) : Nd := G.getD i ⟨true, []⟩
def aft (G : List Nd) (i : Nat) : List Nat := (nd G i).after
def hasB (G : List Nd) (i : Nat) : Bool := !(nd G i).gone
structure GOk (G : List Nd) : Prop where
  len : G.length ≤ 64
  off : ∀ i, hasB G i = false → aft G i = []
  inn : ∀ i a, a ∈ aft G i → hasB G a = true
  nod : ∀ i, (aft G i).Nodup
  rank : ∃ r : Nat → Nat, ∀ i a, a ∈ aft G i → r a < r i
theorem nd_out {G : List Nd} {i : Nat} (h : G.length ≤ i) : nd G i = ⟨true, []⟩ := by simp [nd, List.getElem?_eq_none h]
theorem has_lt {G : List Nd} {i : Nat} (h : hasB G i = true) : i < G.length := by
  rcases Nat.lt_or_ge i G.length with k | k
  · exact k
  · simp [hasB, nd_out k] at h
theorem nd_in {G : List Nd} {i : Nat} (h : i < G.length) : nd G i = G[i] := by simp [nd, h]
theorem GOk.aft_lt {G : List Nd} (h : GOk G) {i a : Nat} (ha : a ∈ aft G i) : a < G.length := has_lt (h.inn i a ha)
theorem GOk.of_lt {G : List Nd} (h : GOk G) {i a : Nat} (ha : a ∈ aft G i) : i < G.length := by
  rcases Nat.lt_or_ge i G.length with k | k
  · exact k
  · simp [aft, nd_out k] at ha
theorem GOk.has {G : List Nd} (h : GOk G) {i a : Nat} (ha : a ∈ aft G i) : hasB G i = true := by
  cases e : hasB G i
  · rw [h.off i e] at ha
    cases ha
  · rfl
theorem GOk.nil : GOk [] := ⟨by decide, fun i _ => by simp [aft, nd], fun i a h => by simp [aft, nd] at h, fun i => by simp [aft, nd], ⟨fun _ => 0, fun i a h => by simp [aft, nd] at h⟩⟩

/-! One node more -/
def addG (G : List Nd) (l : List Nat) : List Nd := G ++ [⟨false, l⟩]
theorem nd_add_old {G : List Nd} {l : List Nat} {i : Nat} (h : i < G.length) : nd (addG G l) i = nd G i := by simp [nd, addG, List.getElem?_append_left h]
theorem nd_add_new {G : List Nd} {l : List Nat} : nd (addG G l) G.length = ⟨false, l⟩ := by simp [nd, addG]
theorem nd_add_out {G : List Nd} {l : List Nat} {i : Nat} (h : G.length < i) : nd (addG G l) i = ⟨true, []⟩ := nd_out (by simp [addG]; omega)
theorem has_add {G : List Nd} {l : List Nat} {i : Nat} (h : hasB G i = true) : hasB (addG G l) i = true := by
  unfold hasB
  rw [nd_add_old (has_lt h)]
  exact h
theorem max_ge {l : List Nat} {r : Nat → Nat} {a : Nat} (h : a ∈ l) : r a ≤ (l.map r).foldr max 0 := by
  induction l with
  | nil => cases h
  | cons x l ih =>
    simp only [List.map_cons, List.foldr_cons]
    rcases List.mem_cons.1 h with rfl | h
    · omega
    · have := ih h
      omega
theorem GOk.add {G : List Nd} (h : GOk G) {l : List Nat} (hl : G.length < 64) (hin : ∀ a ∈ l, hasB G a = true) (hn : l.Nodup) : GOk (addG G l) := by
  have cases3 : ∀ i, i < G.length ∨ i = G.length ∨ G.length < i := fun i => by omega
  refine ⟨by simp [addG]; omega, fun i hi => ?_, fun i a ha => ?_, fun i => ?_, ?_⟩
  · rcases cases3 i with k | rfl | k
    · unfold aft hasB at *
      rw [nd_add_old k] at hi ⊢
      exact h.off i hi
    · unfold hasB at hi
      rw [nd_add_new] at hi
      cases hi
    · unfold aft
      rw [nd_add_out k]
  · rcases cases3 i with k | rfl | k
    · unfold aft at ha
      rw [nd_add_old k] at ha
      exact has_add (h.inn i a ha)
    · unfold aft at ha
      rw [nd_add_new] at ha
      exact has_add (hin a ha)
    · unfold aft at ha
      rw [nd_add_out k] at ha
      cases ha
  · rcases cases3 i with k | rfl | k
    · unfold aft
      rw [nd_add_old k]
      exact h.nod i
    · unfold aft
      rw [nd_add_new]
      exact hn
    · unfold aft
      rw [nd_add_out k]
      exact List.nodup_nil
  · obtain ⟨r, hr⟩ := h.rank
    refine ⟨fun i => if i = G.length then (l.map r).foldr max 0 + 1 else r i, fun i a ha => ?_⟩
    rcases cases3 i with k | rfl | k
    · unfold aft at ha
      rw [nd_add_old k] at ha
      have := hr i a ha
      have hal := h.aft_lt ha
      simp only [show ¬ a = G.length by omega, show ¬ i = G.length by omega, if_false]
      exact this
    · unfold aft at ha
      rw [nd_add_new] at ha
      have hal := has_lt (hin a ha)
      have := max_ge (r := r) (l := l) ha
      simp only [show ¬ a = G.length by omega, if_false, if_true]
      omega
    · unfold aft at ha
      rw [nd_add_out k] at ha
      cases ha

/-! Who is ahead -/
inductive Rch (G : List Nd) : Nat → Nat → Prop
  | one {i a : Nat} : a ∈ aft G i → Rch G i a
  | more {i a b : Nat} : a ∈ aft G i → Rch G a b → Rch G i b
theorem Rch.trans {G : List Nd} {i j k : Nat} (h : Rch G i j) (h2 : Rch G j k) : Rch G i k := by
  induction h with
  | one ha => exact .more ha h2
  | more ha _ ih => exact .more ha (ih h2)
theorem Rch.snoc {G : List Nd} {i j k : Nat} (h : Rch G i j) (h2 : k ∈ aft G j) : Rch G i k := h.trans (.one h2)
theorem GOk.rch_has {G : List Nd} (h : GOk G) {i j : Nat} (hr : Rch G i j) : hasB G j = true := by
  induction hr with
  | one ha => exact h.inn _ _ ha
  | more _ _ ih => exact ih
theorem Rch.rank {G : List Nd} {r : Nat → Nat} (h : ∀ i a, a ∈ aft G i → r a < r i) {i j : Nat} (hr : Rch G i j) : r j < r i := by
  induction hr with
  | one ha => exact h _ _ ha
  | more ha _ ih => exact Nat.lt_trans ih (h _ _ ha)
theorem GOk.irr {G : List Nd} (h : GOk G) (i : Nat) : ¬ Rch G i i := fun hr => by
  obtain ⟨r, hk⟩ := h.rank
  exact Nat.lt_irrefl _ (hr.rank hk)

/-! A link more -/
def linkG (G : List Nd) (n a : Nat) : List Nd := G.set n ⟨false, aft G n ++ [a]⟩
theorem linkG_len (G : List Nd) (n a : Nat) : (linkG G n a).length = G.length := by simp [linkG]
theorem nd_link_self {G : List Nd} {n a : Nat} (h : n < G.length) : nd (linkG G n a) n = ⟨false, aft G n ++ [a]⟩ := by simp [nd, linkG, h]
theorem nd_link_ne {G : List Nd} {n a i : Nat} (h : i ≠ n) : nd (linkG G n a) i = nd G i := by
  simp only [nd, linkG, List.getD_eq_getElem?_getD]
  rw [List.getElem?_set_ne (Ne.symm h)]
theorem has_link {G : List Nd} {n a i : Nat} (hn : hasB G n = true) : hasB (linkG G n a) i = hasB G i := by
  by_cases e : i = n
  · subst e
    rw [hn]
    unfold hasB
    rw [nd_link_self (has_lt hn)]
    rfl
  · unfold hasB
    rw [nd_link_ne e]
theorem aft_link_self {G : List Nd} {n a : Nat} (hn : hasB G n = true) : aft (linkG G n a) n = aft G n ++ [a] := by
  unfold aft
  rw [nd_link_self (has_lt hn)]
  rfl
theorem aft_link_ne {G : List Nd} {n a i : Nat} (h : i ≠ n) : aft (linkG G n a) i = aft G i := by
  unfold aft
  rw [nd_link_ne h]
open Classical in
theorem GOk.link {G : List Nd} (h : GOk G) {n a : Nat} (hn : hasB G n = true) (ha : hasB G a = true) (hna : a ≠ n) (hr : ¬ Rch G a n) (hni : a ∉ aft G n) : GOk (linkG G n a) := by
  refine ⟨by rw [linkG_len]; exact h.len, fun i hi => ?_, fun i b hb => ?_, fun i => ?_, ?_⟩
  · rw [has_link hn] at hi
    have : i ≠ n := fun e => by rw [e, hn] at hi; cases hi
    rw [aft_link_ne this]
    exact h.off i hi
  · rw [has_link hn]
    by_cases e : i = n
    · subst e
      rw [aft_link_self hn] at hb
      rcases List.mem_append.1 hb with hb | hb
      · exact h.inn _ _ hb
      · simp at hb
        exact hb ▸ ha
    · rw [aft_link_ne e] at hb
      exact h.inn _ _ hb
  · by_cases e : i = n
    · subst e
      rw [aft_link_self hn]
      refine List.nodup_append.2 ⟨h.nod _, by simp, fun x hx y hy => ?_⟩
      simp at hy
      subst hy
      exact fun e => hni (e ▸ hx)
    · rw [aft_link_ne e]
      exact h.nod i
  · obtain ⟨r, hk⟩ := h.rank
    refine ⟨fun x => if x = n ∨ Rch G x n then r x + r a + 1 else r x, fun i b hb => ?_⟩
    have ra : ¬ (a = n ∨ Rch G a n) := fun e => e.elim hna hr
    by_cases e : i = n
    · subst e
      rw [aft_link_self hn] at hb
      simp only [true_or, if_true]
      rcases List.mem_append.1 hb with hb | hb
      · have := hk _ _ hb
        split <;> omega
      · simp at hb
        subst hb
        rw [if_neg ra]
        omega
    · rw [aft_link_ne e] at hb
      have := hk _ _ hb
      show (if b = n ∨ Rch G b n then r b + r a + 1 else r b) < (if i = n ∨ Rch G i n then r i + r a + 1 else r i)
      by_cases eb : b = n ∨ Rch G b n
      · have ei : i = n ∨ Rch G i n := .inr (eb.elim (fun e => e ▸ .one hb) (fun k => .more hb k))
        rw [if_pos eb, if_pos ei]
        omega
      · rw [if_neg eb]
        split <;> omega

/-! One is taken out -/
def dropG (G : List Nd) (n : Nat) : List Nd := G.set n ⟨true, []⟩
theorem dropG_len (G : List Nd) (n : Nat) : (dropG G n).length = G.length := by simp [dropG]
theorem nd_drop_self {G : List Nd} {n : Nat} : nd (dropG G n) n = ⟨true, []⟩ := by
  rcases Nat.lt_or_ge n G.length with h | h
  · simp [nd, dropG, h]
  · exact nd_out (by rw [dropG_len]; exact h)
theorem nd_drop_ne {G : List Nd} {n i : Nat} (h : i ≠ n) : nd (dropG G n) i = nd G i := by
  simp only [nd, dropG, List.getD_eq_getElem?_getD]
  rw [List.getElem?_set_ne (Ne.symm h)]
theorem aft_drop_self {G : List Nd} {n : Nat} : aft (dropG G n) n = [] := by
  unfold aft
  rw [nd_drop_self]
theorem aft_drop_ne {G : List Nd} {n i : Nat} (h : i ≠ n) : aft (dropG G n) i = aft G i := by
  unfold aft
  rw [nd_drop_ne h]
theorem has_drop_ne {G : List Nd} {n i : Nat} (h : i ≠ n) : hasB (dropG G n) i = hasB G i := by
  unfold hasB
  rw [nd_drop_ne h]
theorem has_drop_self {G : List Nd} {n : Nat} : hasB (dropG G n) n = false := by
  unfold hasB
  rw [nd_drop_self]
  rfl
theorem GOk.drop {G : List Nd} (h : GOk G) {n : Nat} (hb : ∀ i, n ∉ aft G i) : GOk (dropG G n) := by
  have sub : ∀ i a, a ∈ aft (dropG G n) i → a ∈ aft G i := fun i a ha => by
    by_cases e : i = n
    · subst e
      rw [aft_drop_self] at ha
      cases ha
    · rwa [aft_drop_ne e] at ha
  refine ⟨by rw [dropG_len]; exact h.len, fun i hi => ?_, fun i a ha => ?_, fun i => ?_, ?_⟩
  · by_cases e : i = n
    · rw [e]
      exact aft_drop_self
    · rw [has_drop_ne e] at hi
      rw [aft_drop_ne e]
      exact h.off i hi
  · have := sub i a ha
    have ne : a ≠ n := fun e => hb i (e ▸ this)
    rw [has_drop_ne ne]
    exact h.inn _ _ this
  · by_cases e : i = n
    · rw [e, aft_drop_self]
      exact List.nodup_nil
    · rw [aft_drop_ne e]
      exact h.nod i
  · obtain ⟨r, hk⟩ := h.rank
    exact ⟨r, fun i a ha => hk i a (sub i a ha)⟩
theorem rch_drop {G : List Nd} {n : Nat} (hb : ∀ i, n ∉ aft G i) {i j : Nat} (hi : i ≠ n) : Rch (dropG G n) i j ↔ Rch G i j := by
  constructor
  · intro h
    clear hi
    induction h with
    | @one i a ha =>
      by_cases e : i = n
      · subst e; rw [aft_drop_self] at ha; cases ha
      · rw [aft_drop_ne e] at ha; exact .one ha
    | @more i a b ha _ ih =>
      by_cases e : i = n
      · subst e; rw [aft_drop_self] at ha; cases ha
      · rw [aft_drop_ne e] at ha; exact .more ha ih
  · intro h
    induction h with
    | @one i a ha => exact .one (by rwa [aft_drop_ne hi])
    | @more i a b ha _ ih => exact .more (by rwa [aft_drop_ne hi]) (ih fun e => hb i (e ▸ ha))
end Go.Proofs.Ytggjimeligbmcab
