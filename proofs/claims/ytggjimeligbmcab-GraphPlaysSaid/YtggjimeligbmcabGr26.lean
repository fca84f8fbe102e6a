/-
  The document's graph of layer 13 with its memory, and its Drop, by contract. Conditions: a graph in which nobody is behind itself.
-/
import Derived.Test.YtggjimeligbmcabGr25
namespace Go.Proofs.Ytggjimeligbmcab
open Go.RowKit
set_option linter.unusedVariables false

def nilS : Value := .slice none 0 0
def gonesV (G : List Nd) : List Value := G.map fun x => Value.bool x.gone
theorem gones_at {G : List Nd} {i : Nat} (h : i < G.length) : (gonesV G)[i]? = some (.bool (nd G i).gone) := by
  simp [gonesV, h, nd]
/-- The document's graph with its memory. -/
structure Rw (B : Nat) (w : World) (va vg : Value) (G : List Nd) (N : List Value) : Prop where
  ra : w.ownsRow B 31 1 va G.length N
  rg : w.ownsRow B 4 1 vg G.length (gonesV G)
  own : ∀ i, i < G.length → w.ownsRow B 3 1 (N.getD i nilS) (aft G i).length (ints (aft G i))
  apart : ∀ i j, i < G.length → j < G.length → i ≠ j → ∀ b, (N.getD i nilS).ownBlock = some b → (N.getD j nilS).ownBlock ≠ some b
def rOwn (va vg : Value) (N : List Value) (k : Nat) : Prop := va.ownBlock = some k ∨ vg.ownBlock = some k ∨ ∃ i, i < N.length ∧ (N.getD i nilS).ownBlock = some k
section
variable {B : Nat} {W w w' : World} {va vg va' vg' : Value} {G G' : List Nd} {N N' : List Value}
theorem Rw.len (h : Rw B w va vg G N) : N.length = G.length := by simpa using h.ra.1
theorem Rw.rr (h : Rw B w va vg G N) : ∃ qa qg, Rr w va vg G qa qg N := by
  obtain ⟨pa, ca, rfl, _⟩ := row_form h.ra
  obtain ⟨pg, cg, rfl, _⟩ := row_form h.rg
  rcases Nat.eq_zero_or_pos G.length with hz | hz
  · exact ⟨0, 0, ⟨_, _, rfl, fun h => by omega⟩, ⟨_, _, rfl, fun h => by omega⟩, fun i hi => by omega, fun i hi => by omega, fun i hi => by omega⟩
  · obtain ⟨qa, ca', ea⟩ := row_slice h.ra hz
    obtain ⟨qg, cg', eg⟩ := row_slice h.rg hz
    simp only [Value.slice.injEq] at ea eg
    obtain ⟨rfl, _, rfl⟩ := ea
    obtain ⟨rfl, _, rfl⟩ := eg
    have hl := h.len
    refine ⟨qa, qg, ⟨_, _, rfl, fun _ => rfl⟩, ⟨_, _, rfl, fun _ => rfl⟩, fun i hi => ?_, fun i hi => ?_, fun i hi => ?_⟩
    · have := h.ra.cells (g := qa) rfl i (N.getD i nilS) (by rw [List.getD_eq_getElem?_getD, List.getElem?_eq_getElem (by omega)]; rfl)
      rw [Addr.add_mid, Nat.zero_add] at this
      exact this
    · have := h.rg.cells (g := qg) rfl i _ (gones_at hi)
      rwa [Addr.add_mid, Nat.zero_add] at this
    · exact .of_row (h.own i hi)
theorem Rw.own_lt (h : Rw B w va vg G N) {k : Nat} (hk : rOwn va vg N k) : B ≤ k ∧ k < w.heap.size := by
  rcases hk with hk | hk | ⟨i, hi, hk⟩
  · exact h.ra.lt _ hk
  · exact h.rg.lt _ hk
  · exact (h.own i (by rw [← h.len]; exact hi)).lt _ hk
theorem Rw.frm {S : Nat → Prop} (h : Rw B w va vg G N) (hf : Frm S w w') (hS : ∀ k, rOwn va vg N k → ¬ S k) : Rw B w' va vg G N :=
  ⟨hf.row h.ra (fun k hk => hS k (.inl hk)), hf.row h.rg (fun k hk => hS k (.inr (.inl hk))), fun i hi => hf.row (h.own i hi) (fun k hk => hS k (.inr (.inr ⟨i, by rw [h.len]; exact hi, hk⟩))), h.apart⟩
theorem Rw.keep (h : Rw B w va vg G N) (hb : Below w.heap.size w w') : Rw B w' va vg G N := h.frm (Frm.of_below hb fun _ => False) fun _ _ h => h
theorem Rw.start (B : Nat) (w : World) : Rw B w nilS nilS [] [] := ⟨World.ownsRow_nil _ _ _ _, World.ownsRow_nil _ _ _ _, fun i h => absurd h (Nat.not_lt_zero _), fun i j h => absurd h (Nat.not_lt_zero _)⟩
/-- What a call that changes it leaves. -/
structure Rz (B : Nat) (W w : World) (va vg : Value) (N : List Value) (va' vg' : Value) (G' : List Nd) : Prop where
  st : ∃ N', Rw B w va' vg' G' N' ∧ ∀ k, rOwn va' vg' N' k → rOwn va vg N k ∨ W.heap.size ≤ k
  fr : Frm (rOwn va vg N) W w
theorem Rz.of_below (h : Rw B W va vg G N) (hb : Below W.heap.size W w) : Rz B W w va vg N va vg G := ⟨⟨N, h.keep hb, fun _ hk => .inl hk⟩, Frm.of_below hb _⟩
theorem Rz.after (hb : Below W.heap.size W w) (hs : Rz B w w' va vg N va' vg' G') : Rz B W w' va vg N va' vg' G' := by
  obtain ⟨⟨N', h1, h2⟩, h3⟩ := hs
  exact ⟨⟨N', h1, fun k hk => (h2 k hk).imp id fun hk => Nat.le_trans hb.size hk⟩, (Frm.of_below hb _).then h3 fun _ _ hk => hk⟩
theorem row_t_ne {w : World} {B1 B2 s1 s2 n1 n2 : Nat} {e1 e2 : TypeId} {v1 v2 : Value} {x1 x2 : List Value} (h1 : w.ownsRow B1 e1 s1 v1 n1 x1) (h2 : w.ownsRow B2 e2 s2 v2 n2 x2) (hne : e1 ≠ e2) {k : Nat} (hk : v1.ownBlock = some k) : v2.ownBlock ≠ some k := fun e => by
  obtain ⟨c1, a1⟩ := ownsRow_obj h2 e
  exact row_ne h1 a1 hne hk
theorem gones_drop {G : List Nd} {n : Nat} : (gonesV G).set n (.bool true) = gonesV (dropG G n) := by
  simp [gonesV, dropG, List.map_set]
/-- A node's cells are set: it is gone. -/
theorem Rw.gone_at (h : Rw B w va vg G N) {n qa qg ca cg : Nat} (ha : va = .slice (some ⟨qa, 0, none⟩) G.length ca) (hg : vg = .slice (some ⟨qg, 0, none⟩) G.length cg) (hn : n < G.length) :
    Rz B w ((w.setCell ⟨qg, n, none⟩ (.bool true)).setCell ⟨qa, n, none⟩ (.slice none 0 0)) va vg N va vg (dropG G n) := by
  subst ha hg
  have hl := h.len
  have hqq : qa ≠ qg := fun e => row_t_ne h.ra h.rg (by decide) (k := qa) rfl (by rw [e]; rfl)
  have hqa : ∀ i, i < G.length → (N.getD i nilS).ownBlock ≠ some qa := fun i hi => row_t_ne h.ra (h.own i hi) (by decide) rfl
  have hqg : ∀ i, i < G.length → (N.getD i nilS).ownBlock ≠ some qg := fun i hi => row_t_ne h.rg (h.own i hi) (by decide) rfl
  have fr : Frm (fun k => k = qa ∨ k = qg) w ((w.setCell ⟨qg, n, none⟩ (.bool true)).setCell ⟨qa, n, none⟩ (.slice none 0 0)) := ((Frm.refl (fun k => k = qa ∨ k = qg) w).setCell (p := ⟨qg, n, none⟩) (.inr rfl) _).setCell (p := ⟨qa, n, none⟩) (.inl rfl) _
  have hat : ∀ i, i ≠ n → (N.set n nilS).getD i nilS = N.getD i nilS := fun i hi => by
    rw [List.getD_eq_getElem?_getD, List.getElem?_set_ne (Ne.symm hi), ← List.getD_eq_getElem?_getD]
  have hself : (N.set n nilS).getD n nilS = nilS := by
    rw [List.getD_eq_getElem?_getD, List.getElem?_set_self (by omega)]
    rfl
  refine ⟨⟨N.set n nilS, ⟨?_, ?_, fun i hi => ?_, fun i j hi hj hij b hb => ?_⟩, fun k hk => ?_⟩, fr.mono fun k _ hk => ?_⟩
  · rw [dropG_len]
    have h1 := ((Frm.refl (fun k => k = qg) w).setCell (p := ⟨qg, n, none⟩) rfl (.bool true)).row h.ra fun k hk e => hqq (by simp only [Value.ownBlock, Option.some.injEq] at hk; rw [hk]; exact e)
    exact row_put (j := n) h1 nilS
  · rw [dropG_len, ← gones_drop]
    exact ((Frm.refl (fun k => k = qa) _).setCell (p := ⟨qa, n, none⟩) rfl _).row (row_put (j := n) h.rg (.bool true)) fun k hk e => hqq (by simp only [Value.ownBlock, Option.some.injEq] at hk; rw [hk]; exact e.symm)
  · rw [dropG_len] at hi
    by_cases e : i = n
    · subst e; rw [hself, aft_drop_self]; exact World.ownsRow_nil _ _ _ _
    · rw [hat i e, aft_drop_ne e]; exact fr.row (h.own i hi) fun k hk hkq => hkq.elim (fun e => hqa i hi (e ▸ hk)) fun e => hqg i hi (e ▸ hk)
  · rw [dropG_len] at hi hj
    by_cases e : i = n
    · subst e; rw [hself] at hb; simp [nilS, Value.ownBlock] at hb
    · rw [hat i e] at hb
      by_cases e2 : j = n
      · subst e2; rw [hself]; simp [nilS, Value.ownBlock]
      · rw [hat j e2]; exact h.apart i j hi hj hij b hb
  · rcases hk with hk | hk | ⟨i, hi, hk⟩
    · exact .inl (.inl hk)
    · exact .inl (.inr (.inl hk))
    · rw [List.length_set] at hi
      by_cases e : i = n
      · subst e; rw [hself] at hk; simp [nilS, Value.ownBlock] at hk
      · rw [hat i e] at hk; exact .inl (.inr (.inr ⟨i, hi, hk⟩))
  · rcases hk with rfl | rfl
    · exact .inl rfl
    · exact .inr (.inl rfl)
theorem Rw.fa (h : Rw B w va vg G N) {q c : Nat} (ha : va = .slice (some ⟨q, 0, none⟩) G.length c) (j : Nat) : w.frozen? ⟨q, j, none⟩ = false := by
  subst ha
  obtain ⟨c1, h1⟩ := ownsRow_obj h.ra (g := q) rfl
  exact obj_free h1 j
theorem Rw.fg (h : Rw B w va vg G N) {q c : Nat} (hg : vg = .slice (some ⟨q, 0, none⟩) G.length c) (j : Nat) : w.frozen? ⟨q, j, none⟩ = false := by
  subst hg
  obtain ⟨c1, h1⟩ := ownsRow_obj h.rg (g := q) rfl
  exact obj_free h1 j
end
end Go.Proofs.Ytggjimeligbmcab
