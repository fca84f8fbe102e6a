/-
  A graph of package graph with its memory; what Add, Link and Drop refuse, and what they leave, in plain lists. No condition but those that each theorem names.
-/
import Derived.Test.YtggjimeligbmcabGr9
import Derived.Test.YtggjimeligbmcabGr7
namespace Go.Proofs.Ytggjimeligbmcab
open Go.RowKit
set_option linter.unusedVariables false

/-! What is refused -/
def nmBad (G : List Nd) : List Int → List Int → Int
  | _, [] => 0
  | seen, x :: l => if hasI G x = true then (if x ∈ seen then 4 else nmBad G (seen ++ [x]) l) else 3
theorem nm_ok {G : List Nd} {l : List Int} : ∀ {seen : List Int}, nmBad G seen l = 0 → (∀ x, x ∈ l → hasI G x = true) ∧ l.Nodup ∧ ∀ x, x ∈ l → x ∉ seen := by
  induction l with
  | nil => exact fun _ => ⟨fun x h => (by cases h), List.nodup_nil, fun x h => (by cases h)⟩
  | cons y l ih =>
    intro seen h
    rw [nmBad] at h
    by_cases h1 : hasI G y = true
    · rw [if_pos h1] at h
      by_cases h2 : y ∈ seen
      · rw [if_pos h2] at h
        cases h
      · rw [if_neg h2] at h
        obtain ⟨a1, a2, a3⟩ := ih h
        refine ⟨fun x hx => ?_, List.nodup_cons.2 ⟨fun hm => a3 y hm (by simp), a2⟩, fun x hx => ?_⟩
        · rcases List.mem_cons.1 hx with rfl | hx
          · exact h1
          · exact a1 x hx
        · rcases List.mem_cons.1 hx with rfl | hx
          · exact h2
          · exact fun hs => a3 x hx (by simp [hs])
    · rw [if_neg h1] at h
      cases h
theorem nm_cons {G : List Nd} {seen l : List Int} {x : Int} (h1 : hasI G x = true) (h2 : x ∉ seen) : nmBad G seen (x :: l) = nmBad G (seen ++ [x]) l := by
  rw [nmBad, if_pos h1, if_neg h2]
theorem nm_there {G : List Nd} {seen l : List Int} {x : Int} (h1 : hasI G x = true) (h2 : x ∈ seen) : nmBad G seen (x :: l) = 4 := by
  rw [nmBad, if_pos h1, if_pos h2]
theorem nm_none {G : List Nd} {seen l : List Int} {x : Int} (h1 : hasI G x = false) : nmBad G seen (x :: l) = 3 := by
  rw [nmBad, if_neg (by rw [h1]; decide)]
def addBadG (G : List Nd) (l : List Int) : Int := if 64 ≤ G.length then 8 else nmBad G [] l
def addN (G : List Nd) (l : List Int) : List Nd := if addBadG G l = 0 then addG G (l.map Int.toNat) else G
open Classical in
noncomputable def linkBad (G : List Nd) (a b : Int) : Int := if hasI G a = true ∧ hasI G b = true then (if a = b ∨ Rch G b.toNat a.toNat then 16 else if b.toNat ∈ aft G a.toNat then 4 else 0) else 3
noncomputable def linkN (G : List Nd) (a b : Int) : List Nd := if linkBad G a b = 0 then linkG G a.toNat b.toNat else G
def dropBadG (G : List Nd) (a : Int) : Int := if hasI G a = true then (if behL G a G.length = [] then 0 else 18) else 3
def dropN (G : List Nd) (a : Int) : List Nd := if dropBadG G a = 0 then dropG G a.toNat else G
theorem hasI_nn {G : List Nd} {x : Int} (h : hasI G x = true) : 0 ≤ x ∧ hasB G x.toNat = true := by
  obtain ⟨k, rfl, hk⟩ := hasI_yes h
  exact ⟨by omega, by simpa using hk⟩
theorem add_parts {G : List Nd} {l : List Int} (h : addBadG G l = 0) : G.length < 64 ∧ (∀ a, a ∈ l.map Int.toNat → hasB G a = true) ∧ (l.map Int.toNat).Nodup ∧ ∀ x, x ∈ l → 0 ≤ x := by
  unfold addBadG at h
  by_cases h1 : 64 ≤ G.length
  · rw [if_pos h1] at h
    cases h
  · rw [if_neg h1] at h
    obtain ⟨a1, a2, _⟩ := nm_ok h
    refine ⟨by omega, fun a ha => ?_, ?_, fun x hx => (hasI_nn (a1 x hx)).1⟩
    · obtain ⟨x, hx, rfl⟩ := List.mem_map.1 ha
      exact (hasI_nn (a1 x hx)).2
    · have key : ∀ l : List Int, (∀ x, x ∈ l → 0 ≤ x) → l.Nodup → (l.map Int.toNat).Nodup := by
        intro l
        induction l with
        | nil => exact fun _ _ => List.nodup_nil
        | cons y l ih =>
          intro hp hn
          rw [List.nodup_cons] at hn
          rw [List.map_cons, List.nodup_cons]
          refine ⟨fun hm => ?_, ih (fun x hx => hp x (List.mem_cons_of_mem _ hx)) hn.2⟩
          obtain ⟨z, hz, e⟩ := List.mem_map.1 hm
          have h1 := hp y (by simp)
          have h2 := hp z (List.mem_cons_of_mem _ hz)
          have : z = y := by omega
          exact hn.1 (this ▸ hz)
      exact key l (fun x hx => (hasI_nn (a1 x hx)).1) a2
theorem GOk.addN {G : List Nd} (h : GOk G) (l : List Int) : GOk (addN G l) := by
  unfold Proofs.Ytggjimeligbmcab.addN
  by_cases e : addBadG G l = 0
  · rw [if_pos e]
    obtain ⟨h1, h2, h3, _⟩ := add_parts e
    exact h.add h1 h2 h3
  · rw [if_neg e]
    exact h
theorem link_parts {G : List Nd} {a b : Int} (h : linkBad G a b = 0) : ∃ n m : Nat, a = n ∧ b = m ∧ hasB G n = true ∧ hasB G m = true ∧ m ≠ n ∧ ¬ Rch G m n ∧ m ∉ aft G n := by
  unfold linkBad at h
  by_cases h1 : hasI G a = true ∧ hasI G b = true
  · rw [if_pos h1] at h
    obtain ⟨n, rfl, hn⟩ := hasI_yes h1.1
    obtain ⟨m, rfl, hm⟩ := hasI_yes h1.2
    by_cases h2 : (n : Int) = m ∨ Rch G (m : Int).toNat (n : Int).toNat
    · rw [if_pos h2] at h
      cases h
    · rw [if_neg h2] at h
      by_cases h3 : (m : Int).toNat ∈ aft G (n : Int).toNat
      · rw [if_pos h3] at h
        cases h
      · exact ⟨n, m, rfl, rfl, hn, hm, fun e => h2 (.inl (by rw [e])), fun e => h2 (.inr e), h3⟩
  · rw [if_neg h1] at h
    cases h
theorem GOk.linkN {G : List Nd} (h : GOk G) (a b : Int) : GOk (linkN G a b) := by
  unfold Proofs.Ytggjimeligbmcab.linkN
  by_cases e : linkBad G a b = 0
  · rw [if_pos e]
    obtain ⟨n, m, rfl, rfl, h1, h2, h3, h4, h5⟩ := link_parts e
    exact h.link h1 h2 h3 h4 h5
  · rw [if_neg e]
    exact h
theorem beh_nil {G : List Nd} {n : Nat} (hG : GOk G) : behL G (n : Int) G.length = [] ↔ ∀ i, n ∉ aft G i := by
  unfold behL
  rw [List.filter_eq_nil_iff]
  constructor
  · intro h i hi
    have h1 := hG.of_lt hi
    have := h i (List.mem_range.2 h1)
    rw [inI_nat] at this
    simp [hi] at this
  · intro h i _
    rw [inI_nat]
    simp [h i]
theorem GOk.dropN {G : List Nd} (h : GOk G) (a : Int) : GOk (dropN G a) := by
  unfold Proofs.Ytggjimeligbmcab.dropN
  by_cases e : dropBadG G a = 0
  · rw [if_pos e]
    unfold dropBadG at e
    by_cases h1 : hasI G a = true
    · rw [if_pos h1] at e
      obtain ⟨n, rfl, hn⟩ := hasI_yes h1
      by_cases h2 : behL G (n : Int) G.length = []
      · exact h.drop ((beh_nil h).1 h2)
      · rw [if_neg h2] at e
        cases e
    · rw [if_neg h1] at e
      cases e
  · rw [if_neg e]
    exact h

/-! Errors -/
/-- An error by its number; none is 0. -/
def ErrIs (W : World) (E : Value) (n : Int) : Prop := (n = 0 ∧ E = .nilIface) ∨ (n ≠ 0 ∧ ∃ q, E = .iface 74 (.pointer (some ⟨q, 0, none⟩)) ∧ Chain W E 1 n)
theorem ErrIs.held {W w : World} {E : Value} {n : Int} (h : ErrIs W E n) (hd : Held W w) : ErrIs w E n := by
  rcases h with h | ⟨h0, q, h1, h2⟩
  · exact .inl h
  · exact .inr ⟨h0, q, h1, hd _ _ _ h2⟩
theorem ErrIs.none (W : World) : ErrIs W .nilIface 0 := .inl ⟨rfl, rfl⟩
theorem ErrIs.of {W w : World} {E : Value} {n : Int} (h : Refused W w E n) (hn : n ≠ 0) : ErrIs w E n := by
  obtain ⟨q, h1, h2, _⟩ := h
  exact .inr ⟨hn, q, h1, h2⟩
theorem is_err {W : World} {E : Value} {n : Int} (h : ErrIs W E n) (m : Int) :
    Calls Try.prog 14 #[E, .int .i64 m] W fun e w' => e = .returned (.bool (n == m)) ∧ W = w' := by
  rcases h with ⟨rfl, rfl⟩ | ⟨h0, q, rfl, h2⟩
  · refine (isN_nil m).mono ?_
    rintro e w' ⟨rfl, rfl⟩
    refine ⟨?_, rfl⟩
    congr 2
    rw [Bool.eq_iff_iff]
    simp only [beq_iff_eq]
    exact eq_comm
  · by_cases hm : m = 0
    · subst hm
      refine (isN_zero _ 1 n h2).mono ?_
      rintro e w' ⟨rfl, rfl⟩
      exact ⟨by simp [h0], rfl⟩
    · exact isN_chain m _ 1 n h2 hm

/-! Rows of two cells -/
def fl2 (N : List (Bool × Value)) : List Value := (N.map fun p => [Value.bool p.1, p.2]).flatten
theorem fl2_cons (p : Bool × Value) (N : List (Bool × Value)) : fl2 (p :: N) = .bool p.1 :: p.2 :: fl2 N := rfl
theorem fl2_snoc (N : List (Bool × Value)) (p : Bool × Value) : fl2 (N ++ [p]) = fl2 N ++ [.bool p.1, p.2] := by simp [fl2]
theorem fl2_len (N : List (Bool × Value)) : (fl2 N).length = N.length * 2 := by
  induction N with
  | nil => rfl
  | cons p N ih => rw [fl2_cons, List.length_cons, List.length_cons, ih, List.length_cons]; omega
def d0 : Bool × Value := (true, .slice none 0 0)
theorem fl2_at0 : ∀ {N : List (Bool × Value)} {i : Nat}, i < N.length → (fl2 N)[i * 2]? = some (.bool (N.getD i d0).1)
  | [], i, h => by simp at h
  | p :: N, 0, _ => rfl
  | p :: N, i + 1, h => by
    rw [fl2_cons, show (i + 1) * 2 = i * 2 + 1 + 1 by omega, List.getElem?_cons_succ, List.getElem?_cons_succ, fl2_at0 (by simpa using h)]
    rfl
theorem fl2_at1 : ∀ {N : List (Bool × Value)} {i : Nat}, i < N.length → (fl2 N)[i * 2 + 1]? = some (N.getD i d0).2
  | [], i, h => by simp at h
  | p :: N, 0, _ => rfl
  | p :: N, i + 1, h => by
    rw [fl2_cons, show (i + 1) * 2 + 1 = (i * 2 + 1) + 1 + 1 by omega, List.getElem?_cons_succ, List.getElem?_cons_succ, fl2_at1 (by simpa using h)]
    rfl
theorem fl2_set1 (x : Value) : ∀ {N : List (Bool × Value)} {i : Nat}, i < N.length → (fl2 N).set (i * 2 + 1) x = fl2 (N.set i ((N.getD i d0).1, x))
  | [], i, h => by simp at h
  | p :: N, 0, _ => rfl
  | p :: N, i + 1, h => by
    rw [fl2_cons, show (i + 1) * 2 + 1 = (i * 2 + 1) + 1 + 1 by omega, List.set_cons_succ, List.set_cons_succ, fl2_set1 x (by simpa using h)]
    rfl
theorem fl2_set0 (x : Bool) : ∀ {N : List (Bool × Value)} {i : Nat}, i < N.length → (fl2 N).set (i * 2) (.bool x) = fl2 (N.set i (x, (N.getD i d0).2))
  | [], i, h => by simp at h
  | p :: N, 0, _ => rfl
  | p :: N, i + 1, h => by
    rw [fl2_cons, show (i + 1) * 2 = i * 2 + 1 + 1 by omega, List.set_cons_succ, List.set_cons_succ, fl2_set0 x (by simpa using h)]
    rfl
theorem row_put {w : World} {base g n cap size j : Nat} {e : TypeId} {xs : List Value} (h : w.ownsRow base e size (.slice (some ⟨g, 0, none⟩) n cap) n xs) (u : Value) :
    (w.setCell ⟨g, j, none⟩ u).ownsRow base e size (.slice (some ⟨g, 0, none⟩) n cap) n (xs.set j u) := by
  obtain ⟨h1, h2⟩ := h
  refine ⟨by simpa using h1, ?_⟩
  rcases h2 with ⟨h2, _⟩ | ⟨g', c', cur, he, hg, hh, i1, i2, i3, i4⟩
  · cases h2
  · simp only [Value.slice.injEq, Option.some.injEq, Addr.mk.injEq] at he
    obtain ⟨⟨rfl, -⟩, -, rfl⟩ := he
    refine .inr ⟨g, cap, cur.setIfInBounds j u, rfl, hg, obj_setCell u hh, i1, i2, by simpa using i3, ?_⟩
    rw [← i4]
    simp [List.take_set]
theorem row_slice {w : World} {base size n : Nat} {e : TypeId} {v : Value} {xs : List Value} (h : w.ownsRow base e size v n xs) (hn : 0 < n) : ∃ g cap, v = .slice (some ⟨g, 0, none⟩) n cap := by
  rcases h.2 with ⟨_, rfl⟩ | ⟨g, cap, cur, rfl, _⟩
  · omega
  · exact ⟨g, cap, rfl⟩

/-! A graph with its memory -/
structure Gw (B : Nat) (w : World) (g : Nat) (G : List Nd) (N : List (Bool × Value)) (vn : Value) : Prop where
  blk : w.heap[g]? = some (.cells #[vn] 63 (0, 0))
  lo : B ≤ g
  row : w.ownsRow B 70 2 vn G.length (fl2 N)
  len : N.length = G.length
  gone : ∀ i, i < G.length → (N.getD i d0).1 = (nd G i).gone
  own : ∀ i, i < G.length → w.ownsRow B 3 1 (N.getD i d0).2 (aft G i).length (ints (aft G i))
  apart : ∀ i j, i < G.length → j < G.length → i ≠ j → ∀ b, (N.getD i d0).2.ownBlock = some b → (N.getD j d0).2.ownBlock ≠ some b
def gOwn (g : Nat) (N : List (Bool × Value)) (vn : Value) (k : Nat) : Prop := k = g ∨ vn.ownBlock = some k ∨ ∃ i, i < N.length ∧ (N.getD i d0).2.ownBlock = some k
section
variable {B : Nat} {W w w' : World} {g : Nat} {G G' : List Nd} {N N' : List (Bool × Value)} {vn vn' : Value}
theorem Gw.gr (h : Gw B w g G N vn) : ∃ pn c q, vn = .slice pn G.length c ∧ Gr w g G pn c q (N.map (·.2)) := by
  have hS : ∀ i, i < G.length → (N.map (·.2)).getD i (.slice none 0 0) = (N.getD i d0).2 := fun i hi => by
    have := h.len
    rw [List.getD_eq_getElem?_getD, List.getD_eq_getElem?_getD, List.getElem?_map, List.getElem?_eq_getElem (by omega)]
    rfl
  obtain ⟨pn, c, rfl, _⟩ := row_form h.row
  have c0 : w.cell? ⟨g, 0, none⟩ = some (.slice pn G.length c) := (obj_cell h.blk 0).trans rfl
  rcases Nat.eq_zero_or_pos G.length with hz | hz
  · exact ⟨pn, c, 0, rfl, c0, fun hp => by omega, fun i hi => by omega, fun i hi => by omega, fun i hi => by omega⟩
  · obtain ⟨q, c', he⟩ := row_slice h.row hz
    simp only [Value.slice.injEq] at he
    obtain ⟨rfl, _, rfl⟩ := he
    refine ⟨_, c, q, rfl, c0, fun _ => rfl, fun i hi => ?_, fun i hi => ?_, fun i hi => ?_⟩
    · have := h.row.cells (g := q) rfl (i * 2) _ (fl2_at0 (by rw [h.len]; exact hi))
      rw [Addr.add_mid, Nat.zero_add] at this
      rw [this, h.gone i hi]
    · have := h.row.cells (g := q) rfl (i * 2 + 1) _ (fl2_at1 (by rw [h.len]; exact hi))
      rw [Addr.add_mid, Nat.zero_add] at this
      rw [this, hS i hi]
    · rw [hS i hi]
      exact .of_row (h.own i hi)
theorem Gw.own_lt (h : Gw B w g G N vn) {k : Nat} (hk : gOwn g N vn k) : B ≤ k ∧ k < w.heap.size := by
  rcases hk with rfl | hk | ⟨i, hi, hk⟩
  · exact ⟨h.lo, lt_of_block h.blk⟩
  · exact h.row.lt _ hk
  · exact (h.own i (by rw [← h.len]; exact hi)).lt _ hk
/-- It stays where none of its blocks turns. -/
theorem Gw.frm {S : Nat → Prop} (h : Gw B w g G N vn) (hf : Frm S w w') (hS : ∀ k, gOwn g N vn k → ¬ S k) : Gw B w' g G N vn :=
  ⟨hf.obj h.blk (hS _ (.inl rfl)), h.lo, hf.row h.row (fun k hk => hS k (.inr (.inl hk))), h.len, h.gone, fun i hi => hf.row (h.own i hi) (fun k hk => hS k (.inr (.inr ⟨i, by rw [h.len]; exact hi, hk⟩))), h.apart⟩
theorem Gw.keep (h : Gw B w g G N vn) (hb : Below w.heap.size w w') : Gw B w' g G N vn := h.frm (Frm.of_below hb fun _ => False) fun _ _ h => h
theorem Gw.of_base {B' : Nat} (h : Gw B w g G N vn) (hb : B' ≤ B) : Gw B' w g G N vn :=
  ⟨h.blk, by have := h.lo; omega, row_base h.row hb, h.len, h.gone, fun i hi => row_base (h.own i hi) hb, h.apart⟩
/-- What a call that changes it leaves. -/
structure Gs (B : Nat) (W w : World) (g : Nat) (G : List Nd) (N : List (Bool × Value)) (vn : Value) (G' : List Nd) : Prop where
  st : ∃ N' vn', Gw B w g G' N' vn' ∧ ∀ k, gOwn g N' vn' k → gOwn g N vn k ∨ W.heap.size ≤ k
  fr : Frm (gOwn g N vn) W w
theorem Gs.of_below (h : Gw B W g G N vn) (hb : Below W.heap.size W w) : Gs B W w g G N vn G := ⟨⟨N, vn, h.keep hb, fun _ hk => .inl hk⟩, Frm.of_below hb _⟩
theorem gw_new (W : World) : Gw W.heap.size (W.alloc (.cells #[.slice none 0 0] 63)) W.heap.size [] [] (.slice none 0 0) :=
  ⟨obj_new _ _, Nat.le_refl _, World.ownsRow_nil _ _ _ _, rfl, fun i h => absurd h (Nat.not_lt_zero _), fun i h => absurd h (Nat.not_lt_zero _), fun i j h => absurd h (Nat.not_lt_zero _)⟩
theorem gnew (W : World) : Calls Try.prog 11 #[] W fun e w' => e = .returned (.pointer (some ⟨W.heap.size, 0, none⟩)) ∧ Gw W.heap.size w' W.heap.size [] [] (.slice none 0 0) ∧ Below W.heap.size W w' := by
  have h := Lib.hid (And.intro (gw_new W) (balloc (Below.refl W.heap.size W) (.cells #[.slice none 0 0] 63)))
  go_enter Try.func11, Try.ntmps11
  go_wp2
  go_ret
  exact ⟨rfl, h.out⟩
end
end Go.Proofs.Ytggjimeligbmcab
