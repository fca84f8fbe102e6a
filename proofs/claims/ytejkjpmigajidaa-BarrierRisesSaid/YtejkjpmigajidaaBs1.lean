/-
  BarrierRises in plain numbers: as long as cells only rise, what a probe found isn't more than what a look finds later. Nothing here speaks of a program, but for the last contract: a cell is added to.
-/
import Derived.Test.YtejkjpmigajidaaBl1
namespace Go.Proofs.Ytejkjpmigajidaa
open Go.RowKit
set_option linter.unusedVariables false

/-- A look where there is no buffer and no alert. -/
theorem ends_none {vs : List Int} {c next : Int} (hv : ∀ x ∈ vs, x ≤ 9223372036854775807) :
    ∃ q k, Ends 0 vs c none (pr0 next) q k ∧ q.next = next ∧ q.sign = 0 ∧ q.found = max (next - 1) (if 0 < vs.length then leastP 9223372036854775807 vs else c) ∧ k ≤ vs.length + 2 := by
  by_cases hn : 0 < vs.length
  · have hs : stepP 0 vs c none (pr0 next) = { pr0 next with sign := 0, stg := 2, seen := 0, least := 9223372036854775807 } := by
      unfold stepP
      rw [if_pos (show (pr0 next).stg = 1 from rfl), if_neg (by decide), if_pos hn]
    obtain ⟨q, e, q1, q2, q3⟩ := ends_ahead (y := 0) (c := c) (sb := none) (next := next) (sign := 0) 0 hv vs.length 0 (by omega) hn (stepP 0 vs c none (pr0 next)) (by rw [hs]) (by rw [hs]) (by rw [hs]; rfl)
    rw [hs] at q1 q2 q3
    exact ⟨q, vs.length + 1, .step (.inl rfl) e, q2, q1, by rw [q3, if_pos hn]; rfl, by omega⟩
  · have hs : stepP 0 vs c none (pr0 next) = { pr0 next with sign := 0, stg := 3 } := by
      unfold stepP
      rw [if_pos (show (pr0 next).stg = 1 from rfl), if_neg (by decide), if_neg hn]
    have ok3 : POk vs none (stepP 0 vs c none (pr0 next)) := .inr (.inr (.inl (by rw [hs])))
    have hs2 : stepP 0 vs c none (stepP 0 vs c none (pr0 next)) = { pr0 next with sign := 0, stg := 0, found := max (next - 1) c } := by
      rw [hs]
      unfold stepP
      rw [if_neg (by show ¬ (3 : Int) = 1; omega), if_neg (by show ¬ (3 : Int) = 2; omega), if_pos rfl]
      rfl
    exact ⟨_, 0 + 1 + 1, .step (.inl rfl) (.step ok3 (.done (by rw [hs2]))), by rw [hs2]; rfl, by rw [hs2], by rw [hs2, if_neg hn], by omega⟩
/-- What holds of a probe while cells rise: how many steps are left. -/
def RsI (next c : Int) (vs : List Int) (p : Pr) (r : Nat) : Prop :=
  p.next = next ∧ ((p.stg = 1 ∧ p.found = next - 1 ∧ r = vs.length + 2) ∨
    (p.stg = 2 ∧ p.found = next - 1 ∧ p.seen < vs.length ∧ r = vs.length - p.seen ∧ ∀ j, j < p.seen → p.least ≤ vs.getD j 0) ∨
    (p.stg = 3 ∧ vs.length = 0 ∧ p.found = next - 1 ∧ r = 1) ∨
    (p.stg = 0 ∧ r = 0 ∧ (p.found ≤ next - 1 ∨ (0 < vs.length ∧ ∀ j, j < vs.length → p.found ≤ vs.getD j 0) ∨ (vs.length = 0 ∧ p.found ≤ c))))
theorem RsI.rise {next c c' : Int} {vs vs' : List Int} {p : Pr} {r : Nat} (h : RsI next c vs p r) (hl : vs'.length = vs.length) (hc : c ≤ c') (hv : ∀ j, j < vs.length → vs.getD j 0 ≤ vs'.getD j 0) : RsI next c' vs' p r := by
  obtain ⟨h0, h | ⟨h1, h2, h3, h4, h5⟩ | ⟨h1, h2, h3⟩ | ⟨h1, h2, h3⟩⟩ := h
  · exact ⟨h0, .inl (by rw [hl]; exact h)⟩
  · exact ⟨h0, .inr (.inl ⟨h1, h2, by rw [hl]; exact h3, by rw [hl]; exact h4, fun j hj => Int.le_trans (h5 j hj) (hv j (by omega))⟩)⟩
  · exact ⟨h0, .inr (.inr (.inl ⟨h1, by rw [hl]; exact h2, h3⟩))⟩
  · refine ⟨h0, .inr (.inr (.inr ⟨h1, h2, ?_⟩))⟩
    rcases h3 with h3 | ⟨h3, h4⟩ | ⟨h3, h4⟩
    · exact .inl h3
    · exact .inr (.inl ⟨by omega, fun j hj => Int.le_trans (h4 j (by omega)) (hv j (by omega))⟩)
    · exact .inr (.inr ⟨by omega, Int.le_trans h4 hc⟩)
theorem RsI.ok {next c : Int} {vs : List Int} {p : Pr} {r : Nat} (h : RsI next c vs p r) (hs : p.stg ≠ 0) : POk vs none p ∧ ∃ r', r' < r ∧ RsI next c vs (stepP 0 vs c none p) r' := by
  obtain ⟨h0, ⟨h1, h2, h3⟩ | ⟨h1, h2, h3, h4, h5⟩ | ⟨h1, h2, h3, h4⟩ | ⟨h1, _⟩⟩ := h
  · refine ⟨.inl h1, ?_⟩
    by_cases hn : 0 < vs.length
    · have e : stepP 0 vs c none p = { p with sign := 0, stg := 2, seen := 0, least := 9223372036854775807 } := by
        unfold stepP
        rw [if_pos h1, if_neg (by decide), if_pos hn]
      rw [e]
      exact ⟨vs.length - 0, by omega, h0, .inr (.inl ⟨rfl, h2, hn, rfl, fun j hj => absurd hj (Nat.not_lt_zero _)⟩)⟩
    · have e : stepP 0 vs c none p = { p with sign := 0, stg := 3 } := by
        unfold stepP
        rw [if_pos h1, if_neg (by decide), if_neg hn]
      rw [e]
      exact ⟨1, by omega, h0, .inr (.inr (.inl ⟨rfl, by omega, h2, rfl⟩))⟩
  · refine ⟨.inr (.inl ⟨h1, h3⟩), ?_⟩
    by_cases hl : p.seen + 1 < vs.length
    · have e : stepP 0 vs c none p = { p with seen := p.seen + 1, least := min p.least (vs.getD p.seen 0) } := by
        unfold stepP
        rw [if_neg (by omega), if_pos h1, if_pos hl]
      rw [e]
      refine ⟨vs.length - (p.seen + 1), by omega, h0, .inr (.inl ⟨h1, h2, hl, rfl, fun j hj => ?_⟩)⟩
      show min p.least (vs.getD p.seen 0) ≤ vs.getD j 0
      have hj' : j < p.seen + 1 := hj
      by_cases e : j = p.seen
      · subst e; omega
      · have := h5 j (by omega); omega
    · have e : stepP 0 vs c none p = { p with stg := 0, found := max p.found (min p.least (vs.getD p.seen 0)) } := by
        unfold stepP
        rw [if_neg (by omega), if_pos h1, if_neg hl]
      rw [e]
      refine ⟨0, by omega, h0, .inr (.inr (.inr ⟨rfl, rfl, ?_⟩))⟩
      show max p.found (min p.least (vs.getD p.seen 0)) ≤ next - 1 ∨ _
      by_cases hm : min p.least (vs.getD p.seen 0) ≤ next - 1
      · exact .inl (by omega)
      · refine .inr (.inl ⟨by omega, fun j hj => ?_⟩)
        show max p.found (min p.least (vs.getD p.seen 0)) ≤ vs.getD j 0
        by_cases e : j = p.seen
        · subst e; omega
        · have := h5 j (by omega); omega
  · refine ⟨.inr (.inr (.inl h1)), ?_⟩
    have e : stepP 0 vs c none p = { p with stg := 0, found := max p.found c } := by
      unfold stepP
      rw [if_neg (by omega), if_neg (by omega), if_pos h1]
    rw [e]
    refine ⟨0, by omega, h0, .inr (.inr (.inr ⟨rfl, rfl, ?_⟩))⟩
    show max p.found c ≤ next - 1 ∨ _ ∨ vs.length = 0 ∧ max p.found c ≤ c
    by_cases hm : c ≤ next - 1
    · exact .inl (by omega)
    · exact .inr (.inr ⟨h2, by omega⟩)
  · exact absurd h1 hs
/-- What was found isn't more than what a look finds now. -/
theorem RsI.le {next c : Int} {vs : List Int} {p : Pr} {r : Nat} (h : RsI next c vs p r) (hs : p.stg = 0) (hb : ∀ x ∈ vs, x ≤ 9223372036854775807) : p.found ≤ max (next - 1) (if 0 < vs.length then leastP 9223372036854775807 vs else c) := by
  obtain ⟨_, ⟨h1, _⟩ | ⟨h1, _⟩ | ⟨h1, _⟩ | ⟨_, _, h3⟩⟩ := h
  · omega
  · omega
  · omega
  · rcases h3 with h3 | ⟨h3, h4⟩ | ⟨h3, h4⟩
    · omega
    · rw [if_pos h3]
      have h0 := h4 0 h3
      have hm : vs.getD 0 0 ∈ vs := by
        rw [List.getD_eq_getElem?_getD, List.getElem?_eq_getElem h3]
        exact List.getElem_mem h3
      have : p.found ≤ leastP 9223372036854775807 vs := le_least.2 ⟨by have := hb _ hm; omega, fun x hx => by
        obtain ⟨i, hi, rfl⟩ := List.getElem_of_mem hx
        have := h4 i hi
        rw [List.getD_eq_getElem?_getD, List.getElem?_eq_getElem hi] at this
        exact this⟩
      omega
    · rw [if_neg (by omega)]
      omega
theorem add_mv {R : Rest} {W0 W : World} {b : Nat} {xs : List Int} {st : Int} (h : Mv R W0 W b xs st) (i : Nat) (x d : Int) (hx : xs[i]? = some x) (hxb : -9223372036854775808 ≤ x ∧ x ≤ 9223372036854775807) (hw : -9223372036854775808 ≤ x + d ∧ x + d ≤ 9223372036854775807) (hd : -9223372036854775808 ≤ d ∧ d ≤ 9223372036854775807) (h0 : 0 ≤ st) (h1 : st < 4611686018427387904) :
    Calls Try.prog 34 #[.pointer (some ⟨b, 0, none⟩), .int .i64 i, .int .i64 d] W fun e w' => e = .returned (.tuple #[.int .i64 (x + d), .nilIface]) ∧ Mv R W0 w' b (xs.set i (x + d)) (st + 1) := by
  obtain ⟨v, ha, h3, h4, h5, h6⟩ := h
  exact (add_yes i d W b v xs st x ha hx hd.1 hd.2 hxb.1 hxb.2 hw.1 hw.2 h0 h1).mono fun _ _ ⟨he, hs⟩ => ⟨he, Mv.step ha h3 h4 h5 h6 hs⟩
/-- The cells while they rise. -/
structure XsI (n alc : Nat) (xs : List Int) (j : Nat) : Prop where
  len : xs.length = alc + 1
  al : yOf xs alc = 0
  v : ∀ i, i < n + 1 → ∃ x, xs[i]? = some x ∧ -1 ≤ x ∧ x ≤ 1000 + 2 * (j : Int)
theorem XsI.inb {n alc : Nat} {xs : List Int} {j : Nat} (h : XsI n alc xs j) (hl : n < alc) : InB xs 0 alc none (idsB n) := by
  refine ⟨by have := h.len; omega, by have := h.len; omega, fun i hi => ?_, fun q f k h => (by cases h)⟩
  have hi' : i < n := by rw [idsB_len] at hi; exact hi
  rw [idsB_at hi', h.len]
  omega
theorem XsI.le {n alc : Nat} {xs : List Int} {j : Nat} (h : XsI n alc xs j) : ∀ x ∈ valsOf xs (idsB n), x ≤ 1000 + 2 * (j : Int) := by
  intro x hx
  unfold valsOf idsB at hx
  rw [List.map_map, List.mem_map] at hx
  obtain ⟨i, hi, rfl⟩ := hx
  rw [List.mem_range] at hi
  obtain ⟨u, hu, _, h2⟩ := h.v (i + 1) (by omega)
  show xs.getD (((i + 1 : Nat) : Int)).toNat 0 ≤ _
  rw [Int.toNat_natCast, List.getD_eq_getElem?_getD, hu]
  exact h2
theorem XsI.more {n alc : Nat} {xs : List Int} {j : Nat} (h : XsI n alc xs j) : XsI n alc xs (j + 1) :=
  ⟨h.len, h.al, fun i hi => by obtain ⟨x, h1, h2, h3⟩ := h.v i hi; exact ⟨x, h1, h2, by omega⟩⟩
theorem vals_at {n : Nat} {xs : List Int} {i : Nat} (h : i < n) : (valsOf xs (idsB n)).getD i 0 = xs.getD (i + 1) 0 := by
  simp [valsOf, idsB, List.getD_eq_getElem?_getD, h]
/-- One of the cells rises. -/
theorem XsI.add {n alc : Nat} {xs : List Int} {j : Nat} (h : XsI n alc xs j) (hl : n < alc) {id : Nat} (hid : id < n + 1) {x d : Int} (hx : xs[id]? = some x) (hd : 0 ≤ d ∧ d ≤ 2) {next : Int} {p : Pr} {r : Nat} (hr : RsI next (cOf xs 0) (valsOf xs (idsB n)) p r) :
    XsI n alc (xs.set id (x + d)) (j + 1) ∧ RsI next (cOf (xs.set id (x + d)) 0) (valsOf (xs.set id (x + d)) (idsB n)) p r := by
  have hup : ∀ i, xs.getD i 0 ≤ (xs.set id (x + d)).getD i 0 := fun i => by
    rw [List.getD_eq_getElem?_getD, List.getD_eq_getElem?_getD]
    by_cases e : id = i
    · subst e
      have hlt : id < xs.length := by
        rcases Nat.lt_or_ge id xs.length with k | k
        · exact k
        · rw [List.getElem?_eq_none k] at hx; cases hx
      rw [List.getElem?_set_self hlt, hx]
      show x ≤ x + d
      omega
    · rw [List.getElem?_set_ne e]
      exact Int.le_refl _
  refine ⟨⟨by rw [List.length_set]; exact h.len, ?_, fun i hi => ?_⟩, hr.rise (by rw [vals_len, vals_len]) (hup 0) fun i hi => ?_⟩
  · have := h.al
    unfold yOf at this ⊢
    rw [List.getD_eq_getElem?_getD] at this ⊢
    rw [List.getElem?_set_ne (by omega)]
    exact this
  · obtain ⟨u, h1, h2, h3⟩ := h.v i hi
    by_cases e : id = i
    · subst e
      obtain rfl : u = x := by rw [h1] at hx; exact Option.some.inj hx
      exact ⟨u + d, List.getElem?_set_self (by have := h.len; omega), by omega, by omega⟩
    · exact ⟨u, by rw [List.getElem?_set_ne e]; exact h1, h2, by omega⟩
  · have hi' : i < n := by rw [vals_len, idsB_len] at hi; exact hi
    rw [vals_at hi', vals_at hi']
    exact hup (i + 1)
end Go.Proofs.Ytejkjpmigajidaa
