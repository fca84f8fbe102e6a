/-
  A probe of a barrier in plain numbers: its steps, what it comes to, and in how many. Nothing here speaks of a program.
  A probe's cells for a probe in plain numbers; a barrier, what its cells have. No condition but those that each theorem names.
-/
import Derived.Test.YtejkjpmigajidaaBk1
import Derived.Test.YtejkjpmigajidaaBr6
namespace Go.Proofs.Ytejkjpmigajidaa
open Go.RowKit
set_option linter.unusedVariables false

/-- A probe. -/
structure Pr where
  stg : Int
  next : Int
  sign : Int
  most : Int
  found : Int
  seen : Nat
  least : Int
/-- A step: what the alert has, those ahead, the cursor, and which indexes are shown. -/
def stepP (y : Int) (vs : List Int) (c : Int) (sb : Option (Int → Bool)) (p : Pr) : Pr :=
  if p.stg = 1 then
    if y = 1 then { p with sign := y, stg := 0 }
    else if 0 < vs.length then { p with sign := y, stg := 2, seen := 0, least := 9223372036854775807 }
    else { p with sign := y, stg := 3 }
  else if p.stg = 2 then
    if p.seen + 1 < vs.length then { p with seen := p.seen + 1, least := min p.least (vs.getD p.seen 0) }
    else { p with stg := 0, found := max p.found (min p.least (vs.getD p.seen 0)) }
  else if p.stg = 3 then
    match sb with
    | none => { p with stg := 0, found := max p.found c }
    | some _ => if c < p.next then { p with stg := 0, found := max p.found c } else { p with stg := 4, most := c }
  else if p.stg = 4 then
    match sb with
    | none => p
    | some f => if f (p.found + 1) then { p with found := p.found + 1, stg := if p.most ≤ p.found + 1 then 0 else 4 } else { p with stg := 0 }
  else p
/-- It may step. -/
def POk (vs : List Int) (sb : Option (Int → Bool)) (p : Pr) : Prop :=
  p.stg = 1 ∨ (p.stg = 2 ∧ p.seen < vs.length) ∨ p.stg = 3 ∨ (p.stg = 4 ∧ sb.isSome ∧ -1 ≤ p.found ∧ p.found < 4611686018427387904)
/-- What it comes to, and in how many steps. -/
inductive Ends (y : Int) (vs : List Int) (c : Int) (sb : Option (Int → Bool)) : Pr → Pr → Nat → Prop
  | done {p : Pr} : p.stg = 0 → Ends y vs c sb p p 0
  | step {p q : Pr} {n : Nat} : POk vs sb p → Ends y vs c sb (stepP y vs c sb p) q n → Ends y vs c sb p q (n + 1)
theorem POk.ne {vs : List Int} {sb : Option (Int → Bool)} {p : Pr} (h : POk vs sb p) : p.stg ≠ 0 := by
  rcases h with h | ⟨h, _⟩ | h | ⟨h, _⟩ <;> omega
theorem Ends.stg {y : Int} {vs : List Int} {c : Int} {sb : Option (Int → Bool)} {p q : Pr} {n : Nat} (h : Ends y vs c sb p q n) : q.stg = 0 := by
  induction h with
  | done h => exact h
  | step _ _ ih => exact ih
/-- Where it begins. -/
def pr0 (next : Int) : Pr := ⟨1, next, 0, 0, next - 1, 0, 0⟩
theorem ends_ahead {y : Int} {vs : List Int} {c : Int} {sb : Option (Int → Bool)} {next sign : Int} (a : Int) (hv : ∀ x ∈ vs, x ≤ 9223372036854775807) :
    ∀ (k : Nat) (j : Nat), k + j = vs.length → 0 < k → ∀ p : Pr, p.stg = 2 → p.seen = j → p.least = leastP 9223372036854775807 (vs.take j) →
      ∃ q, Ends y vs c sb p q k ∧ q.sign = p.sign ∧ q.next = p.next ∧ q.found = max p.found (leastP 9223372036854775807 vs) := by
  intro k
  induction k with
  | zero => intro j _ h; omega
  | succ k ih =>
    intro j hk _ p h1 h2 h3
    have hj : j < vs.length := by omega
    have hL : min p.least (vs.getD p.seen 0) = leastP 9223372036854775807 (vs.take (j + 1)) := by rw [leastP_take hj, h3, h2]
    have ok : POk vs sb p := .inr (.inl ⟨h1, by omega⟩)
    by_cases hl : p.seen + 1 < vs.length
    · have hs : stepP y vs c sb p = { p with seen := p.seen + 1, least := min p.least (vs.getD p.seen 0) } := by
        unfold stepP
        rw [if_neg (by omega), if_pos h1, if_pos hl]
      obtain ⟨q, e, q1, q2, q3⟩ := ih (j + 1) (by omega) (by omega) (stepP y vs c sb p) (by rw [hs]; exact h1) (by rw [hs]; show p.seen + 1 = j + 1; omega) (by rw [hs]; exact hL)
      rw [hs] at q1 q2 q3
      exact ⟨q, .step ok e, q1, q2, q3⟩
    · have hs : stepP y vs c sb p = { p with stg := 0, found := max p.found (min p.least (vs.getD p.seen 0)) } := by
        unfold stepP
        rw [if_neg (by omega), if_pos h1, if_neg hl]
      obtain rfl : k = 0 := by omega
      refine ⟨stepP y vs c sb p, .step ok (.done (by rw [hs])), by rw [hs], by rw [hs], ?_⟩
      rw [hs]
      show max p.found (min p.least (vs.getD p.seen 0)) = _
      rw [hL, show j + 1 = vs.length by omega, List.take_length]
theorem ends_walk {y : Int} {vs : List Int} {c : Int} {f : Int → Bool} {sh : List Int} (hc : c < 4611686018427387904) :
    ∀ (k : Nat) (p : Pr), (c - p.found).toNat = k → p.found < c → -1 ≤ p.found → p.stg = 4 → p.most = c → (∀ s, p.found < s → s ≤ c → (f s = true ↔ s ∈ sh)) →
      ∃ q, Ends y vs c (some f) p q ((upP sh c k p.found - p.found).toNat + if upP sh c k p.found < c then 1 else 0) ∧ q.sign = p.sign ∧ q.next = p.next ∧ q.found = upP sh c k p.found ∧ p.found ≤ upP sh c k p.found ∧ upP sh c k p.found ≤ c := by
  intro k
  induction k with
  | zero => intro p h1 h2; omega
  | succ k ih =>
    intro p h1 h2 h3 h4 h5 h6
    have ok : POk vs (some f) p := .inr (.inr (.inr ⟨h4, rfl, h3, by omega⟩))
    by_cases hf : f (p.found + 1) = true
    · have hm := (h6 (p.found + 1) (by omega) (by omega)).1 hf
      have hs : stepP y vs c (some f) p = { p with found := p.found + 1, stg := if p.most ≤ p.found + 1 then 0 else 4 } := by
        unfold stepP
        rw [if_neg (by omega), if_neg (by omega), if_neg (by omega), if_pos h4]
        show (if f (p.found + 1) = true then _ else _) = _
        rw [if_pos hf]
      have hu : upP sh c (k + 1) p.found = upP sh c k (p.found + 1) := by
        show (if p.found < c ∧ p.found + 1 ∈ sh then upP sh c k (p.found + 1) else p.found) = _
        rw [if_pos ⟨h2, hm⟩]
      rw [hu]
      by_cases hl : c ≤ p.found + 1
      · obtain rfl : k = 0 := by omega
        refine ⟨stepP y vs c (some f) p, ?_, by rw [hs], by rw [hs], by rw [hs]; rfl, by show p.found ≤ p.found + 1; omega, by show p.found + 1 ≤ c; omega⟩
        show Ends y vs c (some f) p _ ((p.found + 1 - p.found).toNat + if p.found + 1 < c then 1 else 0)
        rw [if_neg (by omega), show (p.found + 1 - p.found).toNat + 0 = 0 + 1 by omega]
        refine .step ok (.done ?_)
        rw [hs]
        show (if p.most ≤ p.found + 1 then (0 : Int) else 4) = 0
        rw [if_pos (by omega)]
      · have hs4 : (stepP y vs c (some f) p).stg = 4 := by
          rw [hs]
          show (if p.most ≤ p.found + 1 then (0 : Int) else 4) = 4
          rw [if_neg (by omega)]
        have hfd : (stepP y vs c (some f) p).found = p.found + 1 := by rw [hs]
        obtain ⟨q, e, q1, q2, q3, q4, q5⟩ := ih (stepP y vs c (some f) p) (by rw [hfd]; omega) (by rw [hfd]; omega) (by rw [hfd]; omega) hs4 (by rw [hs]; exact h5) (by rw [hfd]; exact fun s a b => h6 s (by omega) b)
        rw [hfd] at e q3 q4 q5
        refine ⟨q, ?_, by rw [q1, hs], by rw [q2, hs], q3, by omega, q5⟩
        have := Ends.step ok e
        rw [show (upP sh c k (p.found + 1) - p.found).toNat + (if upP sh c k (p.found + 1) < c then 1 else 0) = (upP sh c k (p.found + 1) - (p.found + 1)).toNat + (if upP sh c k (p.found + 1) < c then 1 else 0) + 1 by omega]
        exact this
    · have hm : p.found + 1 ∉ sh := fun h => hf ((h6 (p.found + 1) (by omega) (by omega)).2 h)
      have hs : stepP y vs c (some f) p = { p with stg := 0 } := by
        unfold stepP
        rw [if_neg (by omega), if_neg (by omega), if_neg (by omega), if_pos h4]
        show (if f (p.found + 1) = true then _ else _) = _
        rw [if_neg hf]
      rw [upP_no hm]
      refine ⟨stepP y vs c (some f) p, ?_, by rw [hs], by rw [hs], by rw [hs], by omega, by omega⟩
      rw [if_pos h2, show (p.found - p.found).toNat + 1 = 0 + 1 by omega]
      exact .step ok (.done (by rw [hs]))
theorem leastP_lo {z : Int} {vs : List Int} (h : 0 < vs.length) (hz : ∀ x ∈ vs, x ≤ z) : leastP z vs = leastP (vs.getD 0 0) vs := by
  obtain ⟨x, t, rfl⟩ : ∃ x t, vs = x :: t := by
    cases vs with
    | nil => simp at h
    | cons x t => exact ⟨x, t, rfl⟩
  show List.foldl min (min z x) t = List.foldl min (min x x) t
  rw [Int.min_eq_right (hz x (by simp)), Int.min_self]
/-- Whatever the alert, the cursor, those ahead and the buffer have. -/
theorem ends_look {y : Int} {vs : List Int} {c next : Int} {sb : Option (Int → Bool)} {sh : List Int} (h1 : 0 ≤ next ∧ next ≤ 1000) (hc : -1 ≤ c ∧ c ≤ 1000) (hv : ∀ x ∈ vs, -1 ≤ x ∧ x ≤ 1000) (h8 : vs.length ≤ 8)
    (hf : ∀ f, sb = some f → ∀ s, 0 ≤ s → s ≤ c → (f s = true ↔ s ∈ sh)) :
    ∃ q n, Ends y vs c sb (pr0 next) q n ∧ q.next = next ∧ q.sign = y ∧ (q.found = if y = 1 then next - 1 else lookP next c vs sb.isSome sh) ∧ ((n : Int) = if y = 1 then 1 else stepsP next c vs.length sb.isSome (lookP next c vs sb.isSome sh)) ∧ -1 ≤ q.found ∧ q.found ≤ 1000 ∧ n ≤ 2000 := by
  by_cases hy : y = 1
  · have hs : stepP y vs c sb (pr0 next) = { pr0 next with sign := y, stg := 0 } := by
      unfold stepP
      rw [if_pos (show (pr0 next).stg = 1 from rfl), if_pos hy]
    refine ⟨_, 0 + 1, .step (.inl rfl) (.done (by rw [hs])), by rw [hs]; rfl, by rw [hs], ?_, ?_, ?_, ?_, by omega⟩
    · rw [hs, if_pos hy]; rfl
    · rw [if_pos hy]; rfl
    · rw [hs]; show -1 ≤ next - 1; omega
    · rw [hs]; show next - 1 ≤ 1000; omega
  · rw [if_neg hy, if_neg hy]
    by_cases hn : 0 < vs.length
    · have hs : stepP y vs c sb (pr0 next) = { pr0 next with sign := y, stg := 2, seen := 0, least := 9223372036854775807 } := by
        unfold stepP
        rw [if_pos (show (pr0 next).stg = 1 from rfl), if_neg hy, if_pos hn]
      obtain ⟨q, e, q1, q2, q3⟩ := ends_ahead (y := y) (c := c) (sb := sb) (next := next) (sign := y) 0 (fun x hx => by have := hv x hx; omega) vs.length 0 (by omega) hn (stepP y vs c sb (pr0 next)) (by rw [hs]) (by rw [hs]) (by rw [hs]; rfl)
      rw [hs] at q1 q2 q3
      have hl := leastP_lo hn (z := 9223372036854775807) (fun x hx => by have := hv x hx; omega)
      have hm := leastP_le (vs.getD 0 0) vs
      have h0 : vs.getD 0 0 ∈ vs := by
        rw [List.getD_eq_getElem?_getD, List.getElem?_eq_getElem hn]
        exact List.getElem_mem hn
      have hlo : -1 ≤ leastP (vs.getD 0 0) vs := by
        have : ∀ (l : List Int) (z : Int), -1 ≤ z → (∀ x ∈ l, -1 ≤ x) → -1 ≤ leastP z l := by
          intro l
          induction l with
          | nil => intro z hz _; exact hz
          | cons x l ih => intro z hz hx; exact ih (min z x) (by have := hx x (by simp); omega) (fun y hy => hx y (by simp [hy]))
        exact this vs _ (hv _ h0).1 (fun x hx => (hv x hx).1)
      have hb := hv _ h0
      have hq : q.found = max (next - 1) (leastP (vs.getD 0 0) vs) := by rw [q3, hl]; rfl
      refine ⟨q, vs.length + 1, .step (.inl rfl) e, q2, q1, ?_, ?_, ?_, ?_, ?_⟩
      · rw [hq]
        unfold lookP
        rw [if_pos hn]
        by_cases hw : leastP (vs.getD 0 0) vs < next
        · rw [if_pos hw]; omega
        · rw [if_neg hw]; omega
      · unfold stepsP
        rw [if_pos (by omega)]
        omega
      · omega
      · omega
      · omega
    · have hs : stepP y vs c sb (pr0 next) = { pr0 next with sign := y, stg := 3 } := by
        unfold stepP
        rw [if_pos (show (pr0 next).stg = 1 from rfl), if_neg hy, if_neg hn]
      have ok3 : POk vs sb (stepP y vs c sb (pr0 next)) := .inr (.inr (.inl (by rw [hs])))
      have hlk : lookP next c vs sb.isSome sh = if c < next then next - 1 else if sb.isSome then upP sh c (c - next + 1).toNat (next - 1) else c := by
        unfold lookP
        rw [if_neg hn]
      have hst : ∀ a, stepsP next c vs.length sb.isSome a = if c < next ∨ sb.isSome = false then 2 else 2 + (a - next + 1 + if a < c then 1 else 0) := fun a => by
        unfold stepsP
        rw [if_neg (by omega)]
      rw [hst, hlk]
      by_cases hw : c < next ∨ sb = none
      · have hs2 : stepP y vs c sb (stepP y vs c sb (pr0 next)) = { pr0 next with sign := y, stg := 0, found := max (next - 1) c } := by
          rw [hs]
          unfold stepP
          rw [if_neg (by show ¬ (3 : Int) = 1; omega), if_neg (by show ¬ (3 : Int) = 2; omega), if_pos rfl]
          cases sb with
          | none => rfl
          | some f => show (if c < next then _ else _) = _; rw [if_pos (hw.resolve_right (by simp))]; rfl
        refine ⟨_, 0 + 1 + 1, .step (.inl rfl) (.step ok3 (.done (by rw [hs2]))), by rw [hs2]; rfl, by rw [hs2], ?_, ?_, ?_, ?_, by omega⟩
        · rw [hs2]
          show max (next - 1) c = _
          by_cases hcn : c < next
          · rw [if_pos hcn]; omega
          · rw [if_neg hcn, show sb = none from hw.resolve_left hcn, if_neg (by simp)]; omega
        · rw [if_pos (by rcases hw with h | h; · exact .inl h
                         · exact .inr (by rw [h]; rfl))]
          rfl
        · rw [hs2]; show -1 ≤ max (next - 1) c; omega
        · rw [hs2]; show max (next - 1) c ≤ 1000; omega
      · have hcn : ¬ c < next := fun h => hw (.inl h)
        obtain ⟨f, rfl⟩ : ∃ f, sb = some f := by
          cases sb with
          | none => exact absurd (.inr rfl) hw
          | some f => exact ⟨f, rfl⟩
        have hs2 : stepP y vs c (some f) (stepP y vs c (some f) (pr0 next)) = { pr0 next with sign := y, stg := 4, most := c } := by
          rw [hs]
          unfold stepP
          rw [if_neg (by show ¬ (3 : Int) = 1; omega), if_neg (by show ¬ (3 : Int) = 2; omega), if_pos rfl]
          show (if c < next then _ else _) = _
          rw [if_neg hcn]
        obtain ⟨q, e, q1, q2, q3, q4, q5⟩ := ends_walk (y := y) (vs := vs) (c := c) (f := f) (sh := sh) (by omega) (c - (next - 1)).toNat (stepP y vs c (some f) (stepP y vs c (some f) (pr0 next))) (by rw [hs2]; rfl) (by rw [hs2]; show next - 1 < c; omega) (by rw [hs2]; show -1 ≤ next - 1; omega) (by rw [hs2]) (by rw [hs2]) (by
          rw [hs2]
          intro s a b
          exact hf f rfl s (by have : next - 1 < s := a; omega) b)
        have hfd : (stepP y vs c (some f) (stepP y vs c (some f) (pr0 next))).found = next - 1 := by rw [hs2]; rfl
        rw [hfd] at e q3 q4 q5
        rw [if_neg hcn, if_pos (show (some f).isSome = true from rfl), if_neg (by simp [hcn]), show (c - next + 1).toNat = (c - (next - 1)).toNat by omega]
        generalize upP sh c (c - (next - 1)).toNat (next - 1) = r at *
        refine ⟨q, _, .step (.inl rfl) (.step ok3 e), by rw [q2, hs2]; rfl, by rw [q1, hs2], q3, ?_, by omega, by omega, ?_⟩
        · split <;> omega
        · split <;> omega
end Go.Proofs.Ytejkjpmigajidaa
namespace Go.Proofs.Ytejkjpmigajidaa
open Go.RowKit
set_option linter.unusedVariables false

/-- A probe's cells stand for plain numbers. -/
structure PrF (ts : Array Value) (bp : Option Addr) (ids : List Int) (p : Pr) : Prop where
  f : PbF ts bp p.stg p.next p.sign p.most p.found
  s : p.stg = 2 → PbS ts ids p.seen p.least
/-- What lies where: a buffer's block, first cell and size, if there is one. -/
abbrev Sho := Option (Nat × Nat × Nat)
def shA (sh : Sho) : Option Addr := sh.map fun t => ⟨t.1, 0, none⟩
/-- A barrier in its block, beside an arena. -/
structure Bw (R : Rest) (bb : Nat) (cs : Array Value) (cur al : Nat) (sh : Sho) (ids : List Int) : Prop where
  blk : ∀ w, R.inv w → Blk w bb cs 177
  f : BrF cs cur (shA sh) ids al
  sh : ∀ q f k, sh = some (q, f, k) → ∀ w, R.inv w → Bf w q f k
  len : ids.length ≤ 32
/-- What the cells have. -/
def yOf (xs : List Int) (al : Nat) : Int := xs.getD al 0
def cOf (xs : List Int) (cur : Nat) : Int := xs.getD cur 0
def sbOf (xs : List Int) (sh : Sho) : Option (Int → Bool) := sh.map fun t => shownB xs t.2.1 t.2.2
/-- The cells are there. -/
structure InB (xs : List Int) (cur al : Nat) (sh : Sho) (ids : List Int) : Prop where
  al : al < xs.length
  cur : cur < xs.length
  ids : ∀ j, j < ids.length → 0 ≤ ids.getD j 0 ∧ ids.getD j 0 < (xs.length : Int)
  sh : ∀ q f k, sh = some (q, f, k) → f + two k ≤ (xs.length : Int)
/-- A step of a probe that stands there. -/
def stepB (xs : List Int) (cur al : Nat) (sh : Sho) (ids : List Int) (p : Pr) : Pr := stepP (yOf xs al) (valsOf xs ids) (cOf xs cur) (sbOf xs sh) p
section
variable {xs ids : List Int} {cur al : Nat} {sh : Sho}
theorem InB.y (h : InB xs cur al sh ids) : xs[al]? = some (yOf xs al) := by
  unfold yOf
  rw [List.getD_eq_getElem?_getD, List.getElem?_eq_getElem h.al]
  rfl
theorem InB.c (h : InB xs cur al sh ids) : xs[cur]? = some (cOf xs cur) := by
  unfold cOf
  rw [List.getD_eq_getElem?_getD, List.getElem?_eq_getElem h.cur]
  rfl
theorem InB.v (h : InB xs cur al sh ids) {j : Nat} (hj : j < ids.length) : ∃ z : Nat, ids.getD j 0 = z ∧ xs[z]? = some ((valsOf xs ids).getD j 0) := by
  obtain ⟨h1, h2⟩ := h.ids j hj
  refine ⟨(ids.getD j 0).toNat, by omega, ?_⟩
  have hz : (ids.getD j 0).toNat < xs.length := by omega
  have e : (valsOf xs ids).getD j 0 = xs.getD (ids.getD j 0).toNat 0 := by
    simp [valsOf, List.getD_eq_getElem?_getD, List.getElem?_eq_getElem hj]
  rw [e]
  clear e h1 h2
  generalize (ids.getD j 0).toNat = z at *
  rw [List.getD_eq_getElem?_getD, List.getElem?_eq_getElem hz]
  rfl
theorem vals_len : (valsOf xs ids).length = ids.length := by simp [valsOf]
end
end Go.Proofs.Ytejkjpmigajidaa
