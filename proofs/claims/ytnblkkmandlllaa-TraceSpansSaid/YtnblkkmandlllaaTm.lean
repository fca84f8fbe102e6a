/-
  Spans as plain data: which are shown, merged; that they hang on the set of indexes alone. No condition but those that each theorem names; nothing here speaks of a program.
-/
import Derived.Test.YtnblkkmandlllaaTs
namespace Go.Proofs.Ytnblkkmandlllaa
set_option linter.unusedVariables false

def rightB (x : Nt) : Bool := decide (0 ≤ x.lo) && decide (x.lo ≤ x.seq) && decide (x.seq ≤ 4611686018427387904)
def spN (x : Nt) : Sp := (x.lo, x.seq)
/-- A ring's spans, as its notes tell them. -/
def pubN (l : List Nt) (ring : Int) : List Sp := ((l.filter (atB ring [1])).filter rightB).map spN
/-- An index is shown. -/
def InP (l : List Sp) (i : Int) : Prop := ∃ x ∈ l, x.1 ≤ i ∧ i ≤ x.2

/-- One span more. -/
def mstep (out : List Sp) (s : Sp) : List Sp :=
  match out.getLast? with
  | some t => if s.1 ≤ t.2 + 1 then out.dropLast ++ [(t.1, max t.2 s.2)] else out ++ [s]
  | none => [s]

/-- Spans as few as can be, rising. -/
structure Canon (out : List Sp) (P : Int → Prop) : Prop where
  ne : ∀ x ∈ out, x.1 ≤ x.2
  gap : out.Pairwise (fun x y => x.2 + 1 < y.1)
  cov : ∀ i, InP out i ↔ P i

theorem Canon.congr {out : List Sp} {P Q : Int → Prop} (h : Canon out P) (e : ∀ i, P i ↔ Q i) : Canon out Q := ⟨h.ne, h.gap, fun i => (h.cov i).trans (e i)⟩
theorem InP.nil (i : Int) : InP [] i ↔ False := by simp [InP]
theorem InP.cons (a : Sp) (l : List Sp) (i : Int) : InP (a :: l) i ↔ (a.1 ≤ i ∧ i ≤ a.2) ∨ InP l i := by
  unfold InP
  constructor
  · rintro ⟨x, hx, h⟩
    rcases List.mem_cons.1 hx with rfl | hx
    · exact .inl h
    · exact .inr ⟨x, hx, h⟩
  · rintro (h | ⟨x, hx, h⟩)
    · exact ⟨a, .head _, h⟩
    · exact ⟨x, .tail _ hx, h⟩
theorem InP.app (l m : List Sp) (i : Int) : InP (l ++ m) i ↔ InP l i ∨ InP m i := by
  unfold InP
  constructor
  · rintro ⟨x, hx, h⟩
    rcases List.mem_append.1 hx with hx | hx
    · exact .inl ⟨x, hx, h⟩
    · exact .inr ⟨x, hx, h⟩
  · rintro (⟨x, hx, h⟩ | ⟨x, hx, h⟩)
    · exact ⟨x, List.mem_append_left _ hx, h⟩
    · exact ⟨x, List.mem_append_right _ hx, h⟩
theorem InP.one (a : Sp) (i : Int) : InP [a] i ↔ a.1 ≤ i ∧ i ≤ a.2 := by rw [InP.cons, InP.nil]; simp
theorem InP.perm {l m : List Sp} (h : l.Perm m) (i : Int) : InP l i ↔ InP m i := by
  unfold InP
  constructor
  · rintro ⟨x, hx, r⟩; exact ⟨x, h.mem_iff.1 hx, r⟩
  · rintro ⟨x, hx, r⟩; exact ⟨x, h.mem_iff.2 hx, r⟩

theorem canon_tail {a : Sp} {r : List Sp} {P : Int → Prop} (h : Canon (a :: r) P) : Canon r (fun i => P i ∧ a.2 < i) := by
  have hg := List.pairwise_cons.1 h.gap
  refine ⟨fun x hx => h.ne x (.tail _ hx), hg.2, fun i => ?_⟩
  rw [← h.cov, InP.cons]
  constructor
  · intro hi
    refine ⟨.inr hi, ?_⟩
    obtain ⟨x, hx, h1, h2⟩ := hi
    have := hg.1 x hx
    omega
  · rintro ⟨h1 | h1, h2⟩
    · omega
    · exact h1

/-- There is one list of such spans for each set of indexes. -/
theorem canon_unique : ∀ (l m : List Sp) (P : Int → Prop), Canon l P → Canon m P → l = m
  | [], [], _, _, _ => rfl
  | [], b :: s, P, h, k => by
    have hb := k.ne b (.head _)
    have h1 := (k.cov b.1).1 ((InP.cons _ _ _).2 (.inl ⟨Int.le_refl _, hb⟩))
    exact absurd ((h.cov b.1).2 h1) (by rw [InP.nil]; exact id)
  | a :: r, [], P, h, k => by
    have ha := h.ne a (.head _)
    have h1 := (h.cov a.1).1 ((InP.cons _ _ _).2 (.inl ⟨Int.le_refl _, ha⟩))
    exact absurd ((k.cov a.1).2 h1) (by rw [InP.nil]; exact id)
  | a :: r, b :: s, P, h, k => by
    have ha := h.ne a (.head _)
    have hb := k.ne b (.head _)
    have hga := (List.pairwise_cons.1 h.gap).1
    have hgb := (List.pairwise_cons.1 k.gap).1
    -- the least
    have la : ∀ i, P i → a.1 ≤ i := fun i hi => by
      rcases (InP.cons _ _ _).1 ((h.cov i).2 hi) with h1 | ⟨x, hx, h1, h2⟩
      · exact h1.1
      · have := hga x hx; omega
    have lb : ∀ i, P i → b.1 ≤ i := fun i hi => by
      rcases (InP.cons _ _ _).1 ((k.cov i).2 hi) with h1 | ⟨x, hx, h1, h2⟩
      · exact h1.1
      · have := hgb x hx; omega
    have pa : ∀ i, a.1 ≤ i → i ≤ a.2 → P i := fun i h1 h2 => (h.cov i).1 ((InP.cons _ _ _).2 (.inl ⟨h1, h2⟩))
    have pb : ∀ i, b.1 ≤ i → i ≤ b.2 → P i := fun i h1 h2 => (k.cov i).1 ((InP.cons _ _ _).2 (.inl ⟨h1, h2⟩))
    have e1 : a.1 = b.1 := by
      have := la b.1 (pb _ (Int.le_refl _) hb)
      have := lb a.1 (pa _ (Int.le_refl _) ha)
      omega
    have na : ¬ P (a.2 + 1) := fun hp => by
      rcases (InP.cons _ _ _).1 ((h.cov _).2 hp) with h1 | ⟨x, hx, h1, h2⟩
      · omega
      · have := hga x hx; omega
    have nb : ¬ P (b.2 + 1) := fun hp => by
      rcases (InP.cons _ _ _).1 ((k.cov _).2 hp) with h1 | ⟨x, hx, h1, h2⟩
      · omega
      · have := hgb x hx; omega
    have e2 : a.2 = b.2 := by
      rcases Int.lt_trichotomy a.2 b.2 with hlt | heq | hgt
      · exact absurd (pb (a.2 + 1) (by omega) (by omega)) na
      · exact heq
      · exact absurd (pa (b.2 + 1) (by omega) (by omega)) nb
    have eab : a = b := Prod.ext e1 e2
    have ht := canon_unique r s _ (canon_tail h) (by rw [eab]; exact canon_tail k)
    rw [eab, ht]

/-- What is known of the spans while they are merged: all begin below a bound. -/
structure Mrg (out : List Sp) (P : Int → Prop) (lo : Int) : Prop where
  canon : Canon out P
  below : ∀ x ∈ out, x.1 ≤ lo
  from_ : ∀ x ∈ out, (∃ y, y = x.1) ∧ 0 ≤ x.1 ∧ x.2 ≤ 4611686018427387904

theorem getLast_split {out : List Sp} {t : Sp} (h : out.getLast? = some t) : out = out.dropLast ++ [t] := by
  have hne : out ≠ [] := by intro e; rw [e] at h; simp at h
  rw [List.getLast?_eq_some_getLast hne] at h
  have := List.dropLast_concat_getLast hne
  rw [Option.some.inj h] at this
  exact this.symm

theorem mstep_ok {out : List Sp} {P : Int → Prop} {lo : Int} {s : Sp} (h : Mrg out P lo) (hs : lo ≤ s.1) (hne : s.1 ≤ s.2) (h0 : 0 ≤ s.1) (hm : s.2 ≤ 4611686018427387904) : Mrg (mstep out s) (fun i => P i ∨ (s.1 ≤ i ∧ i ≤ s.2)) s.1 := by
  unfold mstep
  cases hl : out.getLast? with
  | none =>
    have he : out = [] := by simpa using hl
    subst he
    refine ⟨⟨by simpa using hne, by simp, fun i => ?_⟩, by simp, by simpa using ⟨h0, hm⟩⟩
    rw [InP.one, ← h.canon.cov, InP.nil]; simp
  | some t =>
    have ho := getLast_split hl
    have htm : t ∈ out := by rw [ho]; simp
    have htb := h.below t htm
    have htn := h.canon.ne t htm
    have hgt : ∀ x ∈ out.dropLast, x.2 + 1 < t.1 := fun x hx => by
      have hg := h.canon.gap
      rw [ho] at hg
      exact (List.pairwise_append.1 hg).2.2 x hx t (by simp)
    have hdp : out.dropLast.Pairwise (fun x y => x.2 + 1 < y.1) := by
      have hg := h.canon.gap
      rw [ho] at hg
      exact (List.pairwise_append.1 hg).1
    have hdm : ∀ x ∈ out.dropLast, x ∈ out := fun x hx => by rw [ho]; exact List.mem_append_left _ hx
    simp only
    by_cases hc : s.1 ≤ t.2 + 1
    · rw [if_pos hc]
      refine ⟨⟨?_, ?_, fun i => ?_⟩, ?_, ?_⟩
      · intro x hx
        rcases List.mem_append.1 hx with hx | hx
        · exact h.canon.ne x (hdm x hx)
        · simp at hx; subst hx; simp only; omega
      · refine List.pairwise_append.2 ⟨hdp, by simp, fun x hx y hy => ?_⟩
        simp at hy; subst hy; exact hgt x hx
      · have hcov := h.canon.cov i
        rw [ho, InP.app, InP.one] at hcov
        rw [InP.app, InP.one, ← hcov]
        simp only
        constructor
        · rintro (h1 | h1)
          · exact .inl (.inl h1)
          · by_cases h2 : i ≤ t.2
            · exact .inl (.inr ⟨h1.1, h2⟩)
            · exact .inr ⟨by omega, by omega⟩
        · rintro ((h1 | h1) | h1)
          · exact .inl h1
          · exact .inr ⟨h1.1, by omega⟩
          · exact .inr ⟨by omega, by omega⟩
      · intro x hx
        rcases List.mem_append.1 hx with hx | hx
        · have := h.below x (hdm x hx); omega
        · simp at hx; subst hx; simp only; omega
      · intro x hx
        rcases List.mem_append.1 hx with hx | hx
        · exact h.from_ x (hdm x hx)
        · have := h.from_ t htm
          simp at hx; subst hx; exact ⟨⟨_, rfl⟩, this.2.1, by simp only; omega⟩
    · rw [if_neg hc]
      refine ⟨⟨?_, ?_, fun i => ?_⟩, ?_, ?_⟩
      · intro x hx
        rcases List.mem_append.1 hx with hx | hx
        · exact h.canon.ne x hx
        · simp at hx; subst hx; exact hne
      · refine List.pairwise_append.2 ⟨h.canon.gap, by simp, fun x hx y hy => ?_⟩
        simp at hy; subst hy
        rw [ho] at hx
        rcases List.mem_append.1 hx with hx | hx
        · have := hgt x hx; omega
        · simp at hx; subst hx; omega
      · rw [InP.app, InP.one, h.canon.cov]
      · intro x hx
        rcases List.mem_append.1 hx with hx | hx
        · have := h.below x hx; omega
        · simp at hx; subst hx; exact Int.le_refl _
      · intro x hx
        rcases List.mem_append.1 hx with hx | hx
        · exact h.from_ x hx
        · simp at hx; subst hx; exact ⟨⟨_, rfl⟩, h0, hm⟩

theorem Mrg.nil : Mrg [] (fun i => InP [] i) 0 := ⟨⟨by simp, by simp, fun i => Iff.rfl⟩, by simp, by simp⟩

/-- All spans of a list, merged. -/
def merged (l : List Sp) : List Sp := l.foldl mstep []
theorem merged_snoc (l : List Sp) (s : Sp) : merged (l ++ [s]) = mstep (merged l) s := by simp [merged, List.foldl_append]

theorem merged_mrg : ∀ (k : Nat) (l : List Sp), l.Pairwise (fun x y => x.1 ≤ y.1) → (∀ x ∈ l, x.1 ≤ x.2 ∧ 0 ≤ x.1 ∧ x.2 ≤ 4611686018427387904) → k ≤ l.length →
    ∃ lo, Mrg (merged (l.take k)) (fun i => InP (l.take k) i) lo ∧ ∀ x, l[k]? = some x → lo ≤ x.1
  | 0, l, hp, hr, _ => ⟨0, by simpa [merged] using Mrg.nil, fun x hx => by
      have := (hr x (List.mem_of_getElem? hx)).2.1; exact this⟩
  | k + 1, l, hp, hr, hk => by
    obtain ⟨lo, hM, hlo⟩ := merged_mrg k l hp hr (by omega)
    have hx : l[k]? = some l[k] := List.getElem?_eq_getElem (by omega)
    have hm := hr l[k] (List.getElem_mem _)
    have h1 := mstep_ok hM (hlo _ hx) hm.1 hm.2.1 hm.2.2
    refine ⟨l[k].1, ?_, fun y hy => ?_⟩
    · rw [take_snocN hx, merged_snoc]
      exact ⟨h1.canon.congr fun i => by rw [InP.app, InP.one], h1.below, h1.from_⟩
    · obtain ⟨hk1, rfl⟩ := List.getElem?_eq_some_iff.1 hy
      exact (List.pairwise_iff_getElem.1 hp) k (k + 1) (by omega) hk1 (by omega)

/-- The spans shown. -/
structure ShownP (l : List Nt) (ring : Int) (out : List Sp) : Prop where
  canon : Canon out (fun i => InP (pubN l ring) i)
  bnd : ∀ x ∈ out, 0 ≤ x.1 ∧ x.2 ≤ 4611686018427387904
theorem pubN_ok (l : List Nt) (ring : Int) : ∀ x ∈ pubN l ring, x.1 ≤ x.2 ∧ 0 ≤ x.1 ∧ x.2 ≤ 4611686018427387904 := by
  intro x hx
  unfold pubN at hx
  obtain ⟨n, hn, rfl⟩ := List.mem_map.1 hx
  have := (List.mem_filter.1 hn).2
  unfold rightB at this
  simp at this
  exact ⟨this.1.2, this.1.1, this.2⟩
theorem shownP_of {l : List Nt} {ring : Int} {ps : List Sp} (hp : ps.Perm (pubN l ring)) (hs : ps.Pairwise (fun x y => x.1 ≤ y.1)) : ShownP l ring (merged ps) := by
  obtain ⟨lo, h, -⟩ := merged_mrg ps.length ps hs (fun x hx => pubN_ok l ring x (hp.mem_iff.1 hx)) (Nat.le_refl _)
  rw [List.take_length] at h
  exact ⟨h.canon.congr fun i => InP.perm hp i, fun x hx => (h.from_ x hx).2⟩
theorem pubN_len (l : List Nt) (ring : Int) : (pubN l ring).length ≤ l.length := by
  unfold pubN
  rw [List.length_map]
  exact Nat.le_trans (List.length_filter_le _ _) (List.length_filter_le _ _)
theorem mstep_len (out : List Sp) (s : Sp) : (mstep out s).length ≤ out.length + 1 := by
  unfold mstep
  cases hl : out.getLast? with
  | none => simp
  | some t =>
    simp only
    have := congrArg List.length (getLast_split hl)
    simp at this
    split <;> simp
theorem merged_len : ∀ (l acc : List Sp), (l.foldl mstep acc).length ≤ acc.length + l.length
  | [], acc => by simp
  | s :: r, acc => by
    rw [List.foldl_cons]
    have h1 := merged_len r (mstep acc s)
    have h2 := mstep_len acc s
    simp; omega
end Go.Proofs.Ytnblkkmandlllaa
