/-
  A step of a claim of package multi, whatever is next, wherever in the arena the sequencer's cells are; by contract. Conditions: the numbers are modest; fewer than 2^62 steps.
  A claim of package multi under way while nobody else claims, wherever its cells lie, in plain numbers: each of its steps, and how it ends. No condition but those that each theorem names.
-/
import Derived.Test.YtjadapjjilegnaaGreatPl
import Derived.Test.YtjadapjjilegnaaGreatCI
set_option linter.unusedSimpArgs false
namespace Go.Proofs.YtjadapjjilegnaaGreat
open Go.RowKit

/-- A step. -/
def stepG (cur cch : Nat) (N : Int) (ids xs : List Int) (sw : Int) (t : Tr) : List Int × Int × Tr :=
  if t.stg = 1 then (xs, sw, { t with had := xs.getD cur 0, last := xs.getD cur 0 + t.n, stg := 2 })
  else if t.stg = 2 then
    if xs.getD cch 0 ≤ t.had ∧ t.last - N ≤ xs.getD cch 0 then (xs, sw, { t with stg := 5 }) else (xs, sw, judgeT N { t with ids := ids, seen := 0, least := t.had })
  else if t.stg = 3 then (xs, sw, judgeT N { t with seen := t.seen + 1, least := min t.least (xs.getD (t.ids.getD t.seen 0).toNat 0) })
  else if t.stg = 4 then (xs.set cch t.least, sw, { t with stg := 5 })
  else if t.stg = 5 then
    if xs.getD cur 0 = t.had then (xs.set cur t.last, t.last, { t with stg := 6 }) else (xs, sw, tr0 t.n)
  else (xs, sw, t)

/-- What a step asks for. -/
structure TOkG (cur cch : Nat) (xs : List Int) (t : Tr) : Prop where
  n1 : 1 ≤ t.n
  n2 : t.n ≤ 1048576
  s1 : 1 ≤ t.stg
  s7 : t.stg ≤ 7
  c1 : -1 ≤ xs.getD cur 0
  c2 : xs.getD cur 0 ≤ 4611686018427387904 - t.n
  l1 : -4611686018427387905 ≤ t.last
  l2 : t.last ≤ 4611686018427387904
  lu : cur < xs.length
  lc : cch < xs.length
  sc : t.stg = 3 → t.ids.length ≤ 32 ∧ t.seen < t.ids.length ∧ 0 ≤ t.ids.getD t.seen 0 ∧ t.ids.getD t.seen 0 < xs.length

/-- Step, whatever is next. -/
theorem tstep_gen {ts : Array Value} {R : Rest} {W0 W : World} {s : Sh} {ids xs : List Int} {sw st : Int} {t : Tr} (h : TyF ts s.p t) (hm : Ms R W0 W s ids sw xs st) (hk : TOkG s.cur s.cch xs t) (h0 : 0 ≤ st) (h1 : st < 4611686018427387904) :
    Calls Tryz.prog 85 #[.agg ts] W fun e w' => ∃ st', st ≤ st' ∧ st' ≤ st + 1 ∧ Did R W0 s ids (stepG s.cur s.cch (two s.k) ids xs sw t).1 (stepG s.cur s.cch (two s.k) ids xs sw t).2.1 st' (stepG s.cur s.cch (two s.k) ids xs sw t).2.2 e w' := by
  have x0 := getD_some (xs := xs) (i := s.cur) hk.lu
  have x1 := getD_some (xs := xs) (i := s.cch) hk.lc
  have go : ∀ {xs' : List Int} {sw' st' : Int} {t' : Tr}, stepG s.cur s.cch (two s.k) ids xs sw t = (xs', sw', t') → st ≤ st' → st' ≤ st + 1 →
      Calls Tryz.prog 85 #[.agg ts] W (Did R W0 s ids xs' sw' st' t') → Calls Tryz.prog 85 #[.agg ts] W fun e w' => ∃ st', st ≤ st' ∧ st' ≤ st + 1 ∧ Did R W0 s ids (stepG s.cur s.cch (two s.k) ids xs sw t).1 (stepG s.cur s.cch (two s.k) ids xs sw t).2.1 st' (stepG s.cur s.cch (two s.k) ids xs sw t).2.2 e w' := by
    intro xs' sw' st' t' he h1 h2 hc
    rw [he]
    exact hc.mono fun e w' hd => ⟨st', h1, h2, hd⟩
  have hs := hk.s1
  have hs7 := hk.s7
  by_cases e1 : t.stg = 1
  · refine go (st' := st + 1) (by unfold stepG; rw [if_pos e1]) (by omega) (by omega) (tstep_of h hm fun R W hm => tnext_1 h e1 hm fun R W hm => ?_)
    exact tbegin h hm x0 hk.n1 hk.n2 hk.c1 hk.c2 h0 h1
  by_cases e2 : t.stg = 2
  · by_cases hy : xs.getD s.cch 0 ≤ t.had
    · by_cases he : t.last - two s.k ≤ xs.getD s.cch 0
      · refine go (st' := st + 1) (by unfold stepG; rw [if_neg e1, if_pos e2, if_pos ⟨hy, he⟩]) (by omega) (by omega) (tstep_of h hm fun R W hm => tnext_2 h e2 hm fun R W hm => ?_)
        exact trecall_yes h hm x1 hk.l1 hk.l2 h0 h1 hy he
      · refine go (st' := st + 1) (by unfold stepG; rw [if_neg e1, if_pos e2, if_neg (fun e => he e.2)]) (by omega) (by omega) (tstep_of h hm fun R W hm => tnext_2 h e2 hm fun R W hm => ?_)
        exact trecall_few h hm x1 hk.l1 hk.l2 h0 h1 hy (by omega)
    · refine go (st' := st + 1) (by unfold stepG; rw [if_neg e1, if_pos e2, if_neg (fun e => hy e.1)]) (by omega) (by omega) (tstep_of h hm fun R W hm => tnext_2 h e2 hm fun R W hm => ?_)
      exact trecall_far h hm x1 hk.l1 hk.l2 h0 h1 (by omega)
  by_cases e3 : t.stg = 3
  · obtain ⟨q1, q2, q3, q4⟩ := hk.sc e3
    refine go (st' := st + 1) (by unfold stepG; rw [if_neg e1, if_neg e2, if_pos e3]) (by omega) (by omega) (tstep_of h hm fun R W hm => tnext_3 h e3 hm fun R W hm => ?_)
    exact tlook (z := (t.ids.getD t.seen 0).toNat) h hm q1 q2 (by omega) (getD_some (by omega)) hk.l1 hk.l2 h0 h1
  by_cases e4 : t.stg = 4
  · refine go (st' := st + 1) (by unfold stepG; rw [if_neg e1, if_neg e2, if_neg e3, if_pos e4]) (by omega) (by omega) (tstep_of h hm fun R W hm => tnext_4 h e4 hm fun R W hm => ?_)
    exact tremember h hm hk.lc h0 h1
  by_cases e5 : t.stg = 5
  · by_cases hx : xs.getD s.cur 0 = t.had
    · refine go (st' := st + 1) (by unfold stepG; rw [if_neg e1, if_neg e2, if_neg e3, if_neg e4, if_pos e5, if_pos hx]) (by omega) (by omega) (tstep_of h hm fun R W hm => tnext_5 h e5 hm fun R W hm => ?_)
      exact tswap_yes h hm (by rw [x0, hx]) h0 h1
    · refine go (st' := st + 1) (by unfold stepG; rw [if_neg e1, if_neg e2, if_neg e3, if_neg e4, if_pos e5, if_neg hx]) (by omega) (by omega) (tstep_of h hm fun R W hm => tnext_5 h e5 hm fun R W hm => ?_)
      exact tswap_no h hm x0 (by simpa using hx) h0 h1
  · refine go (st' := st) (by unfold stepG; rw [if_neg e1, if_neg e2, if_neg e3, if_neg e4, if_neg e5]) (by omega) (by omega) (tstep_of h hm fun R W hm => tnext_done h (by omega) hm)
end Go.Proofs.YtjadapjjilegnaaGreat
namespace Go.Proofs.YtjadapjjilegnaaGreat
open Go.RowKit
set_option linter.unusedVariables false

/-- Where the cells are, and what they have. -/
structure XOk (u h : Nat) (X ids : List Int) (c sn : Int) : Prop where
  cu : X[u]? = some c
  ch : X[h]? = some sn
  ne : u ≠ h
  ln : ids.length ≤ 32
  at' : ∀ j, j < ids.length → 0 ≤ ids.getD j 0 ∧ ids.getD j 0 < X.length

/-- Where a claim stands. -/
def CG (N : Int) (u h : Nat) (X ids : List Int) (c sn n sw0 : Int) (xs : List Int) (sw : Int) (t : Tr) : Prop :=
  t.n = n ∧ -1 ≤ t.last ∧ t.last ≤ c + n + 1 ∧
  ((t.stg = 1 ∧ xs = X ∧ sw = sw0) ∨
   (t.stg = 2 ∧ xs = X ∧ sw = sw0 ∧ t.had = c ∧ t.last = c + n) ∨
   (t.stg = 3 ∧ xs = X ∧ sw = sw0 ∧ t.had = c ∧ t.last = c + n ∧ t.ids = ids ∧ t.seen < ids.length ∧ t.least = leastP c ((valsOf X ids).take t.seen) ∧ ¬ enoughP N c sn n) ∨
   (t.stg = 4 ∧ xs = X ∧ sw = sw0 ∧ t.had = c ∧ t.last = c + n ∧ t.least = leastP c (valsOf X ids) ∧ c + n - N ≤ leastP c (valsOf X ids) ∧ ¬ enoughP N c sn n) ∨
   (t.stg = 5 ∧ xs = X.set h (snP N c sn n (valsOf X ids)) ∧ sw = sw0 ∧ t.had = c ∧ t.last = c + n ∧ okP N c sn n (valsOf X ids)) ∨
   (t.stg = 6 ∧ xs = (X.set h (snP N c sn n (valsOf X ids))).set u (c + n) ∧ sw = c + n ∧ t.last = c + n ∧ okP N c sn n (valsOf X ids)) ∨
   (t.stg = 7 ∧ xs = X ∧ sw = sw0 ∧ ¬ okP N c sn n (valsOf X ids)))

section
variable {N c sn n sw0 sw : Int} {u h : Nat} {X ids xs : List Int} {t : Tr}
theorem valsOf_len (X ids : List Int) : (valsOf X ids).length = ids.length := by simp [valsOf]
theorem valsOf_at {j : Nat} (X ids : List Int) (hj : j < ids.length) : (valsOf X ids).getD j 0 = X.getD (ids.getD j 0).toNat 0 := by
  simp [valsOf, List.getD, List.getElem?_eq_getElem hj]
theorem set_self {X : List Int} {h : Nat} {x : Int} (hx : X[h]? = some x) : X.set h x = X := by
  obtain ⟨hl, rfl⟩ := List.getElem?_eq_some_iff.1 hx
  simp
/-- Behind what is read. -/
theorem CG.judge {t : Tr} (hn : t.n = n) (hc : -1 ≤ c) (hn1 : 1 ≤ n) (h3 : t.had = c) (h4 : t.last = c + n) (h5 : t.ids = ids) (h6 : t.seen ≤ ids.length) (h7 : t.least = leastP c ((valsOf X ids).take t.seen)) (h8 : ¬ enoughP N c sn n) :
    CG N u h X ids c sn n sw0 X sw0 (judgeT N t) := by
  unfold judgeT
  by_cases e : t.seen < t.ids.length
  · rw [if_pos e]
    exact ⟨hn, by simp only; omega, by simp only; omega, .inr (.inr (.inl ⟨rfl, rfl, rfl, h3, h4, h5, by simp only; rw [← h5]; exact e, h7, h8⟩))⟩
  · rw [if_neg e]
    have hs : t.seen = (valsOf X ids).length := by rw [valsOf_len]; rw [h5] at e; omega
    rw [hs, List.take_length] at h7
    by_cases k : t.last - N ≤ t.least
    · rw [if_pos k]
      exact ⟨hn, by simp only; omega, by simp only; omega, .inr (.inr (.inr (.inl ⟨rfl, rfl, rfl, h3, h4, h7, by omega, h8⟩)))⟩
    · rw [if_neg k]
      exact ⟨hn, by simp only; omega, by simp only; omega, .inr (.inr (.inr (.inr (.inr (.inr ⟨rfl, rfl, rfl, fun e => e.elim h8 (fun e => by omega)⟩)))))⟩

theorem CG.step (k : CG N u h X ids c sn n sw0 xs sw t) (hX : XOk u h X ids c sn) (hc : -1 ≤ c) (hn1 : 1 ≤ n) :
    CG N u h X ids c sn n sw0 (stepG u h N ids xs sw t).1 (stepG u h N ids xs sw t).2.1 (stepG u h N ids xs sw t).2.2 := by
  obtain ⟨hn, hl0, hl1, k | k | k | k | k | k | k⟩ := k
  · obtain ⟨e, rfl, rfl⟩ := k
    unfold stepG
    rw [if_pos e]
    simp only [getD_of hX.cu, hn]
    exact ⟨rfl, by simp only; omega, by simp only; omega, .inr (.inl ⟨rfl, rfl, rfl, rfl, rfl⟩)⟩
  · obtain ⟨e, rfl, rfl, h3, h4⟩ := k
    unfold stepG
    rw [if_neg (by omega), if_pos e]
    simp only [getD_of hX.ch]
    by_cases k : sn ≤ t.had ∧ t.last - N ≤ sn
    · rw [if_pos k]
      have he : enoughP N c sn n := ⟨by omega, by omega⟩
      have hsn : snP N c sn n (valsOf xs ids) = sn := by unfold snP; rw [if_pos he]
      refine ⟨hn, by simp only; omega, by simp only; omega, .inr (.inr (.inr (.inr (.inl ⟨rfl, by rw [hsn, set_self hX.ch], rfl, h3, h4, .inl he⟩))))⟩
    · rw [if_neg k]
      refine CG.judge hn hc hn1 h3 h4 rfl (by simp) (by simp only [List.take_zero]; exact h3) (fun e => k ⟨by have := e.2; omega, by have := e.1; omega⟩)
  · obtain ⟨e, rfl, rfl, h3, h4, h5, h6, h7, h8⟩ := k
    unfold stepG
    rw [if_neg (by omega), if_neg (by omega), if_pos e]
    refine CG.judge hn hc hn1 h3 h4 h5 (by simp only; omega) ?_ h8
    simp only
    rw [leastP_take (by rw [valsOf_len]; exact h6), h7, h5, valsOf_at _ _ h6]
  · obtain ⟨e, rfl, rfl, h3, h4, h5, h6, h7⟩ := k
    unfold stepG
    rw [if_neg (by omega), if_neg (by omega), if_neg (by omega), if_pos e]
    have hsn : snP N c sn n (valsOf xs ids) = leastP c (valsOf xs ids) := by unfold snP; rw [if_neg h7]
    exact ⟨hn, by simp only; omega, by simp only; omega, .inr (.inr (.inr (.inr (.inl ⟨rfl, by rw [hsn, h5], rfl, h3, h4, .inr h6⟩))))⟩
  · obtain ⟨e, rfl, rfl, h3, h4, h5⟩ := k
    unfold stepG
    rw [if_neg (by omega), if_neg (by omega), if_neg (by omega), if_neg (by omega), if_pos e]
    have hu : (X.set h (snP N c sn n (valsOf X ids))).getD u 0 = c := getD_of (by rw [List.getElem?_set_ne (Ne.symm hX.ne)]; exact hX.cu)
    rw [hu, if_pos h3.symm]
    exact ⟨hn, by simp only; omega, by simp only; omega, .inr (.inr (.inr (.inr (.inr (.inl ⟨rfl, by rw [h4], h4, h4, h5⟩)))))⟩
  · have e := k.1
    unfold stepG
    rw [if_neg (by omega), if_neg (by omega), if_neg (by omega), if_neg (by omega), if_neg (by omega)]
    exact ⟨hn, hl0, hl1, .inr (.inr (.inr (.inr (.inr (.inl k)))))⟩
  · have e := k.1
    unfold stepG
    rw [if_neg (by omega), if_neg (by omega), if_neg (by omega), if_neg (by omega), if_neg (by omega)]
    exact ⟨hn, hl0, hl1, .inr (.inr (.inr (.inr (.inr (.inr k)))))⟩

theorem CG.far (k : CG N u h X ids c sn n sw0 xs sw t) (hX : XOk u h X ids c sn) (hs : ¬ (t.stg = 6 ∨ t.stg = 7)) :
    farT ids.length (stepG u h N ids xs sw t).2.2 < farT ids.length t := by
  obtain ⟨hn, hl0, hl1, k | k | k | k | k | k | k⟩ := k
  · have e := k.1
    unfold stepG
    rw [if_pos e]
    simp [farT, e]
  · have e := k.1
    unfold stepG
    rw [if_neg (by omega), if_pos e]
    have h0 : farT ids.length t = ids.length + 4 := by simp [farT, e]
    rw [h0]
    split
    · simp [farT]
    · have := farT_judge (N := N) (m := ids.length) (t := { t with ids := ids, seen := 0, least := t.had }) rfl (by simp)
      simp only at this ⊢
      omega
  · obtain ⟨e, h1, h2, h3, h4, h5, h6, h7, h8⟩ := k
    unfold stepG
    rw [if_neg (by omega), if_neg (by omega), if_pos e]
    have h0 : farT ids.length t = ids.length - t.seen + 3 := by simp [farT, e]
    rw [h0]
    have := farT_judge (N := N) (m := ids.length) (t := { t with seen := t.seen + 1, least := min t.least (xs.getD (t.ids.getD t.seen 0).toNat 0) }) (by simp only; rw [h5]) (by simp only; omega)
    simp only at this ⊢
    omega
  · have e := k.1
    unfold stepG
    rw [if_neg (by omega), if_neg (by omega), if_neg (by omega), if_pos e]
    simp [farT, e]
  · obtain ⟨e, rfl, rfl, h3, h4, h5⟩ := k
    unfold stepG
    rw [if_neg (by omega), if_neg (by omega), if_neg (by omega), if_neg (by omega), if_pos e]
    have hu : (X.set h (snP N c sn n (valsOf X ids))).getD u 0 = c := getD_of (by rw [List.getElem?_set_ne (Ne.symm hX.ne)]; exact hX.cu)
    rw [hu, if_pos h3.symm]
    simp [farT, e]
  · exact absurd (.inl k.1) hs
  · exact absurd (.inr k.1) hs

theorem CG.ok (k : CG N u h X ids c sn n sw0 xs sw t) (hX : XOk u h X ids c sn) (hc : -1 ≤ c) (hc2 : c ≤ 2305843009213693952) (hn1 : 1 ≤ n) (hn2 : n ≤ 1048576) (hs : ¬ (t.stg = 6 ∨ t.stg = 7)) : TOkG u h xs t := by
  obtain ⟨hn, hl0, hl1, k⟩ := k
  have hx : xs.getD u 0 = c ∧ xs.length = X.length := by
    have h1 : X.getD u 0 = c ∧ X.length = X.length := ⟨getD_of hX.cu, rfl⟩
    rcases k with k | k | k | k | k | k | k
    · rw [k.2.1]; exact h1
    · rw [k.2.1]; exact h1
    · rw [k.2.1]; exact h1
    · rw [k.2.1]; exact h1
    · rw [k.2.1]
      exact ⟨getD_of (by rw [List.getElem?_set_ne (Ne.symm hX.ne)]; exact hX.cu), by simp⟩
    · exact absurd (.inl k.1) hs
    · exact absurd (.inr k.1) hs
  have hst : 1 ≤ t.stg ∧ t.stg ≤ 7 := by
    rcases k with k | k | k | k | k | k | k <;> (have := k.1; omega)
  refine ⟨by omega, by omega, hst.1, hst.2, by rw [hx.1]; exact hc, by rw [hx.1]; omega, by omega, by omega, by rw [hx.2]; exact (List.getElem?_eq_some_iff.1 hX.cu).1, by rw [hx.2]; exact (List.getElem?_eq_some_iff.1 hX.ch).1, fun e => ?_⟩
  have h3 : t.ids = ids ∧ t.seen < ids.length := by
    rcases k with k | k | k | k | k | k | k <;> first | exact ⟨k.2.2.2.2.2.1, k.2.2.2.2.2.2.1⟩ | (have := k.1; omega)
  obtain ⟨h5, h6⟩ := h3
  rw [h5, hx.2]
  exact ⟨hX.ln, h6, hX.at' _ h6⟩
theorem CG.start (sw0 : Int) (hc : -1 ≤ c) (hn1 : 1 ≤ n) : CG N u h X ids c sn n sw0 X sw0 (tr0 n) :=
  ⟨rfl, by simp [tr0], by simp only [tr0]; omega, .inl ⟨rfl, rfl, rfl⟩⟩
theorem CG.end (k : CG N u h X ids c sn n sw0 xs sw t) (hf : farT ids.length t = 0) : (t.stg = 6 ∧ xs = (X.set h (snP N c sn n (valsOf X ids))).set u (c + n) ∧ sw = c + n ∧ t.last = c + n ∧ okP N c sn n (valsOf X ids)) ∨ (t.stg = 7 ∧ xs = X ∧ sw = sw0 ∧ ¬ okP N c sn n (valsOf X ids)) := by
  obtain ⟨_, _, _, k | k | k | k | k | k | k⟩ := k
  · simp [farT, k.1] at hf
  · simp [farT, k.1] at hf
  · have := k.1; simp [farT, this] at hf
  · have := k.1; simp [farT, this] at hf
  · have := k.1; simp [farT, this] at hf
  · exact .inl k
  · exact .inr k
theorem CG.under (k : CG N u h X ids c sn n sw0 xs sw t) (hf : farT ids.length t ≠ 0) : ¬ (t.stg = 6 ∨ t.stg = 7) ∧ 1 ≤ t.stg ∧ t.stg ≤ 5 := by
  obtain ⟨_, _, _, k | k | k | k | k | k | k⟩ := k
  · have := k.1; omega
  · have := k.1; omega
  · have := k.1; omega
  · have := k.1; omega
  · have := k.1; omega
  · have := k.1; simp [farT, this] at hf
  · have := k.1; simp [farT, this] at hf
end
end Go.Proofs.YtjadapjjilegnaaGreat
