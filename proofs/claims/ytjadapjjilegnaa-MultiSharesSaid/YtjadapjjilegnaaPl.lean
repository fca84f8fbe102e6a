/-
  A sequencer of package multi in plain numbers: its arena's cells, who holds it back, a claim step by step, a claim at once. No condition but those that each theorem names.
-/
import Derived.Test.YtjadapjjilegnaaStp
namespace Go.Proofs.Ytjadapjjilegnaa
open Go.RowKit

/-- An arena's cells: what is claimed, what was seen last, what is shown, what those who hold back have. -/
def mk (c sn : Int) (sh gv : List Int) : List Int := c :: sn :: (sh ++ gv)
theorem mk_len (c sn : Int) (sh gv : List Int) : (mk c sn sh gv).length = sh.length + gv.length + 2 := by simp [mk]
theorem mk_c (c sn : Int) (sh gv : List Int) : (mk c sn sh gv)[0]? = some c := rfl
theorem mk_sn (c sn : Int) (sh gv : List Int) : (mk c sn sh gv)[1]? = some sn := rfl
theorem mk_g (c sn : Int) (sh gv : List Int) {j : Nat} (h : j < gv.length) : (mk c sn sh gv)[sh.length + 2 + j]? = some (gv.getD j 0) := by
  rw [show sh.length + 2 + j = (sh.length + j) + 1 + 1 by omega]
  simp only [mk, List.getElem?_cons_succ]
  rw [List.getElem?_append_right (by omega), show sh.length + j - sh.length = j by omega, List.getElem?_eq_getElem h]
  simp [List.getElem?_eq_getElem h]
theorem mk_set_c (c sn x : Int) (sh gv : List Int) : (mk c sn sh gv).set 0 x = mk x sn sh gv := rfl
theorem mk_set_sn (c sn x : Int) (sh gv : List Int) : (mk c sn sh gv).set 1 x = mk c x sh gv := rfl
theorem mk_set_g (c sn x : Int) (sh gv : List Int) (j : Nat) : (mk c sn sh gv).set (sh.length + 2 + j) x = mk c sn sh (gv.set j x) := by
  rw [show sh.length + 2 + j = (sh.length + j) + 1 + 1 by omega]
  simp only [mk, List.set_cons_succ]
  rw [List.set_append_right _ _ (by omega), show sh.length + j - sh.length = j by omega]
theorem mk_set_sh (c sn x : Int) (sh gv : List Int) {j : Nat} (h : j < sh.length) : (mk c sn sh gv).set (2 + j) x = mk c sn (sh.set j x) gv := by
  rw [show 2 + j = j + 1 + 1 by omega]
  simp only [mk, List.set_cons_succ]
  rw [List.set_append_left _ _ h]
theorem mk_sh (c sn : Int) (sh gv : List Int) {j : Nat} (h : j < sh.length) : (mk c sn sh gv)[2 + j]? = some (sh.getD j 0) := by
  rw [show 2 + j = j + 1 + 1 by omega]
  simp only [mk, List.getElem?_cons_succ]
  rw [List.getElem?_append_left h, List.getElem?_eq_getElem h]
  simp [List.getElem?_eq_getElem h]
theorem mk_app (c sn x : Int) (sh gv : List Int) : mk c sn sh gv ++ [x] = mk c sn sh (gv ++ [x]) := by simp [mk]

/-- The numbers of the cells of those who hold back. -/
def idsN (n m : Nat) : List Int := (List.range m).map fun (j : Nat) => ((n + 2 + j : Nat) : Int)
theorem idsN_len (n m : Nat) : (idsN n m).length = m := by simp [idsN]
theorem idsN_at (n m : Nat) {j : Nat} (h : j < m) : (idsN n m).getD j 0 = ((n + 2 + j : Nat) : Int) := by
  simp [idsN, List.getElem?_range h]
theorem idsN_succ (n m : Nat) : idsN n (m + 1) = idsN n m ++ [((n + 2 + m : Nat) : Int)] := by
  simp [idsN, List.range_succ]
theorem idsN_not (n m : Nat) : ((n + 2 + m : Nat) : Int) ∉ idsN n m := by
  intro h
  unfold idsN at h
  rw [List.mem_map] at h
  obtain ⟨j, hj, e⟩ := h
  rw [List.mem_range] at hj
  omega
theorem vals_mk (c sn : Int) (sh gv : List Int) : valsOf (mk c sn sh gv) (idsN sh.length gv.length) = gv := by
  apply List.ext_getElem?
  intro j
  simp only [valsOf, idsN, List.map_map, List.getElem?_map]
  by_cases h : j < gv.length
  · rw [List.getElem?_range h, List.getElem?_eq_getElem h]
    simp only [Option.map_some, Function.comp, Int.toNat_natCast]
    have := mk_g c sn sh gv h
    simp only [List.getD, this, List.getElem?_eq_getElem h, Option.getD_some]
  · rw [List.getElem?_eq_none (by simpa using h), List.getElem?_eq_none (by omega)]
    rfl

/-- The least of those who hold back, and of what is claimed. -/
def leastP (c : Int) (gv : List Int) : Int := gv.foldl min c
theorem leastP_snoc (c x : Int) (gv : List Int) : leastP c (gv ++ [x]) = min (leastP c gv) x := by simp [leastP]
theorem leastP_take {gv : List Int} {j : Nat} (h : j < gv.length) (c : Int) : leastP c (gv.take (j + 1)) = min (leastP c (gv.take j)) (gv.getD j 0) := by
  rw [take_snoc h, leastP_snoc]
theorem leastP_le (c : Int) (gv : List Int) : leastP c gv ≤ c ∧ ∀ x ∈ gv, leastP c gv ≤ x := by
  unfold leastP
  induction gv generalizing c with
  | nil => simp
  | cons a l ih =>
    obtain ⟨h1, h2⟩ := ih (min c a)
    refine ⟨by simp only [List.foldl_cons]; omega, fun x hx => ?_⟩
    simp only [List.foldl_cons]
    rcases List.mem_cons.1 hx with rfl | hx
    · omega
    · exact h2 x hx
theorem leastP_in (c : Int) (gv : List Int) : leastP c gv = c ∨ leastP c gv ∈ gv := by
  unfold leastP
  induction gv generalizing c with
  | nil => exact .inl rfl
  | cons a l ih =>
    simp only [List.foldl_cons]
    rcases ih (min c a) with h | h
    · rcases Int.le_total c a with k | k
      · rw [Int.min_eq_left k] at h ⊢
        exact .inl h
      · rw [Int.min_eq_right k] at h ⊢
        exact .inr (by rw [h]; simp)
    · exact .inr (List.mem_cons_of_mem _ h)
theorem leastP_min {c : Int} {gv : List Int} : IsMin (gv ++ [c]) (leastP c gv) := by
  obtain ⟨h1, h2⟩ := leastP_le c gv
  refine ⟨?_, fun x hx => ?_⟩
  · rcases leastP_in c gv with h | h
    · rw [h]; simp
    · exact List.mem_append_left _ h
  · rcases List.mem_append.1 hx with hx | hx
    · exact h2 x hx
    · simp at hx; omega

/-- A step. -/
def stepT (N : Int) (ids xs : List Int) (sw : Int) (t : Tr) : List Int × Int × Tr :=
  if t.stg = 1 then (xs, sw, { t with had := xs.getD 0 0, last := xs.getD 0 0 + t.n, stg := 2 })
  else if t.stg = 2 then
    if xs.getD 1 0 ≤ t.had ∧ t.last - N ≤ xs.getD 1 0 then (xs, sw, { t with stg := 5 }) else (xs, sw, judgeT N { t with ids := ids, seen := 0, least := t.had })
  else if t.stg = 3 then (xs, sw, judgeT N { t with seen := t.seen + 1, least := min t.least (xs.getD (t.ids.getD t.seen 0).toNat 0) })
  else if t.stg = 4 then (xs.set 1 t.least, sw, { t with stg := 5 })
  else if t.stg = 5 then
    if xs.getD 0 0 = t.had then (xs.set 0 t.last, t.last, { t with stg := 6 }) else (xs, sw, tr0 t.n)
  else (xs, sw, t)

/-- What a step asks for. -/
structure TOk (xs : List Int) (t : Tr) : Prop where
  n1 : 1 ≤ t.n
  n2 : t.n ≤ 1048576
  s1 : 1 ≤ t.stg
  s7 : t.stg ≤ 7
  c1 : -1 ≤ xs.getD 0 0
  c2 : xs.getD 0 0 ≤ 4611686018427387904 - t.n
  l1 : -4611686018427387905 ≤ t.last
  l2 : t.last ≤ 4611686018427387904
  len : 2 ≤ xs.length
  sc : t.stg = 3 → t.ids.length ≤ 32 ∧ t.seen < t.ids.length ∧ 0 ≤ t.ids.getD t.seen 0 ∧ t.ids.getD t.seen 0 < xs.length
theorem getD_some {xs : List Int} {i : Nat} (h : i < xs.length) : xs[i]? = some (xs.getD i 0) := by
  simp [List.getElem?_eq_getElem h]

/-- Step, whatever is next. -/
theorem tstep_any {ts : Array Value} {R : Rest} {W0 W : World} {s : Sh} {ids xs : List Int} {sw st : Int} {t : Tr} (h : TyF ts s.p t) (hm : Ms R W0 W s ids sw xs st) (hk : TOk xs t) (hcur : s.cur = 0) (hcch : s.cch = 1) (h0 : 0 ≤ st) (h1 : st < 4611686018427387904) :
    Calls Try.prog 107 #[.agg ts] W fun e w' => ∃ st', st ≤ st' ∧ st' ≤ st + 1 ∧ Did R W0 s ids (stepT (two s.k) ids xs sw t).1 (stepT (two s.k) ids xs sw t).2.1 st' (stepT (two s.k) ids xs sw t).2.2 e w' := by
  have hl := hk.len
  have x0 := getD_some (xs := xs) (i := 0) (by omega)
  have x1 := getD_some (xs := xs) (i := 1) (by omega)
  have go : ∀ {xs' : List Int} {sw' st' : Int} {t' : Tr}, stepT (two s.k) ids xs sw t = (xs', sw', t') → st ≤ st' → st' ≤ st + 1 →
      Calls Try.prog 107 #[.agg ts] W (Did R W0 s ids xs' sw' st' t') → Calls Try.prog 107 #[.agg ts] W fun e w' => ∃ st', st ≤ st' ∧ st' ≤ st + 1 ∧ Did R W0 s ids (stepT (two s.k) ids xs sw t).1 (stepT (two s.k) ids xs sw t).2.1 st' (stepT (two s.k) ids xs sw t).2.2 e w' := by
    intro xs' sw' st' t' he h1 h2 hc
    rw [he]
    exact hc.mono fun e w' hd => ⟨st', h1, h2, hd⟩
  have hs := hk.s1
  have hs7 := hk.s7
  by_cases e1 : t.stg = 1
  · refine go (st' := st + 1) (by unfold stepT; rw [if_pos e1]) (by omega) (by omega) (tstep_of h hm fun R W hm => tnext_1 h e1 hm fun R W hm => ?_)
    exact tbegin h hm (by rw [hcur]; exact x0) hk.n1 hk.n2 hk.c1 hk.c2 h0 h1
  by_cases e2 : t.stg = 2
  · by_cases hy : xs.getD 1 0 ≤ t.had
    · by_cases he : t.last - two s.k ≤ xs.getD 1 0
      · refine go (st' := st + 1) (by unfold stepT; rw [if_neg e1, if_pos e2, if_pos ⟨hy, he⟩]) (by omega) (by omega) (tstep_of h hm fun R W hm => tnext_2 h e2 hm fun R W hm => ?_)
        exact trecall_yes h hm (by rw [hcch]; exact x1) hk.l1 hk.l2 h0 h1 hy he
      · refine go (st' := st + 1) (by unfold stepT; rw [if_neg e1, if_pos e2, if_neg (fun e => he e.2)]) (by omega) (by omega) (tstep_of h hm fun R W hm => tnext_2 h e2 hm fun R W hm => ?_)
        exact trecall_few h hm (by rw [hcch]; exact x1) hk.l1 hk.l2 h0 h1 hy (by omega)
    · refine go (st' := st + 1) (by unfold stepT; rw [if_neg e1, if_pos e2, if_neg (fun e => hy e.1)]) (by omega) (by omega) (tstep_of h hm fun R W hm => tnext_2 h e2 hm fun R W hm => ?_)
      exact trecall_far h hm (by rw [hcch]; exact x1) hk.l1 hk.l2 h0 h1 (by omega)
  by_cases e3 : t.stg = 3
  · obtain ⟨q1, q2, q3, q4⟩ := hk.sc e3
    refine go (st' := st + 1) (by unfold stepT; rw [if_neg e1, if_neg e2, if_pos e3]) (by omega) (by omega) (tstep_of h hm fun R W hm => tnext_3 h e3 hm fun R W hm => ?_)
    exact tlook (z := (t.ids.getD t.seen 0).toNat) h hm q1 q2 (by omega) (getD_some (by omega)) hk.l1 hk.l2 h0 h1
  by_cases e4 : t.stg = 4
  · refine go (st' := st + 1) (by unfold stepT; rw [if_neg e1, if_neg e2, if_neg e3, if_pos e4]) (by omega) (by omega) (tstep_of h hm fun R W hm => tnext_4 h e4 hm fun R W hm => ?_)
    have := tremember h hm (by rw [hcch]; omega) h0 h1
    rw [hcch] at this
    exact this
  by_cases e5 : t.stg = 5
  · by_cases hx : xs.getD 0 0 = t.had
    · refine go (st' := st + 1) (by unfold stepT; rw [if_neg e1, if_neg e2, if_neg e3, if_neg e4, if_pos e5, if_pos hx]) (by omega) (by omega) (tstep_of h hm fun R W hm => tnext_5 h e5 hm fun R W hm => ?_)
      have := tswap_yes h hm (by rw [hcur, x0, hx]) h0 h1
      rw [hcur] at this
      exact this
    · refine go (st' := st + 1) (by unfold stepT; rw [if_neg e1, if_neg e2, if_neg e3, if_neg e4, if_pos e5, if_neg hx]) (by omega) (by omega) (tstep_of h hm fun R W hm => tnext_5 h e5 hm fun R W hm => ?_)
      exact tswap_no h hm (by rw [hcur]; exact x0) (by simpa using hx) h0 h1
  · refine go (st' := st) (by unfold stepT; rw [if_neg e1, if_neg e2, if_neg e3, if_neg e4, if_neg e5]) (by omega) (by omega) (tstep_of h hm fun R W hm => tnext_done h (by omega) hm)
end Go.Proofs.Ytjadapjjilegnaa
