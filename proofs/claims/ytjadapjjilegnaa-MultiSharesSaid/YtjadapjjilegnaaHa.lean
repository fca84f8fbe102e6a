/-
  MultiShares in plain numbers: what holds of each claim that was begun, of those who hold back, and of all claims together; what a step, a raise, one more who holds back, and one more claim do to it. No condition but those that each theorem names.
  MultiShares: what is kept beside the sequencer: the document's box, three rows (claims, sizes, whether fewer remained); what is read of them, what is put and appended. No condition but those that each theorem names.
  MultiShares, kind 0: one more claim, in a region that draws its order: three literals, three appends. No condition but those that each theorem names.
  MultiShares, kind 1: a step of a claim of the row, beside all else. No condition but those that each theorem names.
  MultiShares, the end: sums of what was claimed. No condition but those that each theorem names.
-/
import Derived.Test.YtjadapjjilegnaaMt0
namespace Go.Proofs.Ytjadapjjilegnaa
open Go.RowKit
set_option linter.unusedVariables false
set_option linter.unusedSimpArgs false

/-- What holds of a claim that was begun: its numbers, its size, whether fewer remained at one of its steps. -/
structure HOk (N c : Int) (K : Nat) (gv : List Int) (t : Tr) (n : Int) (b : Bool) : Prop where
  tn : t.n = n
  n1 : 1 ≤ n
  n2 : n ≤ N
  s1 : 1 ≤ t.stg
  s7 : t.stg ≤ 7
  l1 : -1 ≤ t.last
  l2 : t.last ≤ c + n
  hd : 2 ≤ t.stg → t.stg ≤ 5 → -1 ≤ t.had ∧ t.had ≤ c ∧ t.last = t.had + n
  a3 : t.stg = 3 → ∃ m : Nat, m ≤ gv.length ∧ t.ids = idsN K m ∧ t.seen < m ∧ t.least ≤ t.had ∧ (∀ j, j < t.seen → t.least ≤ gv.getD j 0) ∧ (∀ j, m ≤ j → j < gv.length → t.had ≤ gv.getD j 0) ∧ (t.least < t.last - N → b = true)
  a4 : t.stg = 4 → t.least ≤ t.had ∧ (∀ j, j < gv.length → t.least ≤ gv.getD j 0) ∧ t.last - N ≤ t.least
  a5 : t.stg = 5 → ∀ j, j < gv.length → t.last - N ≤ gv.getD j 0
  a6 : t.stg = 6 → t.last ≤ c ∧ -1 ≤ t.last - n
  a7 : t.stg = 7 → b = true
theorem HOk.start {N c n : Int} {K : Nat} {gv : List Int} {b : Bool} (h1 : 1 ≤ n) (h2 : n ≤ N) (hc : -1 ≤ c) : HOk N c K gv (tr0 n) n b :=
  ⟨rfl, h1, h2, by simp [tr0], by simp [tr0], by simp [tr0], by simp [tr0]; omega, fun h => by simp [tr0] at h, fun h => by simp [tr0] at h, fun h => by simp [tr0] at h, fun h => by simp [tr0] at h, fun h => by simp [tr0] at h, fun h => by simp [tr0] at h⟩
/-- What is claimed only rises. -/
theorem HOk.up {N c c' n : Int} {K : Nat} {gv : List Int} {t : Tr} {b : Bool} (h : HOk N c K gv t n b) (hc : c ≤ c') : HOk N c' K gv t n b :=
  ⟨h.tn, h.n1, h.n2, h.s1, h.s7, h.l1, by have := h.l2; omega, fun a e => by have := h.hd a e; omega, h.a3, h.a4, h.a5, fun e => by have := h.a6 e; omega, h.a7⟩
/-- Those who hold back only go on. -/
theorem HOk.held {N c n : Int} {K : Nat} {gv gv' : List Int} {t : Tr} {b : Bool} (h : HOk N c K gv t n b) (hl : gv'.length = gv.length) (hg : ∀ j, j < gv.length → gv.getD j 0 ≤ gv'.getD j 0) : HOk N c K gv' t n b := by
  refine ⟨h.tn, h.n1, h.n2, h.s1, h.s7, h.l1, h.l2, h.hd, fun e => ?_, fun e => ?_, fun e j hj => ?_, h.a6, h.a7⟩
  · obtain ⟨m, q1, q2, q3, q4, q5, q6, q7⟩ := h.a3 e
    refine ⟨m, by omega, q2, q3, q4, fun j hj => ?_, fun j h1 h2 => ?_, q7⟩
    · have := q5 j hj; have := hg j (by omega); omega
    · have := q6 j h1 (by omega); have := hg j (by omega); omega
  · obtain ⟨q1, q2, q3⟩ := h.a4 e
    refine ⟨q1, fun j hj => ?_, q3⟩
    have := q2 j (by omega); have := hg j (by omega); omega
  · have := h.a5 e j (by omega); have := hg j (by omega); omega
theorem getD_app_lt {gv : List Int} {x : Int} {j : Nat} (h : j < gv.length) : (gv ++ [x]).getD j 0 = gv.getD j 0 := by
  simp only [List.getD_eq_getElem?_getD]
  rw [List.getElem?_append_left h]
theorem getD_app_at {gv : List Int} {x : Int} : (gv ++ [x]).getD gv.length 0 = x := by
  simp
/-- One more holds back, at what is claimed. -/
theorem HOk.more {N c n : Int} {K : Nat} {gv : List Int} {t : Tr} {b : Bool} (h : HOk N c K gv t n b) : HOk N c K (gv ++ [c]) t n b := by
  have hlen : (gv ++ [c]).length = gv.length + 1 := by simp
  refine ⟨h.tn, h.n1, h.n2, h.s1, h.s7, h.l1, h.l2, h.hd, fun e => ?_, fun e => ?_, fun e j hj => ?_, h.a6, h.a7⟩
  · obtain ⟨m, q1, q2, q3, q4, q5, q6, q7⟩ := h.a3 e
    refine ⟨m, by omega, q2, q3, q4, fun j hj => ?_, fun j h1 h2 => ?_, q7⟩
    · rw [getD_app_lt (by omega)]; exact q5 j hj
    · by_cases hj : j < gv.length
      · rw [getD_app_lt hj]; exact q6 j h1 hj
      · obtain rfl : j = gv.length := by omega
        rw [getD_app_at]
        have := h.hd (by omega) (by omega)
        omega
  · obtain ⟨q1, q2, q3⟩ := h.a4 e
    refine ⟨q1, fun j hj => ?_, q3⟩
    by_cases hj2 : j < gv.length
    · rw [getD_app_lt hj2]; exact q2 j hj2
    · obtain rfl : j = gv.length := by omega
      rw [getD_app_at]
      have := h.hd (by omega) (by omega)
      omega
  · by_cases hj2 : j < gv.length
    · rw [getD_app_lt hj2]; exact h.a5 e j hj2
    · obtain rfl : j = gv.length := by omega
      rw [getD_app_at]
      have := h.hd (by omega) (by omega)
      have := h.n2
      omega

/-- What remained, seen ahead of a step. -/
def shortB (N c : Int) (gv : List Int) (t : Tr) (n : Int) (b : Bool) : Bool := b || (!(t.stg == 0 || t.stg == 6 || t.stg == 7) && decide (remP N c gv < n))
theorem leastP_getD {c : Int} {gv : List Int} {j : Nat} (h : j < gv.length) : leastP c gv ≤ gv.getD j 0 := by
  refine (leastP_le c gv).2 _ ?_
  rw [List.getD_eq_getElem?_getD, List.getElem?_eq_getElem h]
  exact List.getElem_mem h
theorem short_low {N c n x : Int} {gv : List Int} {t : Tr} {b : Bool} (hn : 1 ≤ n) (h1 : 1 ≤ t.stg) (h5 : t.stg ≤ 5) (hx : leastP c gv ≤ x) (hlow : x < c + n - N) : shortB N c gv t n b = true := by
  unfold shortB remP
  have e1 : decide (max 0 (N - (c - leastP c gv)) < n) = true := decide_eq_true (by omega)
  have e2 : (t.stg == 0 || t.stg == 6 || t.stg == 7) = false := by simp; omega
  rw [e1, e2]
  simp
theorem short_of {N c n : Int} {gv : List Int} {t : Tr} {b : Bool} (h : b = true) : shortB N c gv t n b = true := by
  subst h
  simp [shortB]

/-- What holds of what is claimed, of what was seen last, and of those who hold back. -/
structure GOk2 (N c sn : Int) (gv : List Int) : Prop where
  c0 : -1 ≤ c
  g1 : ∀ j, j < gv.length → -1 ≤ gv.getD j 0
  g2 : ∀ j, j < gv.length → gv.getD j 0 ≤ c
  g3 : ∀ j, j < gv.length → c - gv.getD j 0 ≤ N
  n1 : sn ≤ c
  n2 : ∀ j, j < gv.length → sn ≤ gv.getD j 0

theorem idsN_get2 (K m : Nat) {j : Nat} (h : j < m) : (idsN K m).getD j 0 = ((K + 2 + j : Nat) : Int) := idsN_at K m h
theorem mk_getD_g (c sn : Int) (sh gv : List Int) {j : Nat} (h : j < gv.length) : (mk c sn sh gv).getD (sh.length + 2 + j) 0 = gv.getD j 0 := by
  have := mk_g c sn sh gv h
  rw [List.getD_eq_getElem?_getD, this]
  rfl
/-- A step of a claim: what is claimed, what was seen last, the claim. -/
structure StepOk (N c sn : Int) (sh gv : List Int) (t : Tr) (n : Int) (b : Bool) (c2 sn2 : Int) (t2 : Tr) : Prop where
  g : GOk2 N c2 sn2 gv
  up : c ≤ c2
  up2 : c2 ≤ c + N
  h : HOk N c2 sh.length gv t2 n (shortB N c gv t n b)
  got : (t2.stg = 6 ∧ t.stg ≠ 6 ∧ c2 = c + n ∧ t2.last = c2) ∨ (c2 = c ∧ (t2.stg = 6 ↔ t.stg = 6) ∧ (t.stg = 6 → t2 = t))
theorem judge_ok {N c sn n : Int} {sh gv : List Int} {t t' : Tr} {b : Bool} (hg : GOk2 N c sn gv) (hN : 1 ≤ N) (h1 : t.stg ≠ 6) (hs : t'.n = n) (n1 : 1 ≤ n) (n2 : n ≤ N) (l1 : -1 ≤ t'.last) (hd : -1 ≤ t'.had ∧ t'.had ≤ c ∧ t'.last = t'.had + n)
    (a3 : ∃ m : Nat, m ≤ gv.length ∧ t'.ids = idsN sh.length m ∧ t'.seen ≤ m ∧ t'.least ≤ t'.had ∧ (∀ j, j < t'.seen → t'.least ≤ gv.getD j 0) ∧ (∀ j, m ≤ j → j < gv.length → t'.had ≤ gv.getD j 0) ∧ (t'.least < t'.last - N → shortB N c gv t n b = true)) :
    StepOk N c sn sh gv t n b c sn (judgeT N t') := by
  obtain ⟨m, q1, q2, q3, q4, q5, q6, q7⟩ := a3
  have hlen : t'.ids.length = m := by rw [q2, idsN_len]
  unfold judgeT
  split
  · rename_i hlt
    exact ⟨hg, Int.le_refl _, by omega, ⟨hs, n1, n2, by simp, by simp, l1, by simp; omega, fun _ _ => hd, fun _ => ⟨m, q1, q2, by simp; omega, q4, q5, q6, q7⟩, fun e => by simp at e, fun e => by simp at e, fun e => by simp at e, fun e => by simp at e⟩, .inr ⟨rfl, by simp [h1], fun e => absurd e h1⟩⟩
  · split
    · rename_i hge hl
      refine ⟨hg, Int.le_refl _, by omega, ⟨hs, n1, n2, by simp, by simp, l1, by simp; omega, fun _ _ => hd, fun e => by simp at e, fun _ => ⟨q4, fun j hj => ?_, hl⟩, fun e => by simp at e, fun e => by simp at e, fun e => by simp at e⟩, .inr ⟨rfl, by simp [h1], fun e => absurd e h1⟩⟩
      by_cases hjs : j < t'.seen
      · exact q5 j hjs
      · have := q6 j (by omega) hj
        show t'.least ≤ _
        omega
    · rename_i hge hl
      exact ⟨hg, Int.le_refl _, by omega, ⟨hs, n1, n2, by simp, by simp, l1, by simp; omega, fun _ e => by simp at e, fun e => by simp at e, fun e => by simp at e, fun e => by simp at e, fun e => by simp at e, fun _ => q7 (by omega)⟩, .inr ⟨rfl, by simp [h1], fun e => absurd e h1⟩⟩
theorem share_step {N c sn sw n : Int} {sh gv : List Int} {t : Tr} {b : Bool} (hg : GOk2 N c sn gv) (hN : 1 ≤ N) (h : HOk N c sh.length gv t n b) (hsw : sw ≤ c) :
    ∃ c2 sn2 sw2 t2, stepT N (idsN sh.length gv.length) (mk c sn sh gv) sw t = (mk c2 sn2 sh gv, sw2, t2) ∧ sw2 ≤ c2 ∧ StepOk N c sn sh gv t n b c2 sn2 t2 := by
  have hc0 : (mk c sn sh gv).getD 0 0 = c := rfl
  have hc1 : (mk c sn sh gv).getD 1 0 = sn := rfl
  have s1 := h.s1
  have s7 := h.s7
  have n1 := h.n1
  have n2 := h.n2
  have tn := h.tn
  have l1 := h.l1
  have l2 := h.l2
  unfold stepT
  by_cases e1 : t.stg = 1
  · rw [if_pos e1, hc0]
    refine ⟨c, sn, sw, _, rfl, hsw, hg, Int.le_refl _, by omega, ⟨tn, n1, n2, by simp, by simp, by have := hg.c0; simp only; omega, by simp only; omega, fun _ _ => ⟨hg.c0, Int.le_refl _, by simp only; omega⟩, fun e => by simp at e, fun e => by simp at e, fun e => by simp at e, fun e => by simp at e, fun e => by simp at e⟩, .inr ⟨rfl, by simp [e1], fun e => by omega⟩⟩
  by_cases e2 : t.stg = 2
  · obtain ⟨p1, p2, p3⟩ := h.hd (by omega) (by omega)
    rw [if_neg e1, if_pos e2, hc1]
    by_cases hy : sn ≤ t.had ∧ t.last - N ≤ sn
    · rw [if_pos hy]
      refine ⟨c, sn, sw, _, rfl, hsw, hg, Int.le_refl _, by omega, ⟨tn, n1, n2, by simp, by simp, l1, l2, fun _ _ => ⟨p1, p2, p3⟩, fun e => by simp at e, fun e => by simp at e, fun _ j hj => ?_, fun e => by simp at e, fun e => by simp at e⟩, .inr ⟨rfl, by simp [e2], fun e => by omega⟩⟩
      have := hg.n2 j hj
      show t.last - N ≤ _
      omega
    · rw [if_neg hy]
      refine ⟨c, sn, sw, _, rfl, hsw, judge_ok hg hN (by omega) tn n1 n2 l1 ⟨p1, p2, p3⟩ ⟨gv.length, Nat.le_refl _, rfl, Nat.zero_le _, Int.le_refl _, fun j hj => absurd hj (Nat.not_lt_zero _), fun j h1 h2 => by omega, fun e => ?_⟩⟩
      simp only at e
      omega
  by_cases e3 : t.stg = 3
  · obtain ⟨p1, p2, p3⟩ := h.hd (by omega) (by omega)
    obtain ⟨m, q1, q2, q3, q4, q5, q6, q7⟩ := h.a3 e3
    rw [if_neg e1, if_neg e2, if_pos e3]
    have hx : (mk c sn sh gv).getD (t.ids.getD t.seen 0).toNat 0 = gv.getD t.seen 0 := by
      rw [q2, idsN_at _ _ q3, Int.toNat_natCast, mk_getD_g _ _ _ _ (by omega)]
    rw [hx]
    refine ⟨c, sn, sw, _, rfl, hsw, judge_ok hg hN (by omega) tn n1 n2 l1 ⟨p1, p2, p3⟩ ⟨m, q1, q2, by simp only; omega, by simp only; omega, fun j hj => ?_, q6, fun e => ?_⟩⟩
    · simp only at hj ⊢
      by_cases hjs : j < t.seen
      · have := q5 j hjs; omega
      · obtain rfl : j = t.seen := by omega
        omega
    · simp only at e
      by_cases hb : t.least < t.last - N
      · exact short_of (q7 hb)
      · exact short_low n1 s1 (by omega) (leastP_getD (show t.seen < gv.length by omega)) (by omega)
  by_cases e4 : t.stg = 4
  · obtain ⟨p1, p2, p3⟩ := h.hd (by omega) (by omega)
    obtain ⟨q1, q2, q3⟩ := h.a4 e4
    rw [if_neg e1, if_neg e2, if_neg e3, if_pos e4]
    refine ⟨c, t.least, sw, _, rfl, hsw, ⟨hg.c0, hg.g1, hg.g2, hg.g3, by omega, q2⟩, Int.le_refl _, by omega, ⟨tn, n1, n2, by simp, by simp, l1, l2, fun _ _ => ⟨p1, p2, p3⟩, fun e => by simp at e, fun e => by simp at e, fun _ j hj => ?_, fun e => by simp at e, fun e => by simp at e⟩, .inr ⟨rfl, by simp [e4], fun e => by omega⟩⟩
    have := q2 j hj
    show t.last - N ≤ _
    omega
  by_cases e5 : t.stg = 5
  · obtain ⟨p1, p2, p3⟩ := h.hd (by omega) (by omega)
    rw [if_neg e1, if_neg e2, if_neg e3, if_neg e4, if_pos e5, hc0]
    by_cases hx : c = t.had
    · rw [if_pos hx]
      refine ⟨t.last, sn, t.last, _, rfl, Int.le_refl _, ⟨by omega, hg.g1, fun j hj => by have := hg.g2 j hj; omega, fun j hj => by have := h.a5 e5 j hj; omega, by have := hg.n1; omega, hg.n2⟩, by omega, by omega, ⟨tn, n1, n2, by simp, by simp, l1, by simp only; omega, fun _ e => by simp at e, fun e => by simp at e, fun e => by simp at e, fun e => by simp at e, fun _ => ⟨Int.le_refl _, by simp only; omega⟩, fun e => by simp at e⟩, .inl ⟨rfl, by omega, by omega, rfl⟩⟩
    · rw [if_neg hx]
      have hs := HOk.start (N := N) (c := c) (K := sh.length) (gv := gv) (b := shortB N c gv t n b) n1 n2 hg.c0
      rw [tn]
      exact ⟨c, sn, sw, _, rfl, hsw, hg, Int.le_refl _, by omega, hs, .inr ⟨rfl, by simp [tr0, e5], fun e => by omega⟩⟩
  · rw [if_neg e1, if_neg e2, if_neg e3, if_neg e4, if_neg e5]
    refine ⟨c, sn, sw, t, rfl, hsw, hg, Int.le_refl _, by omega, ⟨tn, n1, n2, s1, s7, l1, l2, h.hd, fun e => absurd e e3, fun e => absurd e e4, fun e => absurd e e5, h.a6, fun e => short_of (h.a7 e)⟩, .inr ⟨rfl, Iff.rfl, fun _ => rfl⟩⟩

/-! All claims together -/
structure Cm where
  ts : Array Value
  t : Tr
  n : Int
  b : Bool
def gotN (x : Cm) : Int := if x.t.stg = 6 then x.n else 0
def sumG (L : List Cm) : Int := (L.map gotN).sum
theorem sumG_snoc (L : List Cm) (x : Cm) : sumG (L ++ [x]) = sumG L + gotN x := by simp [sumG]
theorem sumG_set : ∀ (L : List Cm) (j : Nat) (x y : Cm), L[j]? = some x → sumG (L.set j y) = sumG L - gotN x + gotN y
  | [], _, _, _, h => by simp at h
  | z :: L, 0, x, y, h => by
    simp only [List.getElem?_cons_zero, Option.some.injEq] at h
    subst h
    simp only [sumG, List.set_cons_zero, List.map_cons, List.sum_cons]
    omega
  | z :: L, j + 1, x, y, h => by
    simp only [List.getElem?_cons_succ] at h
    have := sumG_set L j x y h
    simp only [sumG, List.set_cons_succ, List.map_cons, List.sum_cons] at this ⊢
    omega
theorem sumG_take {L : List Cm} {i : Nat} {x : Cm} (h : L[i]? = some x) : sumG (L.take (i + 1)) = sumG (L.take i) + gotN x := by
  rw [List.take_add_one, h]
  simp only [Option.toList_some]
  exact sumG_snoc _ _
/-- No two have an index. -/
def ApartC (L : List Cm) : Prop := ∀ (i k : Nat) (x y : Cm), i ≠ k → L[i]? = some x → L[k]? = some y → x.t.stg = 6 → y.t.stg = 6 → x.t.last - x.n < y.t.last → ¬ y.t.last - y.n < x.t.last
/-- The plain numbers. -/
structure ShI (p : Nat) (N c sn : Int) (K : Nat) (gv : List Int) (L : List Cm) (st T : Int) (m : Nat) : Prop where
  g : GOk2 N c sn gv
  gl : gv.length ≤ 20
  c2 : c ≤ 64 * m
  st0 : 0 ≤ st
  st1 : st ≤ T
  ll : L.length ≤ m
  ty : ∀ x ∈ L, TyF x.ts p x.t
  ok : ∀ x ∈ L, HOk N c K gv x.t x.n x.b
  sum : sumG L = c + 1
  ap : ApartC L
section
variable {p K m m' : Nat} {N c sn st st' T T' : Int} {gv gv' : List Int} {L : List Cm}
theorem ShI.mono (h : ShI p N c sn K gv L st T m) (h1 : T ≤ T') (h2 : m ≤ m') : ShI p N c sn K gv L st T' m' :=
  ⟨h.g, h.gl, by have := h.c2; omega, h.st0, by have := h.st1; omega, by have := h.ll; omega, h.ty, h.ok, h.sum, h.ap⟩
theorem ShI.at (h : ShI p N c sn K gv L st T m) (a1 : 0 ≤ st') (a2 : st' ≤ T') (h2 : m ≤ m') : ShI p N c sn K gv L st' T' m' :=
  ⟨h.g, h.gl, by have := h.c2; omega, a1, a2, by have := h.ll; omega, h.ty, h.ok, h.sum, h.ap⟩
theorem heldP_up (hp : HeldP c gv gv') (hg : ∀ j, j < gv.length → gv.getD j 0 ≤ c) : ∀ j, j < gv.length → gv.getD j 0 ≤ gv'.getD j 0 ∧ gv'.getD j 0 ≤ c := by
  intro j hj
  rcases hp with rfl | ⟨i, x, hi, rfl, hx1, hx2⟩
  · exact ⟨Int.le_refl _, hg j hj⟩
  · by_cases e : j = i
    · subst e
      have h1 := hg j hj
      have : (gv.set j x).getD j 0 = x := by
        rw [List.getD_eq_getElem?_getD, List.getElem?_set_self hj]
        rfl
      rw [this]
      omega
    · have : (gv.set i x).getD j 0 = gv.getD j 0 := by
        rw [List.getD_eq_getElem?_getD, List.getElem?_set_ne (Ne.symm e), ← List.getD_eq_getElem?_getD]
      rw [this]
      exact ⟨Int.le_refl _, hg j hj⟩
theorem ShI.held (h : ShI p N c sn K gv L st T m) (hp : HeldP c gv gv') (a1 : 0 ≤ st') (a2 : st' ≤ T') : ShI p N c sn K gv' L st' T' (m + 1) := by
  have hl := hp.len
  have hu := heldP_up hp h.g.g2
  refine ⟨⟨h.g.c0, fun j hj => ?_, fun j hj => ?_, fun j hj => ?_, h.g.n1, fun j hj => ?_⟩, by have := h.gl; omega, by have := h.c2; omega, a1, a2, by have := h.ll; omega, h.ty, fun x hx => (h.ok x hx).held hl fun j hj => (hu j hj).1, h.sum, h.ap⟩
  all_goals
    have e1 := hu j (by omega)
    have e2 := h.g.g1 j (by omega)
    have e3 := h.g.g3 j (by omega)
    have e4 := h.g.n2 j (by omega)
    omega
theorem ShI.more (h : ShI p N c sn K gv L st T m) (hN : 1 ≤ N) (hg : gv.length < 20) (a1 : 0 ≤ st') (a2 : st' ≤ T') : ShI p N c sn K (gv ++ [c]) L st' T' (m + 1) := by
  have hlen : (gv ++ [c]).length = gv.length + 1 := by simp
  have key : ∀ j, j < (gv ++ [c]).length → -1 ≤ (gv ++ [c]).getD j 0 ∧ (gv ++ [c]).getD j 0 ≤ c ∧ c - (gv ++ [c]).getD j 0 ≤ N ∧ sn ≤ (gv ++ [c]).getD j 0 := fun j hj => by
    by_cases hj2 : j < gv.length
    · rw [getD_app_lt hj2]
      exact ⟨h.g.g1 j hj2, h.g.g2 j hj2, h.g.g3 j hj2, h.g.n2 j hj2⟩
    · obtain rfl : j = gv.length := by omega
      rw [getD_app_at]
      have := h.g.c0
      have := h.g.n1
      omega
  exact ⟨⟨h.g.c0, fun j hj => (key j hj).1, fun j hj => (key j hj).2.1, fun j hj => (key j hj).2.2.1, h.g.n1, fun j hj => (key j hj).2.2.2⟩, by omega, by have := h.c2; omega, a1, a2, by have := h.ll; omega, h.ty, fun x hx => (h.ok x hx).more, h.sum, h.ap⟩
theorem ShI.snoc (h : ShI p N c sn K gv L st T m) {ts : Array Value} {n : Int} (hf : TyF ts p (tr0 n)) (h1 : 1 ≤ n) (h2 : n ≤ N) (a1 : 0 ≤ st') (a2 : st' ≤ T') : ShI p N c sn K gv (L ++ [⟨ts, tr0 n, n, false⟩]) st' T' (m + 1) := by
  refine ⟨h.g, h.gl, by have := h.c2; omega, a1, a2, by have := h.ll; simp; omega, fun y hy => ?_, fun y hy => ?_, ?_, fun i k x y hik hx hy e1 e2 => ?_⟩
  · rcases List.mem_append.1 hy with hy | hy
    · exact h.ty y hy
    · simp at hy
      exact hy ▸ hf
  · rcases List.mem_append.1 hy with hy | hy
    · exact h.ok y hy
    · simp at hy
      exact hy ▸ HOk.start h1 h2 h.g.c0
  · rw [sumG_snoc, h.sum]
    simp [gotN, tr0]
  · have key : ∀ {i : Nat} {x : Cm}, (L ++ [⟨ts, tr0 n, n, false⟩])[i]? = some x → x.t.stg = 6 → L[i]? = some x := fun {i x} hx e => by
      by_cases hi : i < L.length
      · rwa [List.getElem?_append_left hi] at hx
      · rw [List.getElem?_append_right (by omega)] at hx
        have := List.mem_of_getElem? hx
        simp at this
        subst this
        simp [tr0] at e
    exact h.ap i k x y hik (key hx e1) (key hy e2) e1 e2
theorem ShI.step (h : ShI p N c sn K gv L st T m) {sh : List Int} (hK : sh.length = K) (hN : N ≤ 64) {j : Nat} {x : Cm} (hx : L[j]? = some x) {c2 sn2 : Int} {t2 : Tr} {ts2 : Array Value} (hs : StepOk N c sn sh gv x.t x.n x.b c2 sn2 t2) (hf : TyF ts2 p t2) (a1 : 0 ≤ st') (a2 : st' ≤ T') :
    ShI p N c2 sn2 K gv (L.set j ⟨ts2, t2, x.n, shortB N c gv x.t x.n x.b⟩) st' T' (m + 1) := by
  subst hK
  have hox := h.ok x (List.mem_of_getElem? hx)
  have hup := hs.up
  have hup2 := hs.up2
  have hg := hs.got
  have hjl : j < L.length := (List.getElem?_eq_some_iff.1 hx).1
  refine ⟨hs.g, h.gl, by have := h.c2; omega, a1, a2, by have := h.ll; simp; omega, fun y hy => ?_, fun y hy => ?_, ?_, ?_⟩
  · rcases List.mem_or_eq_of_mem_set hy with hy | rfl
    · exact h.ty y hy
    · exact hf
  · rcases List.mem_or_eq_of_mem_set hy with hy | rfl
    · exact (h.ok y hy).up hup
    · exact hs.h
  · rw [sumG_set L j x _ hx, h.sum]
    rcases hg with ⟨e1, e2, e3, e4⟩ | ⟨e1, e2, e3⟩
    · simp only [gotN, if_pos e1, if_neg e2]
      omega
    · by_cases e6 : x.t.stg = 6
      · simp only [gotN, if_pos e6, if_pos (e2.2 e6)]
        omega
      · simp only [gotN, if_neg e6, if_neg (fun e => e6 (e2.1 e))]
        omega
  · intro i k y z hik hy hz e1 e2 h1 h2
    have hin : ∀ {i : Nat} {y : Cm}, (L.set j ⟨ts2, t2, x.n, shortB N c gv x.t x.n x.b⟩)[i]? = some y → y.t.stg = 6 → (L[i]? = some y) ∨ (i = j ∧ c2 = c + x.n ∧ y.t.last = c2 ∧ y.n = x.n) ∨ (i = j ∧ y.t = x.t ∧ y.n = x.n ∧ x.t.stg = 6) := fun {i y} hy e => by
      by_cases hij : j = i
      · subst hij
        rw [List.getElem?_set_self hjl] at hy
        simp only [Option.some.injEq] at hy
        subst hy
        rcases hg with ⟨q1, q2, q3, q4⟩ | ⟨q1, q2, q3⟩
        · exact .inr (.inl ⟨rfl, q3, q4, rfl⟩)
        · have q6 := q2.1 e
          exact .inr (.inr ⟨rfl, q3 q6, rfl, q6⟩)
      · rw [List.getElem?_set_ne hij] at hy
        exact .inl hy
    have old : ∀ {i : Nat} {y : Cm}, L[i]? = some y → y.t.stg = 6 → y.t.last ≤ c := fun {i y} hy e => ((h.ok y (List.mem_of_getElem? hy)).a6 e).1
    have n1 := hox.n1
    rcases hin hy e1 with hy' | ⟨rfl, b1, b2, b3⟩ | ⟨rfl, b1, b2, b3⟩ <;> rcases hin hz e2 with hz' | ⟨rfl, d1, d2, d3⟩ | ⟨rfl, d1, d2, d3⟩
    · exact h.ap i k y z hik hy' hz' e1 e2 h1 h2
    · have := old hy' e1
      omega
    · exact h.ap i k y x hik hy' hx e1 (d1 ▸ e2) (by rw [← d1]; exact h1) (by rw [← d1, ← d2]; exact h2)
    · have := old hz' e2
      omega
    · exact hik rfl
    · exact hik rfl
    · exact h.ap i k x z hik hx hz' (b1 ▸ e1) e2 (by rw [← b1, ← b2]; exact h1) (by rw [← b1]; exact h2)
    · exact hik rfl
    · exact hik rfl
end
end Go.Proofs.Ytjadapjjilegnaa
namespace Go.Proofs.Ytjadapjjilegnaa
open Go.RowKit
set_option linter.unusedVariables false
set_option linter.unusedSimpArgs false

def tsM (L : List Cm) : List Value := (L.map fun x => x.ts.toList).flatten
def nsM (L : List Cm) : List Value := L.map fun x => .int .i64 x.n
def bsM (L : List Cm) : List Value := L.map fun x => .bool x.b
theorem tsM_snoc (L : List Cm) (x : Cm) : tsM (L ++ [x]) = tsM L ++ x.ts.toList := by simp [tsM]
theorem nsM_snoc (L : List Cm) (x : Cm) : nsM (L ++ [x]) = nsM L ++ [.int .i64 x.n] := by simp [nsM]
theorem bsM_snoc (L : List Cm) (x : Cm) : bsM (L ++ [x]) = bsM L ++ [.bool x.b] := by simp [bsM]
theorem nsM_set {L : List Cm} {j : Nat} {x y : Cm} (hx : L[j]? = some x) (hn : y.n = x.n) : nsM (L.set j y) = nsM L := by
  apply List.ext_getElem?
  intro i
  simp only [nsM, List.getElem?_map]
  by_cases e : j = i
  · subst e
    rw [List.getElem?_set_self (List.getElem?_eq_some_iff.1 hx).1, hx]
    simp [hn]
  · rw [List.getElem?_set_ne e]
theorem bsM_set (L : List Cm) (j : Nat) (y : Cm) : bsM (L.set j y) = (bsM L).set j (.bool y.b) := by simp [bsM, List.map_set]
/-- Three rows. -/
def RS3 (B : Nat) (vl : Value) (nl : Nat) (ls : List Value) (vz : Value) (nz : Nat) (zs : List Value) (vb : Value) (nb : Nat) (bs : List Value) : Rest :=
  ((R0.row B 165 40 vl nl ls).row B 3 1 vz nz zs).row B 4 1 vb nb bs
def RS (B : Nat) (vl vz vb : Value) (L : List Cm) : Rest := RS3 B vl L.length (tsM L) vz L.length (nsM L) vb L.length (bsM L)
/-- The document's box. -/
def bxS (N cc : Int) (vg : Value) : Array Value := #[.int .i64 N, .int .i64 cc, .int .i64 (-1), vg, .int .i64 (-1), .int .i64 0, .slice none 0 0]
/-- All that is kept beside a rest. -/
def SHs (f : Rest → Rest) (W0 w : World) (s : Sh) (mb : Nat) (T : Int) (m : Nat) (vi vl vz vb : Value) : Prop :=
  ∃ c sn sh gv L sw st vg cc, Lv (RP (f (RS W0.heap.size vl vz vb L)) W0.heap.size mb (bxS (two s.k) cc vg) vi (idsN sh.length gv.length) vg gv (.slice none 0 0) []) W0 w s c sn sh gv sw st ∧ ShI s.p (two s.k) c sn sh.length gv L st T m
section
variable {W0 W w : World} {s : Sh} {c sn sw st : Int} {sh gv : List Int} {mb ob : Nat} {bx oc : Array Value} {vi vg vs vl vz vb vl' vz' vb' : Value} {il gl ss : List Int} {L : List Cm} {nl nz nb : Nat} {ls zs bs ys : List Value}
theorem rs_l (h : Lv (RP (RS W0.heap.size vl vz vb L) W0.heap.size mb bx vi il vg gl vs ss) W0 W s c sn sh gv sw st) : W.ownsRow W0.heap.size 165 40 vl L.length (tsM L) := (lp_rest h).1.1.2.1
theorem rs_z (h : Lv (RP (RS W0.heap.size vl vz vb L) W0.heap.size mb bx vi il vg gl vs ss) W0 W s c sn sh gv sw st) : W.ownsRow W0.heap.size 3 1 vz L.length (nsM L) := (lp_rest h).1.2.1
theorem rs_b (h : Lv (RP (RS W0.heap.size vl vz vb L) W0.heap.size mb bx vi il vg gl vs ss) W0 W s c sn sh gv sw st) : W.ownsRow W0.heap.size 4 1 vb L.length (bsM L) := (lp_rest h).2.1
/-- The state at an act's region. -/
def Sq (W0 w : World) (s : Sh) (mb : Nat) (bx : Array Value) (c sn : Int) (sh gv : List Int) (sw st : Int) (vi : Value) (il : List Int) (vg : Value) (gl : List Int) (ob : Nat) (oc : Array Value) (vl : Value) (nl : Nat) (ls : List Value) (vz : Value) (nz : Nat) (zs : List Value) (vb : Value) (nb : Nat) (bs : List Value) : Prop :=
  Lv (RP ((RS3 W0.heap.size vl nl ls vz nz zs vb nb bs).box W0.heap.size ob oc 162) W0.heap.size mb bx vi il vg gl (.slice none 0 0) []) W0 w s c sn sh gv sw st
theorem Sq.keep (h : Sq W0 W s mb bx c sn sh gv sw st vi il vg gl ob oc vl nl ls vz nz zs vb nb bs) (hb : Below W.heap.size W w) : Sq W0 w s mb bx c sn sh gv sw st vi il vg gl ob oc vl nl ls vz nz zs vb nb bs := Lv.keep h hb
theorem Sq.l (h : Sq W0 W s mb bx c sn sh gv sw st vi il vg gl ob oc vl nl ls vz nz zs vb nb bs) : W.ownsRow W0.heap.size 165 40 vl nl ls := (lp_rest h).1.1.1.2.1
theorem Sq.z (h : Sq W0 W s mb bx c sn sh gv sw st vi il vg gl ob oc vl nl ls vz nz zs vb nb bs) : W.ownsRow W0.heap.size 3 1 vz nz zs := (lp_rest h).1.1.2.1
theorem Sq.b (h : Sq W0 W s mb bx c sn sh gv sw st vi il vg gl ob oc vl nl ls vz nz zs vb nb bs) : W.ownsRow W0.heap.size 4 1 vb nb bs := (lp_rest h).1.2.1
theorem Sq.l0 (h : Sq W0 W s mb bx c sn sh gv sw st vi il vg gl ob oc vl nl ls vz nz zs vb nb bs) : W.ownsRow 0 165 40 vl nl ls := row_base (Sq.l h) (Nat.zero_le _)
theorem Sq.z0 (h : Sq W0 W s mb bx c sn sh gv sw st vi il vg gl ob oc vl nl ls vz nz zs vb nb bs) : W.ownsRow 0 3 1 vz nz zs := row_base (Sq.z h) (Nat.zero_le _)
theorem Sq.b0 (h : Sq W0 W s mb bx c sn sh gv sw st vi il vg gl ob oc vl nl ls vz nz zs vb nb bs) : W.ownsRow 0 4 1 vb nb bs := row_base (Sq.b h) (Nat.zero_le _)
theorem Sq.o (h : Sq W0 W s mb bx c sn sh gv sw st vi il vg gl ob oc vl nl ls vz nz zs vb nb bs) : W.heap[ob]? = some (.cells oc 162 (0, 0)) := (lp_rest h).2.1
/-- The row of bools behind all else, and back. -/
theorem sq_bOut : (RP ((RS3 W0.heap.size vl nl ls vz nz zs vb nb bs).box W0.heap.size ob oc 162) W0.heap.size mb bx vi il vg gl vs ss).le
    ((RP (((R0.row W0.heap.size 165 40 vl nl ls).row W0.heap.size 3 1 vz nz zs).box W0.heap.size ob oc 162) W0.heap.size mb bx vi il vg gl vs ss).row W0.heap.size 4 1 vb nb bs) := (RP.mono Rest.rb).trans RP.rowOut
theorem sq_bIn : ((RP (((R0.row W0.heap.size 165 40 vl nl ls).row W0.heap.size 3 1 vz nz zs).box W0.heap.size ob oc 162) W0.heap.size mb bx vi il vg gl vs ss).row W0.heap.size 4 1 vb nb bs).le
    (RP ((RS3 W0.heap.size vl nl ls vz nz zs vb nb bs).box W0.heap.size ob oc 162) W0.heap.size mb bx vi il vg gl vs ss) := RP.rowIn.trans (RP.mono Rest.br)
theorem sq_zOut : (RP ((RS3 W0.heap.size vl nl ls vz nz zs vb nb bs).box W0.heap.size ob oc 162) W0.heap.size mb bx vi il vg gl vs ss).le
    ((RP (((R0.row W0.heap.size 165 40 vl nl ls).row W0.heap.size 4 1 vb nb bs).box W0.heap.size ob oc 162) W0.heap.size mb bx vi il vg gl vs ss).row W0.heap.size 3 1 vz nz zs) := (RP.mono Rest.rr.box).trans ((RP.mono Rest.rb).trans RP.rowOut)
theorem sq_zIn : ((RP (((R0.row W0.heap.size 165 40 vl nl ls).row W0.heap.size 4 1 vb nb bs).box W0.heap.size ob oc 162) W0.heap.size mb bx vi il vg gl vs ss).row W0.heap.size 3 1 vz nz zs).le
    (RP ((RS3 W0.heap.size vl nl ls vz nz zs vb nb bs).box W0.heap.size ob oc 162) W0.heap.size mb bx vi il vg gl vs ss) := RP.rowIn.trans ((RP.mono Rest.br).trans (RP.mono Rest.rr.box))
theorem sq_lOut : (RP ((RS3 W0.heap.size vl nl ls vz nz zs vb nb bs).box W0.heap.size ob oc 162) W0.heap.size mb bx vi il vg gl vs ss).le
    ((RP (((R0.row W0.heap.size 3 1 vz nz zs).row W0.heap.size 4 1 vb nb bs).box W0.heap.size ob oc 162) W0.heap.size mb bx vi il vg gl vs ss).row W0.heap.size 165 40 vl nl ls) := (RP.mono Rest.rr.row.box).trans ((RP.mono Rest.rr.box).trans ((RP.mono Rest.rb).trans RP.rowOut))
theorem sq_lIn : ((RP (((R0.row W0.heap.size 3 1 vz nz zs).row W0.heap.size 4 1 vb nb bs).box W0.heap.size ob oc 162) W0.heap.size mb bx vi il vg gl vs ss).row W0.heap.size 165 40 vl nl ls).le
    (RP ((RS3 W0.heap.size vl nl ls vz nz zs vb nb bs).box W0.heap.size ob oc 162) W0.heap.size mb bx vi il vg gl vs ss) := RP.rowIn.trans ((RP.mono Rest.br).trans ((RP.mono Rest.rr.box).trans (RP.mono Rest.rr.row.box)))
theorem Sq.appB (h : Sq W0 W s mb bx c sn sh gv sw st vi il vg gl ob oc vl nl ls vz nz zs vb nb bs) {n' : Nat} (hown : w.ownsRow 0 4 1 vb' n' ys) (hf : Frm (fun k => vb.ownBlock = some k) W w) (hv : vb'.ownBlock = vb.ownBlock ∨ ∀ g, vb'.ownBlock = some g → W.heap.size ≤ g) :
    Sq W0 w s mb bx c sn sh gv sw st vi il vg gl ob oc vl nl ls vz nz zs vb' n' ys := by
  have h1 := Lv.le h sq_bOut
  exact (h1.of_ms (h1.ms.app2 (by decide) hown hf hv)).le sq_bIn
theorem Sq.appZ (h : Sq W0 W s mb bx c sn sh gv sw st vi il vg gl ob oc vl nl ls vz nz zs vb nb bs) {n' : Nat} (hown : w.ownsRow 0 3 1 vz' n' ys) (hf : Frm (fun k => vz.ownBlock = some k) W w) (hv : vz'.ownBlock = vz.ownBlock ∨ ∀ g, vz'.ownBlock = some g → W.heap.size ≤ g) :
    Sq W0 w s mb bx c sn sh gv sw st vi il vg gl ob oc vl nl ls vz' n' ys vb nb bs := by
  have h1 := Lv.le h sq_zOut
  exact (h1.of_ms (h1.ms.app2 (by decide) hown hf hv)).le sq_zIn
theorem Sq.appL (h : Sq W0 W s mb bx c sn sh gv sw st vi il vg gl ob oc vl nl ls vz nz zs vb nb bs) {n' : Nat} (hown : w.ownsRow 0 165 40 vl' n' ys) (hf : Frm (fun k => vl.ownBlock = some k) W w) (hv : vl'.ownBlock = vl.ownBlock ∨ ∀ g, vl'.ownBlock = some g → W.heap.size ≤ g) :
    Sq W0 w s mb bx c sn sh gv sw st vi il vg gl ob oc vl' n' ys vz nz zs vb nb bs := by
  have h1 := Lv.le h sq_lOut
  exact (h1.of_ms (h1.ms.app2 (by decide) hown hf hv)).le sq_lIn
/-- A bool of the row is put. -/
theorem Sq.putB {g cap : Nat} (h : Sq W0 W s mb bx c sn sh gv sw st vi il vg gl ob oc vl nl ls vz nz zs (.slice (some ⟨g, 0, none⟩) nb cap) nb bs) (j : Nat) (u : Value) :
    Sq W0 (W.setCell ⟨g, j, none⟩ u) s mb bx c sn sh gv sw st vi il vg gl ob oc vl nl ls vz nz zs (.slice (some ⟨g, 0, none⟩) nb cap) nb (bs.set j u) := by
  have h1 := Lv.le h sq_bOut
  exact (h1.of_ms (h1.ms.put (by decide) j u)).le sq_bIn
/-- A claim of the row is put. -/
theorem Sq.putL {g cap j : Nat} {x : Cm} (h : Sq W0 W s mb bx c sn sh gv sw st vi il vg gl ob oc (.slice (some ⟨g, 0, none⟩) L.length cap) L.length (tsM L) vz nz zs vb nb bs) (hj : j < L.length) (hTS : ∀ y ∈ L, y.ts.toList.length = 40) (hx : x.ts.toList.length = 40) :
    Sq W0 (W.setCells g (j * 40) x.ts.toList) s mb bx c sn sh gv sw st vi il vg gl ob oc (.slice (some ⟨g, 0, none⟩) L.length cap) L.length (tsM (L.set j x)) vz nz zs vb nb bs := by
  have hf : Frm (fun k => k = g) W (W.setCells g (j * 40) x.ts.toList) := Frm.setCells (S := fun k => k = g) rfl _ _ W (Frm.refl (fun k => k = g) W)
  exact h.appL (row_puts (f := fun y : Cm => y.ts.toList) (x' := x) h.l0 hTS hx rfl hj) (hf.mono fun k _ e => by simp [Value.ownBlock, e]) (.inl rfl)
end
/-! Cells of the rows -/
theorem row1_at {w : World} {B n g cap j : Nat} {T : TypeId} {xs : List Value} {v : Value} (h : w.ownsRow B T 1 (.slice (some ⟨g, 0, none⟩) n cap) n xs) (hx : xs[j]? = some v) : w.cell? ⟨g, j, none⟩ = some v := by
  have hl : xs.length = n := by have := h.1; omega
  have hj : j < n := by
    rw [← hl]
    exact (List.getElem?_eq_some_iff.1 hx).1
  rw [h.cellAt j (by omega), hx]
section
variable {P : Program} {ops : Array Oper} {Q : Exit → Act → World → Prop} {D : Nat → Option Tmp} {a0 : Act} {n : Nat} {M : Array Bool → (Nat → Value) → World → Prop}
/-- A literal of one value, in a region that draws its order. -/
theorem act_slice1 {i : Nat} {o : Oper} {s : Array Bool} {V : Nat → Value} {w : World} (hD : DD D n) (ho : ops[i]? = some o) (hd : o.dst = D i) (hg : o.guard = none) (hi : i < n) (hs : s.getD i true = false)
    (t e : TypeId) (x : Operand) (hop : o.op = .buildSlice t 1 #[(0, x)]) (cs : Array Value) (u : Value) (hx : (actOf D V s a0 n).eval x = u)
    (hr : (Instr.buildSlice t 1 #[(0, u)]).run P w = .ok (.slice (some ⟨w.heap.size, 0, none⟩) 1 1) (w.alloc (.cells cs e)))
    (hM : ∀ w', Below w.heap.size w w' → w'.heap[w.heap.size]? = some (.cells cs e (0, 0)) → M (s.setIfInBounds i true) (upd V i (.slice (some ⟨w.heap.size, 0, none⟩) 1 1)) w') :
    wpOp P ops Q i (fun a' w' => ActInv D a0 n M (s.setIfInBounds i true) a' w') (actOf D V s a0 n) w := by
  have h := step_slice1 (P := P) (ops := ops) (K := fun a' w' => ActInv D a0 n M (s.setIfInBounds i true) a' w') (Q := Q) (E := True) hg t e x hop cs u hx hr fun n' w' e1 e2 e3 => by
    subst e1
    exact ⟨_, by rw [hd]; exact actOf_put n hD hi hs _, hM w' e3 e2⟩
  rw [if_pos (by simp [Region.wanted, hg])] at h
  unfold wpOp
  simp only [ho]
  rw [if_pos (by simp [Region.wanted, hg])]
  exact .inl h
/-- An append, in a region that draws its order. -/
theorem act_append {i : Nat} {o : Oper} {s : Array Bool} {V : Nat → Value} {w : World} (hD : DD D n) (ho : ops[i]? = some o) (hd : o.dst = D i) (hg : o.guard = none) (hi : i < n) (hs : s.getD i true = false)
    (x y : Operand) (t : TypeId) (hop : o.op = Op.call { callee := Callee.builtin Builtin.append, args := #[x, y], argTypes := #[t, t] })
    (e : TypeId) (ti : TypeInfo) (z : Value) (size bytes : Nat) (ht : P.underlying t = some (.slice e)) (hti : P.info? e = some ti) (hz : ti.zero = some z)
    (hsize : ti.size = size) (hby : ti.bytes = bytes) (hzs : z.cells.size = size) (hsz : 0 < size)
    (v : Value) (k : Nat) (xs : List Value) (hx : (actOf D V s a0 n).eval x = v) (hown : w.ownsRow 0 e size v k xs)
    (ad : Addr) (m c : Nat) (news : List Value) (hy : (actOf D V s a0 n).eval y = .slice (some ad) m c) (hl : news.length = m * size) (hnews : ∀ j u, news[j]? = some u → w.cell? (ad.add j) = some u) (h1 : ∀ u ∈ news, u.oneCell' = true)
    (h63 : k + m ≤ maxLen) (hbytes : (k + m) * bytes ≤ 140737488355328)
    (hM : ∀ v' w', w'.ownsRow 0 e size v' (k + m) (xs ++ news) → Frm (fun k => v.ownBlock = some k) w w' → (v'.ownBlock = v.ownBlock ∨ ∀ g, v'.ownBlock = some g → w.heap.size ≤ g) → M (s.setIfInBounds i true) (upd V i v') w') :
    wpOp P ops Q i (fun a' w' => ActInv D a0 n M (s.setIfInBounds i true) a' w') (actOf D V s a0 n) w := by
  have h := step_append_row (P := P) (ops := ops) (K := fun a' w' => ActInv D a0 n M (s.setIfInBounds i true) a' w') (Q := Q) (E := True) hg x y t hop e ti z size bytes ht hti hz hsize hby hzs hsz v k xs hx hown ad m c news hy hl hnews h1 h63 hbytes fun v' w' e1 e2 e3 =>
    ⟨_, by rw [hd]; exact actOf_put n hD hi hs _, hM v' w' e1 e2 e3⟩
  rw [if_pos (by simp [Region.wanted, hg])] at h
  unfold wpOp
  simp only [ho]
  rw [if_pos (by simp [Region.wanted, hg])]
  exact .inl h
end
theorem infoBool : (Try.prog.info? 4).map (fun i => (i.zero, i.size, i.bytes)) = some (some (.bool false), 1, 1) := by kernel_rfl
end Go.Proofs.Ytjadapjjilegnaa
namespace Go.Proofs.Ytjadapjjilegnaa
open Go.RowKit
set_option linter.unusedVariables false
set_option linter.unusedSimpArgs false
def rg19 : List Oper :=
  [{ dst := some 72, op := Op.move (Operand.tmp 12), type := 159, pos := "law.go:283", after := #[], guard := none },
  { dst := some 73, op := Op.load 165 (Operand.tmp 16), type := 165, pos := "law.go:283", after := #[], guard := none },
  { dst := some 74, op := Op.buildSlice 159 1 #[(0, Operand.tmp 73)], type := 159, pos := "law.go:283", after := #[{ on := 1, ground := Ground.data }], guard := none },
  { dst := some 75, op := Op.call { callee := Callee.builtin Builtin.append, args := #[Operand.tmp 72, Operand.tmp 74], argTypes := #[159, 159] }, type := 159, pos := "law.go:283", after := #[{ on := 0, ground := Ground.data }, { on := 2, ground := Ground.data }], guard := none },
  { dst := some 76, op := Op.move (Operand.tmp 11), type := 38, pos := "law.go:283", after := #[], guard := none },
  { dst := some 77, op := Op.fieldAddr 162 (Operand.tmp 15) 2, type := 0, pos := "law.go:283", after := #[], guard := none },
  { dst := some 78, op := Op.load 3 (Operand.tmp 77), type := 3, pos := "law.go:283", after := #[{ on := 5, ground := Ground.data }], guard := none },
  { dst := some 79, op := Op.buildSlice 38 1 #[(0, Operand.tmp 78)], type := 38, pos := "law.go:283", after := #[{ on := 6, ground := Ground.data }], guard := none },
  { dst := some 80, op := Op.call { callee := Callee.builtin Builtin.append, args := #[Operand.tmp 76, Operand.tmp 79], argTypes := #[38, 38] }, type := 38, pos := "law.go:283", after := #[{ on := 4, ground := Ground.data }, { on := 7, ground := Ground.data }, { on := 3, ground := Ground.chain }], guard := none },
  { dst := some 81, op := Op.move (Operand.tmp 13), type := 88, pos := "law.go:283", after := #[], guard := none },
  { dst := some 82, op := Op.buildSlice 88 1 #[(0, Operand.const (Value.bool false))], type := 88, pos := "law.go:283", after := #[], guard := none },
  { dst := some 83, op := Op.call { callee := Callee.builtin Builtin.append, args := #[Operand.tmp 81, Operand.tmp 82], argTypes := #[88, 88] }, type := 88, pos := "law.go:283", after := #[{ on := 9, ground := Ground.data }, { on := 10, ground := Ground.data }, { on := 8, ground := Ground.chain }], guard := none },
  { dst := some 12, op := Op.assign (Operand.tmp 75), type := 159, pos := "law.go:283", after := #[{ on := 3, ground := Ground.data }, { on := 11, ground := Ground.chain }, { on := 0, ground := Ground.phase }, { on := 1, ground := Ground.phase }, { on := 2, ground := Ground.phase }, { on := 3, ground := Ground.phase }, { on := 4, ground := Ground.textOnly Departure.lateStores }, { on := 5, ground := Ground.textOnly Departure.lateStores }, { on := 6, ground := Ground.textOnly Departure.lateStores }, { on := 7, ground := Ground.textOnly Departure.lateStores }, { on := 8, ground := Ground.textOnly Departure.lateStoresUnsure }, { on := 9, ground := Ground.textOnly Departure.lateStores }, { on := 10, ground := Ground.textOnly Departure.lateStores }, { on := 11, ground := Ground.textOnly Departure.lateStoresUnsure }], guard := none },
  { dst := some 11, op := Op.assign (Operand.tmp 80), type := 38, pos := "law.go:283", after := #[{ on := 8, ground := Ground.data }, { on := 12, ground := Ground.chain }, { on := 0, ground := Ground.phase }, { on := 1, ground := Ground.phase }, { on := 2, ground := Ground.phase }, { on := 3, ground := Ground.phase }, { on := 4, ground := Ground.phase }, { on := 5, ground := Ground.phase }, { on := 6, ground := Ground.phase }, { on := 7, ground := Ground.phase }, { on := 8, ground := Ground.phase }, { on := 9, ground := Ground.textOnly Departure.lateStores }, { on := 10, ground := Ground.textOnly Departure.lateStores }, { on := 11, ground := Ground.textOnly Departure.lateStoresUnsure }, { on := 12, ground := Ground.phase }], guard := none },
  { dst := some 13, op := Op.assign (Operand.tmp 83), type := 88, pos := "law.go:283", after := #[{ on := 11, ground := Ground.data }, { on := 13, ground := Ground.chain }, { on := 0, ground := Ground.phase }, { on := 1, ground := Ground.phase }, { on := 2, ground := Ground.phase }, { on := 3, ground := Ground.phase }, { on := 4, ground := Ground.phase }, { on := 5, ground := Ground.phase }, { on := 6, ground := Ground.phase }, { on := 7, ground := Ground.phase }, { on := 8, ground := Ground.phase }, { on := 9, ground := Ground.phase }, { on := 10, ground := Ground.phase }, { on := 11, ground := Ground.phase }, { on := 12, ground := Ground.phase }, { on := 13, ground := Ground.phase }], guard := none }]
def L19 : List (Option Tmp) := [some 72, some 73, some 74, some 75, some 76, some 77, some 78, some 79, some 80, some 81, some 82, some 83, some 12, some 11, some 13]
theorem dd19 : DD (fun i => L19.getD i none) 12 := dd_of (by kernel_rfl) 12 (by decide)
theorem i_cases12 {i : Nat} (h : i < 12) : i = 0 ∨ i = 1 ∨ i = 2 ∨ i = 3 ∨ i = 4 ∨ i = 5 ∨ i = 6 ∨ i = 7 ∨ i = 8 ∨ i = 9 ∨ i = 10 ∨ i = 11 := by omega
/-- One value behind an operation, another one ahead of it. -/
def pk {α : Type} (s : Array Bool) (i : Nat) (a b : α) : α := if s.getD i true = true then a else b
theorem pk_ne {α : Type} {s : Array Bool} {i j : Nat} (h : i ≠ j) (a b : α) : pk (s.setIfInBounds i true) j a b = pk s j a b := by
  unfold pk
  rw [getD_set_ne true h]
theorem pk_self {α : Type} (s : Array Bool) (i : Nat) (a b : α) : pk (s.setIfInBounds i true) i a b = a := if_pos (set_self _ _)
theorem pk_no {α : Type} {s : Array Bool} {i : Nat} (h : s.getD i true = false) (a b : α) : pk s i a b = b := if_neg (by rw [h]; decide)
theorem pk_yes {α : Type} {s : Array Bool} {i : Nat} (h : s.getD i true = true) (a b : α) : pk s i a b = a := if_pos h
def c19 (ts : Array Value) (z2 : Int) (i : Nat) : Array Value := if i = 2 then ts else if i = 7 then #[.int .i64 z2] else #[.bool false]
def t19 (i : Nat) : TypeId := if i = 2 then 165 else if i = 7 then 3 else 4
def v19 (vl vz vb : Value) (ob : Nat) (z2 : Int) (ts : Array Value) : List Value := [vl, .agg ts, undef, undef, vz, .pointer (some ⟨ob, 2, none⟩), .int .i64 z2, undef, undef, vb, undef, undef]
section
variable {W0 w5 : World} {a0 : Act} {sq : Sh} {ob mb n16 nl B0 : Nat} {c sn sw st z2 : Int} {sh gv il gl : List Int} {vi vg vl vz vb : Value} {bx oc ts : Array Value} {ls zs bs : List Value}
/-- What is known on the way. -/
structure M19 (W0 : World) (sq : Sh) (mb : Nat) (bx : Array Value) (c sn : Int) (sh gv : List Int) (sw st : Int) (vi : Value) (il : List Int) (vg : Value) (gl : List Int) (ob : Nat) (oc : Array Value) (vl vz vb : Value) (nl : Nat) (ls zs bs : List Value) (ts : Array Value) (z2 : Int) (n16 B0 : Nat) (s : Array Bool) (V : Nat → Value) (w : World) : Prop where
  sz : B0 ≤ w.heap.size
  p : ∀ i, i < 12 → i ≠ 2 → i ≠ 3 → i ≠ 7 → i ≠ 8 → i ≠ 10 → i ≠ 11 → s.getD i true = true → V i = (v19 vl vz vb ob z2 ts).getD i undef
  l : ∀ i, (i = 2 ∨ i = 7 ∨ i = 10) → s.getD i true = true → s.getD (i + 1) true = false → ∃ g, B0 ≤ g ∧ V i = .slice (some ⟨g, 0, none⟩) 1 1 ∧ w.heap[g]? = some (.cells (c19 ts z2 i) (t19 i) (0, 0))
  S : Sq W0 w sq mb bx c sn sh gv sw st vi il vg gl ob oc (pk s 3 (V 3) vl) (pk s 3 (nl + 1) nl) (pk s 3 (ls ++ ts.toList) ls) (pk s 8 (V 8) vz) (pk s 8 (nl + 1) nl) (pk s 8 (zs ++ [.int .i64 z2]) zs) (pk s 11 (V 11) vb) (pk s 11 (nl + 1) nl) (pk s 11 (bs ++ [.bool false]) bs)
  h16 : w.heap[n16]? = some (.cells ts 165 (0, 0))
theorem M19.go {s : Array Bool} {V : Nat → Value} {w w' : World} (h : M19 W0 sq mb bx c sn sh gv sw st vi il vg gl ob oc vl vz vb nl ls zs bs ts z2 n16 B0 s V w) {i : Nat} {v : Value} (hsz : w.heap.size ≤ w'.heap.size)
    (hk : ∀ g cs t, (B0 ≤ g ∨ g = n16) → w.heap[g]? = some (.cells cs t (0, 0)) → w'.heap[g]? = some (.cells cs t (0, 0)))
    (hS : Sq W0 w' sq mb bx c sn sh gv sw st vi il vg gl ob oc (pk (s.setIfInBounds i true) 3 (upd V i v 3) vl) (pk (s.setIfInBounds i true) 3 (nl + 1) nl) (pk (s.setIfInBounds i true) 3 (ls ++ ts.toList) ls) (pk (s.setIfInBounds i true) 8 (upd V i v 8) vz) (pk (s.setIfInBounds i true) 8 (nl + 1) nl) (pk (s.setIfInBounds i true) 8 (zs ++ [.int .i64 z2]) zs) (pk (s.setIfInBounds i true) 11 (upd V i v 11) vb) (pk (s.setIfInBounds i true) 11 (nl + 1) nl) (pk (s.setIfInBounds i true) 11 (bs ++ [.bool false]) bs))
    (hp : i ≠ 2 → i ≠ 3 → i ≠ 7 → i ≠ 8 → i ≠ 10 → i ≠ 11 → v = (v19 vl vz vb ob z2 ts).getD i undef)
    (hl : (i = 2 ∨ i = 7 ∨ i = 10) → ∃ g, B0 ≤ g ∧ v = .slice (some ⟨g, 0, none⟩) 1 1 ∧ w'.heap[g]? = some (.cells (c19 ts z2 i) (t19 i) (0, 0))) :
    M19 W0 sq mb bx c sn sh gv sw st vi il vg gl ob oc vl vz vb nl ls zs bs ts z2 n16 B0 (s.setIfInBounds i true) (upd V i v) w' := by
  refine ⟨by have := h.sz; omega, fun k hk1 k2 k3 k7 k8 k10 k11 hs => ?_, fun k hk1 hs hs1 => ?_, hS, hk _ _ _ (.inr rfl) h.h16⟩
  · by_cases e : k = i
    · subst e
      rw [upd_self]
      exact hp k2 k3 k7 k8 k10 k11
    · rw [upd_ne _ e]
      rw [getD_set_ne true (Ne.symm e)] at hs
      exact h.p k hk1 k2 k3 k7 k8 k10 k11 hs
  · by_cases e : k = i
    · subst e
      rw [upd_self]
      exact hl hk1
    · rw [upd_ne _ e]
      rw [getD_set_ne true (Ne.symm e)] at hs
      have e1 : i ≠ k + 1 := fun e1 => by
        subst e1
        rw [set_self] at hs1
        cases hs1
      rw [getD_set_ne true e1] at hs1
      obtain ⟨g, q1, q2, q3⟩ := h.l k hk1 hs hs1
      exact ⟨g, q1, q2, hk g _ _ (.inl q1) q3⟩
/-- An operation that turns no row. -/
theorem M19.far {s : Array Bool} {V : Nat → Value} {w w' : World} (h : M19 W0 sq mb bx c sn sh gv sw st vi il vg gl ob oc vl vz vb nl ls zs bs ts z2 n16 B0 s V w) {i : Nat} {v : Value} (i3 : i ≠ 3) (i8 : i ≠ 8) (i11 : i ≠ 11) (hb : Below w.heap.size w w')
    (hp : i ≠ 2 → i ≠ 7 → i ≠ 10 → v = (v19 vl vz vb ob z2 ts).getD i undef)
    (hl : (i = 2 ∨ i = 7 ∨ i = 10) → v = .slice (some ⟨w.heap.size, 0, none⟩) 1 1 ∧ w'.heap[w.heap.size]? = some (.cells (c19 ts z2 i) (t19 i) (0, 0))) :
    M19 W0 sq mb bx c sn sh gv sw st vi il vg gl ob oc vl vz vb nl ls zs bs ts z2 n16 B0 (s.setIfInBounds i true) (upd V i v) w' := by
  refine h.go hb.size (fun g cs t _ hg => (hb.block g (lt_of_block hg)).trans hg) ?_ (fun k2 _ k7 _ k10 _ => hp k2 k7 k10) (fun e => ⟨w.heap.size, h.sz, hl e⟩)
  simp only [pk_ne i3, pk_ne i8, pk_ne i11, upd_ne _ (Ne.symm i3), upd_ne _ (Ne.symm i8), upd_ne _ (Ne.symm i11)]
  exact h.S.keep hb
theorem own_frm {v : Value} {w w' : World} (hf : Frm (fun k => v.ownBlock = some k) w w') {g : Nat} {cs : Array Value} {t : TypeId} (hg : w.heap[g]? = some (.cells cs t (0, 0))) (hne : ∀ k, v.ownBlock = some k → g ≠ k) : w'.heap[g]? = some (.cells cs t (0, 0)) := hf.obj hg fun e => hne _ e rfl
set_option maxHeartbeats 4000000 in
/-- The region: one claim more. -/
theorem ms_r19 (e12 : a0.eval (.tmp 12) = vl) (e11 : a0.eval (.tmp 11) = vz) (e13 : a0.eval (.tmp 13) = vb) (e15 : a0.eval (.tmp 15) = .pointer (some ⟨ob, 0, none⟩)) (e16 : a0.eval (.tmp 16) = .pointer (some ⟨n16, 0, none⟩)) (hsz0 : a0.tmps.size = 285)
    (hL : nl ≤ 1000) (hts : ts.size = 40) (hxo : ts.all (·.oneCell') = true) (hxi : (Try.prog.info? 165).map (·.size) = some ts.size) (hoc : oc[2]? = some (.int .i64 z2))
    (n1 : ∀ k, vl.ownBlock = some k → n16 ≠ k) (n2 : ∀ k, vz.ownBlock = some k → n16 ≠ k) (n3 : ∀ k, vb.ownBlock = some k → n16 ≠ k)
    (h16 : w5.heap[n16]? = some (.cells ts 165 (0, 0)))
    (hS : Sq W0 w5 sq mb bx c sn sh gv sw st vi il vg gl ob oc vl nl ls vz nl zs vb nl bs) :
    (Code.region 19 rg19.toArray true).wp Try.prog (fun e a' y => e = .normal ∧ ∃ u1 u2 u3 x1 x2 x3, Sq W0 y sq mb bx c sn sh gv sw st vi il vg gl ob oc u1 (nl + 1) (ls ++ ts.toList) u2 (nl + 1) (zs ++ [.int .i64 z2]) u3 (nl + 1) (bs ++ [.bool false]) ∧
      a' = (((((((((((((((a0.put (some 72) vl).put (some 73) (.agg ts)).put (some 74) x1).put (some 75) u1).put (some 76) vz).put (some 77) (.pointer (some ⟨ob, 2, none⟩))).put (some 78) (.int .i64 z2)).put (some 79) x2).put (some 80) u2).put (some 81) vb).put (some 82) x3).put (some 83) u3).put (some 12) u1).put (some 11) u2).put (some 13) u3)) a0 w5 := by
  have hrep : ∀ i, i < 15 → (Array.replicate rg19.length false).getD i true = false := fun i hi => by
    simp [show i < rg19.length from hi]
  obtain ⟨i1, zz1, ji, jz0, jz1, jz2, jz3⟩ := info_parts3 ty_info
  obtain ⟨i2, ki, kz0, kz1, kz2⟩ := info_parts infoN
  obtain ⟨i3, mi, mz0, mz1, mz2⟩ := info_parts infoBool
  have fr1 : ∀ g k, vl.ownBlock = some k → w5.heap.size ≤ g → g ≠ k := fun g k hk hg => by have := (hS.l.lt k hk).2; omega
  have fr2 : ∀ g k, vz.ownBlock = some k → w5.heap.size ≤ g → g ≠ k := fun g k hk hg => by have := (hS.z.lt k hk).2; omega
  have fr3 : ∀ g k, vb.ownBlock = some k → w5.heap.size ≤ g → g ≠ k := fun g k hk hg => by have := (hS.b.lt k hk).2; omega
  have hfa : ∀ w : World, (Instr.fieldAt 162 (.pointer (some ⟨ob, 0, none⟩)) 2).run Try.prog w = .ok (.pointer (some ⟨ob, 2, none⟩)) w := fun w => by kernel_rfl
  have hb1 := ty_lit ts hts
  have hb2 : ∀ w : World, (Instr.buildSlice 38 1 #[(0, .int .i64 z2)]).run Try.prog w = .ok (.slice (some ⟨w.heap.size, 0, none⟩) 1 1) (w.alloc (.cells #[.int .i64 z2] 3)) := fun w => by go_simp
  have hb3 : ∀ w : World, (Instr.buildSlice 88 1 #[(0, .bool false)]).run Try.prog w = .ok (.slice (some ⟨w.heap.size, 0, none⟩) 1 1) (w.alloc (.cells #[.bool false] 4)) := fun w => by go_simp
  have hT1 : ∀ x ∈ ts.toList, x.oneCell' = true := fun x hx => (Array.all_eq_true_iff_forall_mem.1 hxo) x (by simpa using hx)
  have hTL : ts.toList.length = 1 * 40 := by simpa using hts
  refine wp_region_act (l := rg19) 12 (fun i => L19.getD i none) (M19 W0 sq mb bx c sn sh gv sw st vi il vg gl ob oc vl vz vb nl ls zs bs ts z2 n16 w5.heap.size) mixed (by decide) (by kernel_rfl) (by kernel_rfl) (by kernel_rfl) (by kernel_rfl) (fun _ => undef) ⟨Nat.le_refl _, fun i hi _ _ _ _ _ _ h => (by rw [hrep i (by omega)] at h; cases h), fun i hi h => (by rw [hrep i (by omega)] at h; cases h), ?_, h16⟩ (fun i s V w hi hr hM => ?_) (fun V w hM => ?_)
  · rw [pk_no (hrep 3 (by decide)), pk_no (hrep 3 (by decide)), pk_no (hrep 3 (by decide)), pk_no (hrep 8 (by decide)), pk_no (hrep 8 (by decide)), pk_no (hrep 8 (by decide)), pk_no (hrep 11 (by decide)), pk_no (hrep 11 (by decide)), pk_no (hrep 11 (by decide))]
    exact Sq.keep hS (Below.drew (Below.refl _ _))
  · have hun := ready_un hr
    have ev : ∀ (j k : Nat), j < 12 → L19.getD j none = some k → s.getD j true = true → k < 285 → (actOf (fun i => L19.getD i none) V s a0 12).eval (.tmp k) = V j := fun j k hj hk hs hk2 => actOf_eval 12 dd19 hj hk hs (by rw [hsz0]; exact hk2)
    have ev0 : ∀ k, (∀ j, j < 12 → L19.getD j none ≠ some k) → (actOf (fun i => L19.getD i none) V s a0 12).eval (.tmp k) = a0.eval (.tmp k) := fun k h => actOf_eval0 12 fun j hj _ => h j hj
    rcases i_cases12 hi with rfl | rfl | rfl | rfl | rfl | rfl | rfl | rfl | rfl | rfl | rfl | rfl
    · exact act_val dd19 rfl rfl rfl hi hun (ex_move (.tmp 12) rfl ((ev0 12 (by decide)).trans e12)) (hM.far (by decide) (by decide) (by decide) (Below.refl _ _) (fun _ _ _ => rfl) (by simp))
    · exact act_val dd19 rfl rfl rfl hi hun (ex_load 165 (.tmp 16) rfl ((ev0 16 (by decide)).trans e16) (run_loadAt_row w n16 _ _ _ _ _ hM.h16 Try.underlying165 rfl hxi)) (hM.far (by decide) (by decide) (by decide) (Below.refl _ _) (fun _ _ _ => rfl) (by simp))
    · have d := ready_on hr 1 (by kernel_rfl)
      exact act_slice1 dd19 rfl rfl rfl hi hun 159 165 (.tmp 73) rfl ts (.agg ts) ((ev 1 73 (by decide) rfl d (by decide)).trans (hM.p 1 (by decide) (by decide) (by decide) (by decide) (by decide) (by decide) (by decide) d)) (hb1 _) fun w' hb hn => hM.far (by decide) (by decide) (by decide) hb (fun e => absurd rfl e) (fun _ => ⟨rfl, hn⟩)
    · have d := ready_on hr 0 (by kernel_rfl)
      have d2 := ready_on hr 2 (by kernel_rfl)
      obtain ⟨g, q1, q2, q3⟩ := hM.l 2 (.inl rfl) d2 hun
      have hSw := hM.S
      rw [pk_no hun, pk_no hun, pk_no hun] at hSw
      refine act_append dd19 rfl rfl rfl hi hun (.tmp 72) (.tmp 74) 159 rfl 165 i1 zz1 40 320 Try.underlying159 ji jz0 jz2 jz3 jz1 (by decide) vl nl ls ((ev 0 72 (by decide) rfl d (by decide)).trans (hM.p 0 (by decide) (by decide) (by decide) (by decide) (by decide) (by decide) (by decide) d)) hSw.l0 ⟨g, 0, none⟩ 1 1 ts.toList ((ev 2 74 (by decide) rfl d2 (by decide)).trans q2) hTL (newsB q3) hT1 (by unfold maxLen; omega) (by omega) fun v' w' a1 a2 a3 => ?_
      refine hM.go a2.size (fun g cs t hg hh => own_frm a2 hh fun k hk => ?_) ?_ (fun _ e => absurd rfl e) (fun e => by omega)
      · rcases hg with hg | rfl
        · exact fr1 g k hk hg
        · exact n1 k hk
      · simp only [pk_self, pk_ne (show 3 ≠ 8 by decide), pk_ne (show 3 ≠ 11 by decide), upd_self, upd_ne _ (show 8 ≠ 3 by decide), upd_ne _ (show 11 ≠ 3 by decide)]
        exact hSw.appL a1 a2 a3
    · exact act_val dd19 rfl rfl rfl hi hun (ex_move (.tmp 11) rfl ((ev0 11 (by decide)).trans e11)) (hM.far (by decide) (by decide) (by decide) (Below.refl _ _) (fun _ _ _ => rfl) (by simp))
    · exact act_val dd19 rfl rfl rfl hi hun (ex_field 162 (.tmp 15) 2 rfl ((ev0 15 (by decide)).trans e15) (hfa w)) (hM.far (by decide) (by decide) (by decide) (Below.refl _ _) (fun _ _ _ => rfl) (by simp))
    · have d := ready_on hr 5 (by kernel_rfl)
      have hlo : (Instr.loadAt 3 (.pointer (some ⟨ob, 2, none⟩))).run Try.prog w = .ok (.int .i64 z2) w := by
        have ho := (obj_cell (Sq.o hM.S) 2).trans hoc
        go_simp
      exact act_val dd19 rfl rfl rfl hi hun (ex_load 3 (.tmp 77) rfl ((ev 5 77 (by decide) rfl d (by decide)).trans (hM.p 5 (by decide) (by decide) (by decide) (by decide) (by decide) (by decide) (by decide) d)) hlo) (hM.far (by decide) (by decide) (by decide) (Below.refl _ _) (fun _ _ _ => rfl) (by simp))
    · have d := ready_on hr 6 (by kernel_rfl)
      exact act_slice1 dd19 rfl rfl rfl hi hun 38 3 (.tmp 78) rfl #[.int .i64 z2] (.int .i64 z2) ((ev 6 78 (by decide) rfl d (by decide)).trans (hM.p 6 (by decide) (by decide) (by decide) (by decide) (by decide) (by decide) (by decide) d)) (hb2 _) fun w' hb hn => hM.far (by decide) (by decide) (by decide) hb (fun _ e => absurd rfl e) (fun _ => ⟨rfl, hn⟩)
    · have d := ready_on hr 4 (by kernel_rfl)
      have d2 := ready_on hr 7 (by kernel_rfl)
      obtain ⟨g, q1, q2, q3⟩ := hM.l 7 (.inr (.inl rfl)) d2 hun
      have hSw := hM.S
      rw [pk_no (i := 8) hun, pk_no (i := 8) hun, pk_no (i := 8) hun] at hSw
      refine act_append dd19 rfl rfl rfl hi hun (.tmp 76) (.tmp 79) 38 rfl 3 i2 (.int .i64 0) 1 8 Try.underlying38 ki kz0 kz1 kz2 rfl (by decide) vz nl zs ((ev 4 76 (by decide) rfl d (by decide)).trans (hM.p 4 (by decide) (by decide) (by decide) (by decide) (by decide) (by decide) (by decide) d)) hSw.z0 ⟨g, 0, none⟩ 1 1 [.int .i64 z2] ((ev 7 79 (by decide) rfl d2 (by decide)).trans q2) rfl (newsB q3) (fun x hx => by simp at hx; subst hx; rfl) (by unfold maxLen; omega) (by omega) fun v' w' a1 a2 a3 => ?_
      refine hM.go a2.size (fun g cs t hg hh => own_frm a2 hh fun k hk => ?_) ?_ (fun _ _ _ e => absurd rfl e) (fun e => by omega)
      · rcases hg with hg | rfl
        · exact fr2 g k hk hg
        · exact n2 k hk
      · simp only [pk_self, pk_ne (show 8 ≠ 3 by decide), pk_ne (show 8 ≠ 11 by decide), upd_self, upd_ne _ (show 3 ≠ 8 by decide), upd_ne _ (show 11 ≠ 8 by decide)]
        exact hSw.appZ a1 a2 a3
    · exact act_val dd19 rfl rfl rfl hi hun (ex_move (.tmp 13) rfl ((ev0 13 (by decide)).trans e13)) (hM.far (by decide) (by decide) (by decide) (Below.refl _ _) (fun _ _ _ => rfl) (by simp))
    · exact act_slice1 dd19 rfl rfl rfl hi hun 88 4 (.const (.bool false)) rfl #[.bool false] (.bool false) rfl (hb3 _) fun w' hb hn => hM.far (by decide) (by decide) (by decide) hb (fun _ _ e => absurd rfl e) (fun _ => ⟨rfl, hn⟩)
    · have d := ready_on hr 9 (by kernel_rfl)
      have d2 := ready_on hr 10 (by kernel_rfl)
      obtain ⟨g, q1, q2, q3⟩ := hM.l 10 (.inr (.inr rfl)) d2 hun
      have hSw := hM.S
      rw [pk_no (i := 11) hun, pk_no (i := 11) hun, pk_no (i := 11) hun] at hSw
      refine act_append dd19 rfl rfl rfl hi hun (.tmp 81) (.tmp 82) 88 rfl 4 i3 (.bool false) 1 1 Try.underlying88 mi mz0 mz1 mz2 rfl (by decide) vb nl bs ((ev 9 81 (by decide) rfl d (by decide)).trans (hM.p 9 (by decide) (by decide) (by decide) (by decide) (by decide) (by decide) (by decide) d)) hSw.b0 ⟨g, 0, none⟩ 1 1 [.bool false] ((ev 10 82 (by decide) rfl d2 (by decide)).trans q2) rfl (newsB q3) (fun x hx => by simp at hx; subst hx; rfl) (by unfold maxLen; omega) (by omega) fun v' w' a1 a2 a3 => ?_
      refine hM.go a2.size (fun g cs t hg hh => own_frm a2 hh fun k hk => ?_) ?_ (fun _ _ _ _ _ e => absurd rfl e) (fun e => by omega)
      · rcases hg with hg | rfl
        · exact fr3 g k hk hg
        · exact n3 k hk
      · simp only [pk_self, pk_ne (show 11 ≠ 3 by decide), pk_ne (show 11 ≠ 8 by decide), upd_self, upd_ne _ (show 3 ≠ 11 by decide), upd_ne _ (show 8 ≠ 11 by decide)]
        exact hSw.appB a1 a2 a3
  · have hc : ∀ j, j < 12 → (canon 12 rg19.length).getD j true = true := fun j hj => canon_at hj
    have hS2 := hM.S
    simp only [pk_yes (hc 3 (by decide)), pk_yes (hc 8 (by decide)), pk_yes (hc 11 (by decide))] at hS2
    have p0 := hM.p 0 (by decide) (by decide) (by decide) (by decide) (by decide) (by decide) (by decide) (hc 0 (by decide))
    have p1 := hM.p 1 (by decide) (by decide) (by decide) (by decide) (by decide) (by decide) (by decide) (hc 1 (by decide))
    have p4 := hM.p 4 (by decide) (by decide) (by decide) (by decide) (by decide) (by decide) (by decide) (hc 4 (by decide))
    have p5 := hM.p 5 (by decide) (by decide) (by decide) (by decide) (by decide) (by decide) (by decide) (hc 5 (by decide))
    have p6 := hM.p 6 (by decide) (by decide) (by decide) (by decide) (by decide) (by decide) (by decide) (hc 6 (by decide))
    have p9 := hM.p 9 (by decide) (by decide) (by decide) (by decide) (by decide) (by decide) (by decide) (hc 9 (by decide))
    have x1 : (actOf (fun i => L19.getD i none) V (canon 12 rg19.length) a0 12).eval (.tmp 75) = V 3 := actOf_eval 12 dd19 (i := 3) (by decide) rfl (hc 3 (by decide)) (by rw [hsz0]; decide)
    have x2 : (actOf (fun i => L19.getD i none) V (canon 12 rg19.length) a0 12).eval (.tmp 80) = V 8 := actOf_eval 12 dd19 (i := 8) (by decide) rfl (hc 8 (by decide)) (by rw [hsz0]; decide)
    have x3 : (actOf (fun i => L19.getD i none) V (canon 12 rg19.length) a0 12).eval (.tmp 83) = V 11 := actOf_eval 12 dd19 (i := 11) (by decide) rfl (hc 11 (by decide)) (by rw [hsz0]; decide)
    refine wpList_val rfl (ex_assign (.tmp 75) rfl x1) ?_
    refine wpList_val rfl (ex_assign (.tmp 80) rfl ((eval_ne _ (by decide) _).trans x2)) ?_
    refine wpList_val rfl (ex_assign (.tmp 83) rfl ((eval_ne _ (by decide) _).trans ((eval_ne _ (by decide) _).trans x3))) ?_
    refine ⟨rfl, V 3, V 8, V 11, V 2, V 7, V 10, hS2, ?_⟩
    simp only [actOf]
    rw [if_pos (hc 0 (by decide)), if_pos (hc 1 (by decide)), if_pos (hc 2 (by decide)), if_pos (hc 3 (by decide)), if_pos (hc 4 (by decide)), if_pos (hc 5 (by decide)), if_pos (hc 6 (by decide)), if_pos (hc 7 (by decide)), if_pos (hc 8 (by decide)), if_pos (hc 9 (by decide)), if_pos (hc 10 (by decide)), if_pos (hc 11 (by decide))]
    rw [p0, p1, p4, p5, p6, p9]
    clear hM hc hS2 hS x1 x2 x3 p0 p1 p4 p5 p6 p9
    simp only [L19, v19, List.getD_cons_zero, List.getD_cons_succ]
end
end Go.Proofs.Ytjadapjjilegnaa
namespace Go.Proofs.Ytjadapjjilegnaa
open Go.RowKit
set_option linter.unusedVariables false
set_option linter.unusedSimpArgs false

theorem hok_tok {N c sn n : Int} {sh gv : List Int} {t : Tr} {b : Bool} (h : HOk N c sh.length gv t n b) (hN : N ≤ 64) (hc : -1 ≤ c) (hc2 : c ≤ 10000) (hg : gv.length ≤ 20) : TOk (mk c sn sh gv) t := by
  have tn := h.tn
  have n1 := h.n1
  have n2 := h.n2
  have l1 := h.l1
  have l2 := h.l2
  have hlen := mk_len c sn sh gv
  refine ⟨by omega, by omega, h.s1, h.s7, hc, by show c ≤ _; omega, by omega, by omega, by omega, fun e => ?_⟩
  obtain ⟨m, q1, q2, q3, _⟩ := h.a3 e
  have e1 : t.ids.length = m := by rw [q2, idsN_len]
  have e2 : t.ids.getD t.seen 0 = ((sh.length + 2 + t.seen : Nat) : Int) := by rw [q2]; exact idsN_at _ _ q3
  rw [e1, e2, hlen]
  omega
section
variable {W0 W : World} {s : Sh} {c sn sw st : Int} {sh gv : List Int} {mb ob : Nat} {bx oc : Array Value} {vi vg vl vz vb : Value} {il gl : List Int} {L : List Cm} {nl nz nb : Nat} {ls zs bs : List Value}
theorem sq_step (h : Sq W0 W s mb bx c sn sh gv sw st vi il vg gl ob oc vl nl ls vz nz zs vb nb bs) (hg : GOk2 (two s.k) c sn gv) (hN : 1 ≤ two s.k ∧ two s.k ≤ 64) (hc2 : c ≤ 10000) (hgl : gv.length ≤ 20) (h0 : 0 ≤ st) (h1 : st ≤ 1000000) {x : Cm} (hx : TyF x.ts s.p x.t) (hok : HOk (two s.k) c sh.length gv x.t x.n x.b) :
    ∃ c2 sn2 sw2 t2, StepOk (two s.k) c sn sh gv x.t x.n x.b c2 sn2 t2 ∧ Calls Try.prog 107 #[.agg x.ts] W fun e w' => ∃ st' ts2, st ≤ st' ∧ st' ≤ st + 1 ∧ e = .returned (.tuple #[.agg ts2, .nilIface]) ∧ TyF ts2 s.p t2 ∧ Sq W0 w' s mb bx c2 sn2 sh gv sw2 st' vi il vg gl ob oc vl nl ls vz nz zs vb nb bs := by
  have hh : Lv (RP ((RS3 W0.heap.size vl nl ls vz nz zs vb nb bs).box W0.heap.size ob oc 162) W0.heap.size mb bx vi il vg gl (.slice none 0 0) []) W0 W s c sn sh gv sw st := h
  obtain ⟨c2, sn2, sw2, t2, hst, hsw, hs⟩ := share_step (sn := sn) (sh := sh) hg hN.1 hok hh.swc
  refine ⟨c2, sn2, sw2, t2, hs, ?_⟩
  refine (tstep_any hx hh.ms (hok_tok (sn := sn) hok hN.2 hg.c0 hc2 hgl) hh.cur hh.cch h0 (by omega)).mono ?_
  rintro e w' ⟨st', b1, b2, hd⟩
  rw [hst] at hd
  obtain ⟨ts2, rfl, hty, hms⟩ := hd
  exact ⟨st', ts2, b1, b2, rfl, hty, hms, hh.n, hh.cur, hh.cch, hh.f, hs.g.c0, hsw⟩
end
end Go.Proofs.Ytjadapjjilegnaa
namespace Go.Proofs.Ytjadapjjilegnaa
open Go.RowKit
set_option linter.unusedVariables false
set_option linter.unusedSimpArgs false

theorem sumG_nn : ∀ {L : List Cm}, (∀ x ∈ L, 0 ≤ gotN x) → 0 ≤ sumG L
  | [], _ => by simp [sumG]
  | x :: L, h => by
    have := sumG_nn (L := L) fun y hy => h y (List.mem_cons_of_mem _ hy)
    have := h x (by simp)
    simp only [sumG, List.map_cons, List.sum_cons] at *
    omega
theorem sumG_app (L M : List Cm) : sumG (L ++ M) = sumG L + sumG M := by simp [sumG]
theorem sumG_part {L : List Cm} (h : ∀ x ∈ L, 0 ≤ gotN x) (i : Nat) : 0 ≤ sumG (L.take i) ∧ sumG (L.take i) ≤ sumG L := by
  have h1 := sumG_nn (L := L.take i) fun x hx => h x (List.mem_of_mem_take hx)
  have h2 := sumG_nn (L := L.drop i) fun x hx => h x (List.mem_of_mem_drop hx)
  have h3 := sumG_app (L.take i) (L.drop i)
  rw [List.take_append_drop] at h3
  omega
theorem ShI.nn {p m K : Nat} {N c sn st T : Int} {gv : List Int} {L : List Cm} (h : ShI p N c sn K gv L st T m) : ∀ x ∈ L, 0 ≤ gotN x := fun x hx => by
  have := (h.ok x hx).n1
  unfold gotN
  split <;> omega
/-- What stands of a claim at the end. -/
theorem ShI.of {p m K : Nat} {N c sn st T : Int} {gv : List Int} {L : List Cm} (h : ShI p N c sn K gv L st T m) (hc : c ≤ 7680) (hN : N ≤ 64) {x : Cm} (hx : x ∈ L) :
    1 ≤ x.n ∧ x.n ≤ 64 ∧ ((x.t.stg = 6 ∧ 0 ≤ x.t.last ∧ x.t.last ≤ 7680 ∧ lastOf x.t.stg x.t.last = x.t.last ∧ gotN x = x.n) ∨ (x.t.stg ≠ 6 ∧ lastOf x.t.stg x.t.last = -1 ∧ gotN x = 0)) := by
  have ho := h.ok x hx
  have n1 := ho.n1
  have n2 := ho.n2
  refine ⟨n1, by omega, ?_⟩
  by_cases e : x.t.stg = 6
  · obtain ⟨q1, q2⟩ := ho.a6 e
    exact .inl ⟨e, by omega, by omega, by unfold lastOf; rw [if_pos e], by unfold gotN; rw [if_pos e]⟩
  · exact .inr ⟨e, by unfold lastOf; rw [if_neg e], by unfold gotN; rw [if_neg e]⟩
end Go.Proofs.Ytjadapjjilegnaa
