/-
  A ring of a room as a law sees it that claims and publishes in order, whatever the ring's kind: what its calls do. No condition: a structure of facts.
  A ring from which one claims, whom nobody holds back, or one who stands at -1, as a law sees it that claims and publishes in order. No condition but those that each theorem names.
  A ring from which many claim, whom nobody holds back, or one who stands at -1, as a law sees it that claims and publishes in order. No condition but those that each theorem names.
-/
import Derived.Test.YtjadapjjilegnaaGreatSh4
import Derived.Test.YtjadapjjilegnaaGreatTg
import Derived.Test.YtjadapjjilegnaaGreatRd0
set_option linter.unusedSimpArgs false
namespace Go.Proofs.YtjadapjjilegnaaGreat
open Go.RowKit
set_option linter.unusedVariables false

/-- S b lo hi: all below hi is claimed, all below lo is published, what is shown from b on isn't turned. T lo c j u: a claim of c behind lo, at most j steps from its end. -/
structure Kit (W0 : World) (r i0 : Nat) (N : Int) (ok : Int → Int → Bool) (S : Int → Int → Int → Rest → World → Prop) (T : Int → Int → Nat → Array Value → Rest → World → Prop) : Prop where
  sb : ∀ b lo hi, Bx W0 (S b lo hi)
  tb : ∀ lo c j u, Bx W0 (T lo c j u)
  sz : ∀ (lo c : Int) (j : Nat) (u : Array Value) (R : Rest) (w : World), T lo c j u R w → u.size = 82 ∧ u.all (·.oneCell') = true
  claim : ∀ (lo c : Int) (R : Rest) (w : World), S lo lo lo R w → 0 ≤ lo → lo ≤ 100000 → 1 ≤ c → c ≤ N → Calls Tryz.prog 24 #[.pointer (some ⟨r, 0, none⟩), .int .i64 i0, .int .i64 c] w fun e w' => ∃ u j, e = .returned (.tuple #[.agg u, .nilIface]) ∧ j ≤ 9 ∧ T lo c j u R w'
  done : ∀ (lo c : Int) (j : Nat) (u : Array Value) (R : Rest) (w w1 : World), T lo c j u R w → Calls Tryz.prog 25 #[.agg u] w1 fun e w' => e = .returned (.bool (decide (j = 0))) ∧ Below w1.heap.size w1 w'
  step : ∀ (lo c : Int) (j : Nat) (u : Array Value) (R : Rest) (w : World), T lo c (j + 1) u R w → Calls Tryz.prog 26 #[.agg u] w fun e w' => ∃ u' j', e = .returned (.tuple #[.agg u', .nilIface]) ∧ j' ≤ j ∧ T lo c j' u' R w'
  full : ∀ (lo c : Int) (u : Array Value) (R : Rest) (w w1 : World), T lo c 0 u R w → Calls Tryz.prog 27 #[.agg u] w1 fun e w' => e = .returned (.bool (!ok lo c)) ∧ Below w1.heap.size w1 w'
  last : ∀ (lo c : Int) (u : Array Value) (R : Rest) (w w1 : World), T lo c 0 u R w → ok lo c = true → Calls Tryz.prog 28 #[.agg u] w1 fun e w' => e = .returned (.int .i64 (lo + c - 1)) ∧ Below w1.heap.size w1 w'
  got : ∀ (lo c : Int) (u : Array Value) (R : Rest) (w : World), T lo c 0 u R w → ok lo c = true → S lo lo (lo + c) R w
  show' : ∀ (b lo hi : Int) (R : Rest) (w : World), S b lo hi R w → 0 ≤ b → b ≤ lo → lo < hi → hi ≤ 100100 → hi - b ≤ N → Calls Tryz.prog 29 #[.pointer (some ⟨r, 0, none⟩), .int .i64 i0, .int .i64 lo, .int .i64 (hi - 1)] w fun e w' => ∃ z, e = .returned (.tuple #[.int .i64 z, .nilIface]) ∧ lo < z ∧ z ≤ hi ∧ S b z hi R w'
  next : ∀ (b hi : Int) (R : Rest) (w : World), S b hi hi R w → b < hi → S hi hi hi R w
  low : ∀ (b lo hi : Int) (R : Rest) (w : World), S b lo hi R w → Below W0.heap.size W0 w
  pl : ∀ (b lo hi : Int) (R : Rest) (w : World), S b lo hi R w → ∀ k, R.prot k → k < w.heap.size
  tlow : ∀ (lo c : Int) (j : Nat) (u : Array Value) (R : Rest) (w : World), T lo c j u R w → Below W0.heap.size W0 w
end Go.Proofs.YtjadapjjilegnaaGreat
namespace Go.Proofs.YtjadapjjilegnaaGreat
open Go.RowKit
set_option linter.unusedVariables false

/-- Who holds back: nobody, or one by a cell. -/
def idsO : Option Nat → List Int
  | none => []
  | some d => [(d : Int)]
/-- Whether there is room. -/
def okO (N : Int) (q : Option Nat) (lo n : Int) : Bool := q.isNone || decide (lo + n ≤ N)
/-- What stays of the arena's cells while a ring's own ones turn. -/
structure OgJ (u : Nat) (q : Option Nat) (J : List Int → Prop) (X : List Int) (pub sn : Int) : Prop where
  cu : X[u]? = some pub
  jj : J X
  gt : ∀ d, q = some d → X[d]? = some (-1) ∧ d ≠ u ∧ sn = -1
  sn : sn ≤ pub
section
variable (W0 : World) (f : Rest → Rest) (J : List Int → Prop) (E : Int) (q : Option Nat) (p a k u : Nat)
/-- All below hi is claimed, all below lo is published. -/
def OgS (b lo hi : Int) (R : Rest) (w : World) : Prop :=
  ∃ (X : List Int) (sn sc st : Int), (0 ≤ b ∧ b ≤ lo ∧ lo ≤ hi ∧ 0 ≤ sc ∧ sc ≤ hi ∧ 0 ≤ st ∧ st ≤ E + 2000000 * b + 60 * (hi - b) + (lo - b) + 10 ∧ OgJ u q J X (lo - 1) sn) ∧ Sg (f R) W0 w p a k u (idsO q) (hi - 1) (lo - 1) sn sc X st
/-- A claim's cells at each step. -/
def OgC (lo n : Int) (j : Nat) (u1 v : Array Value) (cl : Int) : Prop :=
  v = clA false u1 tyz ∧ ((j = 0 ∧ okO (two k) q lo n = true ∧ TsD u1 (lo - 1 + n) true false ∧ cl = lo - 1 + n) ∨ (j = 0 ∧ okO (two k) q lo n = false ∧ TsD u1 0 false true ∧ cl = lo - 1) ∨ (j = 1 ∧ okO (two k) q lo n = false ∧ TsF u1 p (lo - 1) (lo - 1 + n) true (idsO q) 0 (lo - 1) ∧ cl = lo - 1) ∨ (j = 2 ∧ okO (two k) q lo n = false ∧ TsF u1 p (lo - 1) (lo - 1 + n) false [] 0 0 ∧ cl = lo - 1) ∨ (j = 1 ∧ q = none ∧ TsF u1 p (lo - 1) (lo - 1 + n) false [] 0 0 ∧ cl = lo - 1))
def OgT (lo n : Int) (j : Nat) (v : Array Value) (R : Rest) (w : World) : Prop :=
  ∃ (u1 : Array Value) (X : List Int) (cl sn sc st : Int), (OgC q p k lo n j u1 v cl ∧ 0 ≤ lo ∧ lo ≤ 100000 ∧ 1 ≤ n ∧ n ≤ two k ∧ 0 ≤ sc ∧ sc ≤ lo + n ∧ 0 ≤ st ∧ st + j ≤ E + 2000000 * lo + 50 ∧ OgJ u q J X (lo - 1) sn) ∧ Sg (f R) W0 w p a k u (idsO q) cl (lo - 1) sn sc X st
/-- What is known of what stands beside it. -/
structure OgH (r i0 g : Nat) (sl uu : Value) : Prop where
  bm : ∀ (ids : List Int) (cl pub sn sc : Int) (X : List Int) (st : Int), Bx W0 fun R w => Sg (f R) W0 w p a k u ids cl pub sn sc X st
  at' : ∀ (R : Rest) (w : World), (f R).inv w → ∃ n cap rg, RgAt w r i0 g n cap rg sl (.pointer (some ⟨p, 0, none⟩)) (.pointer none) uu
  jset : ∀ (X : List Int) (x : Int), J X → J (X.set u x)
  pr : ∀ (R : Rest) (k : Nat), R.prot k → (f R).prot k
  k20 : k ≤ 20
end

theorem bx_ex {W0 : World} {ι : Type} {P : ι → Rest → World → Prop} (hB : ∀ i, Bx W0 (P i)) : Bx W0 fun R w => ∃ i, P i R w where
  keep h hb := h.elim fun i h => ⟨i, (hB i).keep h hb⟩
  inv h := h.elim fun i h => (hB i).inv h
  new bx V h := h.elim fun i h => ⟨i, (hB i).new bx V h⟩
  turn hU h hf hb := h.elim fun i h => ⟨i, (hB i).turn hU h hf hb⟩
  le h hp hi := h.elim fun i h => ⟨i, (hB i).le h hp hi⟩
theorem bx_and {W0 : World} {Pd : Rest → World → Prop} (C : Prop) (hB : Bx W0 Pd) : Bx W0 fun R w => C ∧ Pd R w where
  keep h hb := ⟨h.1, hB.keep h.2 hb⟩
  inv h := hB.inv h.2
  new bx V h := ⟨h.1, hB.new bx V h.2⟩
  turn hU h hf hb := ⟨h.1, hB.turn hU h.2 hf hb⟩
  le h hp hi := ⟨h.1, hB.le h.2 hp hi⟩

section
variable {W0 : World} {f : Rest → Rest} {J : List Int → Prop} {E : Int} {q : Option Nat} {p a k u r i0 g : Nat} {sl uu : Value}
theorem OgJ.pubd {X : List Int} {pub sn x : Int} (h : OgJ u q J X pub sn) (hj : ∀ (X : List Int) (x : Int), J X → J (X.set u x)) (hx : pub ≤ x) : OgJ u q J (X.set u x) x sn := by
  have hl := (List.getElem?_eq_some_iff.1 h.cu).1
  refine ⟨by rw [List.getElem?_set_self hl], hj _ _ h.jj, fun d hd => ?_, by have := h.sn; omega⟩
  obtain ⟨h1, h2, h3⟩ := h.gt d hd
  exact ⟨by rw [List.getElem?_set_ne (Ne.symm h2)]; exact h1, h2, h3⟩
theorem OgH.find (h : OgH W0 f J p a k u r i0 g sl uu) {R : Rest} {w : World} (op : ByteArray) (hi : (f R).inv w) : Calls Tryz.prog 69 #[.pointer (some ⟨r, 0, none⟩), .string op, .int .i64 i0] w fun e w' => e = .returned (.tuple #[.pointer (some ⟨g, 0, none⟩), .nilIface]) ∧ Below w.heap.size w w' := by
  obtain ⟨n, cap, rg, hr⟩ := h.at' R w hi
  exact find_at op hr
theorem OgH.cells (h : OgH W0 f J p a k u r i0 g sl uu) {R : Rest} {w : World} (hi : (f R).inv w) : w.heap[g]? = some (.cells #[sl, .pointer (some ⟨p, 0, none⟩), .pointer none, uu] 149 (0, 0)) := by
  obtain ⟨n, cap, rg, hr⟩ := h.at' R w hi
  exact hr.rn
theorem OgH.ring (h : OgH W0 f J p a k u r i0 g sl uu) {R : Rest} {w : World} (hi : (f R).inv w) : w.cell? ⟨g, 1, none⟩ = some (.pointer (some ⟨p, 0, none⟩)) ∧ w.cell? ⟨g, 2, none⟩ = some (.pointer none) :=
  ⟨(obj_cell (h.cells hi) 1).trans rfl, (obj_cell (h.cells hi) 2).trans rfl⟩
theorem tyz_size : tyz.size = 40 := tyz_f.size
/-- A state of a sequencer of one is such a state. -/
theorem sg_bx2 (ids : List Int) (cl pub sn sc : Int) (X : List Int) (st : Int) : Bx W0 fun R w => Sg R W0 w p a k u ids cl pub sn sc X st := sg_bx W0 p a k u ids cl pub sn sc X st
theorem okO_yes {N lo n : Int} (h : okO N q lo n = true) : q = none ∨ lo + n ≤ N := by
  unfold okO at h
  cases q with
  | none => exact .inl rfl
  | some d => exact .inr (by simpa using h)
theorem okO_no {N lo n : Int} (h : okO N q lo n = false) : (∃ d, q = some d) ∧ ¬ lo + n ≤ N := by
  unfold okO at h
  cases q with
  | none => simp at h
  | some d => exact ⟨⟨d, rfl⟩, by simpa using h⟩

theorem og_claim (H : OgH W0 f J p a k u r i0 g sl uu) (hE0 : 0 ≤ E) (hE1 : E ≤ 1000000) {R : Rest} {w : World} {lo n : Int} (h : OgS W0 f J E q p a k u lo lo lo R w) (h0 : 0 ≤ lo) (h1 : lo ≤ 100000) (h2 : 1 ≤ n) (h3 : n ≤ two k) :
    Calls Tryz.prog 24 #[.pointer (some ⟨r, 0, none⟩), .int .i64 i0, .int .i64 n] w fun e w' => ∃ v j, e = .returned (.tuple #[.agg v, .nilIface]) ∧ j ≤ 9 ∧ OgT W0 f J E q p a k u lo n j v R w' := by
  obtain ⟨X, sn, sc, st, ⟨q0, q1, q2, q3, q4, q5, q6, hJ⟩, hp⟩ := h
  have hk := H.k20
  have t1 := two_le hk
  by_cases hen : lo - 1 + n - two k ≤ sn
  · have hok : okO (two k) q lo n = true := by
      unfold okO
      cases q with
      | none => rfl
      | some d =>
        have := (hJ.gt d rfl).2.2
        simp
        omega
    refine (rclaim_one (R := f R) (D := fun u1 => TsD u1 (lo - 1 + n) true false) (Pd := fun R w => Sg R W0 w p a k u (idsO q) (lo - 1) (lo - 1) sn sc X st) (Pe := fun R w => Sg R W0 w p a k u (idsO q) (lo - 1 + n) (lo - 1) sn sc X st) (sg_bx2 _ _ _ _ _ _ _) (sg_bx2 _ _ _ _ _ _ _) hp n (fun op w hi => H.find op hi) (fun w hi => H.ring hi) (fun R w hw => gtry_got hw hk n h2 h3 (by omega) (by omega) (by omega)) (fun u1 hu => ⟨hu.size, hu.one⟩)).mono ?_
    rintro e w' ⟨u1, rfl, hd, he⟩
    exact ⟨_, 0, rfl, by omega, u1, X, lo - 1 + n, sn, sc, st, ⟨⟨rfl, .inl ⟨rfl, hok, hd, rfl⟩⟩, h0, h1, h2, h3, q3, by omega, q5, by omega, hJ⟩, he⟩
  · refine (rclaim_one (R := f R) (D := fun u1 => TsF u1 p (lo - 1) (lo - 1 + n) false [] 0 0) (Pd := fun R w => Sg R W0 w p a k u (idsO q) (lo - 1) (lo - 1) sn sc X st) (Pe := fun R w => Sg R W0 w p a k u (idsO q) (lo - 1) (lo - 1) sn (sc + 1) X st) (sg_bx2 _ _ _ _ _ _ _) (sg_bx2 _ _ _ _ _ _ _) hp n (fun op w hi => H.find op hi) (fun w hi => H.ring hi) (fun R w hw => gtry_scan hw hk n h2 h3 (by omega) (by omega) hen q3 (by omega)) (fun u1 hu => ⟨hu.size, hu.one⟩)).mono ?_
    rintro e w' ⟨u1, rfl, hd, he⟩
    cases hq : q with
    | none =>
      subst hq
      exact ⟨_, 1, rfl, by omega, u1, X, lo - 1, sn, sc + 1, st, ⟨⟨rfl, .inr (.inr (.inr (.inr ⟨rfl, rfl, hd, rfl⟩)))⟩, h0, h1, h2, h3, by omega, by omega, q5, by omega, hJ⟩, he⟩
    | some d =>
      subst hq
      have hs := (hJ.gt d rfl).2.2
      have hno : okO (two k) (some d) lo n = false := by
        unfold okO
        simp
        omega
      exact ⟨_, 2, rfl, by omega, u1, X, lo - 1, sn, sc + 1, st, ⟨⟨rfl, .inr (.inr (.inr (.inl ⟨rfl, hno, hd, rfl⟩)))⟩, h0, h1, h2, h3, by omega, by omega, q5, by omega, hJ⟩, he⟩
theorem og_step (H : OgH W0 f J p a k u r i0 g sl uu) (hE0 : 0 ≤ E) (hE1 : E ≤ 1000000) {R : Rest} {w : World} {lo n : Int} {j : Nat} {v : Array Value} (h : OgT W0 f J E q p a k u lo n (j + 1) v R w) :
    Calls Tryz.prog 26 #[.agg v] w fun e w' => ∃ v' j', e = .returned (.tuple #[.agg v', .nilIface]) ∧ j' ≤ j ∧ OgT W0 f J E q p a k u lo n j' v' R w' := by
  obtain ⟨u1, X, cl, sn, sc, st, ⟨⟨rfl, hc⟩, h0, h1, h2, h3, h4, h5, h6, h7, hJ⟩, hp⟩ := h
  have hk := H.k20
  have t1 := two_le hk
  rcases hc with ⟨e, _⟩ | ⟨e, _⟩ | ⟨e, hok, hf, rfl⟩ | ⟨e, hok, hf, rfl⟩ | ⟨e, hq, hf, rfl⟩
  · omega
  · omega
  · obtain ⟨⟨d, rfl⟩, hno⟩ := okO_no hok
    obtain ⟨hd1, hd2, hd3⟩ := hJ.gt d rfl
    subst hd3
    refine (cstep_one (R := f R) (D := fun u1 => TsD u1 0 false true) (Pd := fun R w => Sg R W0 w p a k u (idsO (some d)) (lo - 1) (lo - 1) (-1) sc X st) (Pe := fun R w => Sg R W0 w p a k u (idsO (some d)) (lo - 1) (lo - 1) (-1) sc X (st + 1)) (sg_bx2 _ _ _ _ _ _ _) (sg_bx2 _ _ _ _ _ _ _) hf.size tyz_size hf.one tyz_f.one hp (fun R w hw => ?_) (fun u1 hu => ⟨hu.size, hu.one, _, fun w => glast_no hu.c39 w⟩)).mono ?_
    · have hmin : min (lo - 1) (-1) = -1 := by omega
      have := gstep_last_full (x := -1) (z := d) hf hw hk (by simp [idsO]) rfl rfl hd1 (by rw [hmin]; omega) h6 (by omega) (by omega) (by omega)
      rw [hmin] at this
      exact this
    · rintro e w' ⟨u1, rfl, hd, he⟩
      exact ⟨_, 0, rfl, by omega, u1, X, lo - 1, -1, sc, st + 1, ⟨⟨rfl, .inr (.inl ⟨rfl, hok, hd, rfl⟩)⟩, h0, h1, h2, h3, h4, h5, by omega, by omega, hJ⟩, he⟩
  · obtain ⟨⟨d, rfl⟩, hno⟩ := okO_no hok
    refine (cstep_one (R := f R) (D := fun u1 => TsF u1 p (lo - 1) (lo - 1 + n) true (idsO (some d)) 0 (lo - 1)) (Pd := fun R w => Sg R W0 w p a k u (idsO (some d)) (lo - 1) (lo - 1) sn sc X st) (Pe := fun R w => Sg R W0 w p a k u (idsO (some d)) (lo - 1) (lo - 1) sn sc X (st + 1)) (sg_bx2 _ _ _ _ _ _ _) (sg_bx2 _ _ _ _ _ _ _) hf.size tyz_size hf.one tyz_f.one hp (fun R w hw => gstep_begin hf hw hJ.cu h6 (by omega)) (fun u1 hu => ⟨hu.size, hu.one, _, fun w => glast_no hu.c39 w⟩)).mono ?_
    rintro e w' ⟨u1, rfl, hd, he⟩
    exact ⟨_, 1, rfl, by omega, u1, X, lo - 1, sn, sc, st + 1, ⟨⟨rfl, .inr (.inr (.inl ⟨rfl, hok, hd, rfl⟩))⟩, h0, h1, h2, h3, h4, h5, by omega, by omega, hJ⟩, he⟩
  · subst hq
    refine (cstep_one (R := f R) (D := fun u1 => TsD u1 (lo - 1 + n) true false) (Pd := fun R w => Sg R W0 w p a k u (idsO none) (lo - 1) (lo - 1) sn sc X st) (Pe := fun R w => Sg R W0 w p a k u (idsO none) (lo - 1 + n) (lo - 1) (lo - 1) sc X (st + 1)) (sg_bx2 _ _ _ _ _ _ _) (sg_bx2 _ _ _ _ _ _ _) hf.size tyz_size hf.one tyz_f.one hp (fun R w hw => gstep_alone hf hw hk hJ.cu (by omega) h6 (by omega) (by omega) (by omega)) (fun u1 hu => ⟨hu.size, hu.one, _, fun w => glast_yes hu.c2 hu.c39 w⟩)).mono ?_
    rintro e w' ⟨u1, rfl, hd, he⟩
    exact ⟨_, 0, rfl, by omega, u1, X, lo - 1 + n, lo - 1, sc, st + 1, ⟨⟨rfl, .inl ⟨rfl, rfl, hd, rfl⟩⟩, h0, h1, h2, h3, h4, h5, by omega, by omega, hJ.cu, hJ.jj, fun d hd => (by cases hd), Int.le_refl _⟩, he⟩

theorem og_kit (H : OgH W0 f J p a k u r i0 g sl uu) (hE0 : 0 ≤ E) (hE1 : E ≤ 1000000) : Kit W0 r i0 (two k) (okO (two k) q) (OgS W0 f J E q p a k u) (OgT W0 f J E q p a k u) where
  sb b lo hi := bx_ex fun X => bx_ex fun sn => bx_ex fun sc => bx_ex fun st => bx_and _ (H.bm _ _ _ _ _ _ _)
  tb lo n j v := bx_ex fun u1 => bx_ex fun X => bx_ex fun cl => bx_ex fun sn => bx_ex fun sc => bx_ex fun st => bx_and _ (H.bm _ _ _ _ _ _ _)
  sz lo n j v R w h := by
    obtain ⟨u1, X, cl, sn, sc, st, ⟨⟨rfl, hc⟩, _⟩, _⟩ := h
    rcases hc with ⟨_, _, hf, _⟩ | ⟨_, _, hf, _⟩ | ⟨_, _, hf, _⟩ | ⟨_, _, hf, _⟩ | ⟨_, _, hf, _⟩ <;> exact ⟨clA_size hf.size tyz_size, clA_one hf.one tyz_f.one⟩
  claim lo n R w h h0 h1 h2 h3 := og_claim H hE0 hE1 h h0 h1 h2 h3
  done lo n j v R w w1 h := by
    obtain ⟨u1, X, cl, sn, sc, st, ⟨⟨rfl, hc⟩, _⟩, _⟩ := h
    rcases hc with ⟨rfl, _, hf, _⟩ | ⟨rfl, _, hf, _⟩ | ⟨rfl, _, hf, _⟩ | ⟨rfl, _, hf, _⟩ | ⟨rfl, _, hf, _⟩
    · exact cdone_one hf.size tyz_size (fun w => gdone_yes hf.c0 w) w1
    · exact cdone_one hf.size tyz_size (fun w => gdone_yes hf.c0 w) w1
    · exact cdone_one hf.size tyz_size (fun w => gdone_no hf.c0 w) w1
    · exact cdone_one hf.size tyz_size (fun w => gdone_no hf.c0 w) w1
    · exact cdone_one hf.size tyz_size (fun w => gdone_no hf.c0 w) w1
  step lo n j v R w h := og_step H hE0 hE1 h
  full lo n v R w w1 h := by
    obtain ⟨u1, X, cl, sn, sc, st, ⟨⟨rfl, hc⟩, _⟩, _⟩ := h
    rcases hc with ⟨_, hok, hf, _⟩ | ⟨_, hok, hf, _⟩ | ⟨e, _⟩ | ⟨e, _⟩ | ⟨e, _⟩
    · rw [hok]
      exact cfull_one hf.size tyz_size (fun w => gfull hf.c40 w) w1
    · rw [hok]
      exact cfull_one hf.size tyz_size (fun w => gfull hf.c40 w) w1
    · omega
    · omega
    · omega
  last lo n v R w w1 h hok := by
    obtain ⟨u1, X, cl, sn, sc, st, ⟨⟨rfl, hc⟩, _⟩, _⟩ := h
    rcases hc with ⟨_, _, hf, _⟩ | ⟨_, hno, _⟩ | ⟨e, _⟩ | ⟨e, _⟩ | ⟨e, _⟩
    · rw [show lo + n - 1 = lo - 1 + n by omega]
      exact clast_one hf.size tyz_size (fun w => glast_yes hf.c2 hf.c39 w) w1
    · rw [hok] at hno; cases hno
    · omega
    · omega
    · omega
  got lo n v R w h hok := by
    obtain ⟨u1, X, cl, sn, sc, st, ⟨⟨rfl, hc⟩, h0, h1, h2, h3, h4, h5, h6, h7, hJ⟩, hp⟩ := h
    rcases hc with ⟨_, _, hf, rfl⟩ | ⟨_, hno, _⟩ | ⟨e, _⟩ | ⟨e, _⟩ | ⟨e, _⟩
    · exact ⟨X, sn, sc, st, ⟨h0, by omega, by omega, h4, h5, h6, by omega, hJ⟩, by rw [show lo + n - 1 = lo - 1 + n by omega]; exact hp⟩
    · rw [hok] at hno; cases hno
    · omega
    · omega
    · omega
  show' b lo hi R w h h0 h1 h2 h3 h4 := by
    obtain ⟨X, sn, sc, st, ⟨q0, q1, q2, q3, q4, q5, q6, hJ⟩, hp⟩ := h
    have hl := (List.getElem?_eq_some_iff.1 hJ.cu).1
    refine (rshow_any (R := f R) (Pd := fun R w => Sg R W0 w p a k u (idsO q) (hi - 1) (lo - 1) sn sc X st) (Pe := fun R w => Sg R W0 w p a k u (idsO q) (hi - 1) (hi - 1) sn sc (X.set u (hi - 1)) (st + 1)) (g := g) (sg_bx2 _ _ _ _ _ _ _) hp lo (hi - 1) (hi - 1) (by omega) (by omega) (by omega) (fun op w hi => H.find op hi) (fun w hi => H.cells hi) (fun w hw => one_publish _ _ hw lo (hi - 1) (by omega) (by omega) hl q5 (by omega))).mono ?_
    rintro e w' ⟨rfl, he⟩
    exact ⟨hi, by rw [show hi - 1 + 1 = hi by omega], h2, Int.le_refl _, X.set u (hi - 1), sn, sc, st + 1, ⟨q0, by omega, Int.le_refl _, q3, q4, by omega, by omega, hJ.pubd H.jset (by omega)⟩, he⟩
  next b hi R w h hb := by
    obtain ⟨X, sn, sc, st, ⟨q0, q1, q2, q3, q4, q5, q6, hJ⟩, hp⟩ := h
    exact ⟨X, sn, sc, st, ⟨by omega, Int.le_refl _, Int.le_refl _, q3, q4, q5, by omega, hJ⟩, hp⟩
  low b lo hi R w h := by
    obtain ⟨X, sn, sc, st, _, hp⟩ := h
    exact Sg.below hp
  pl b lo hi R w h x hx := by
    obtain ⟨X, sn, sc, st, _, hp⟩ := h
    exact Sg.prot_lt hp (H.pr _ _ hx)
  tlow lo n j v R w h := by
    obtain ⟨u1, X, cl, sn, sc, st, _, hp⟩ := h
    exact Sg.below hp
end
end Go.Proofs.YtjadapjjilegnaaGreat
namespace Go.Proofs.YtjadapjjilegnaaGreat
open Go.RowKit
set_option linter.unusedVariables false

/-! Cells that are set, and what is shown -/
section
variable {X ids : List Int} {f k h : Nat} {x y s b lo : Int}
theorem valsOf_set (hn : ∀ i ∈ ids, i.toNat ≠ h) : valsOf (X.set h x) ids = valsOf X ids := by
  unfold valsOf
  refine List.map_congr_left fun i hi => ?_
  simp only [List.getD]
  rw [List.getElem?_set_ne (Ne.symm (hn i hi))]
theorem shownB_out (hh : h < f ∨ ∀ i : Nat, (i : Int) < two k → h ≠ f + i) : shownB (X.set h x) f k s = shownB X f k s := by
  obtain ⟨i, hi, hil⟩ := mod_nat k s
  have hne : h ≠ f + i := hh.elim (fun e => by omega) (fun e => e i hil)
  unfold shownB
  rw [hi]
  simp only [Int.toNat_natCast, List.getD]
  rw [List.getElem?_set_ne hne]
/-- One more is shown; those that are less than a size behind stay so. -/
theorem show_more (hl : f + two k ≤ (X.length : Int)) (hw : ∀ z, b ≤ z → z < lo → shownB X f k z = true) (hb : lo - b < two k) : ∀ z, b ≤ z → z < lo + 1 → shownB (showN X f k lo 1) f k z = true := by
  intro z h1 h2
  by_cases e : z = lo
  · subst e
    have := showN_get X f k z hl 1 0 (by decide) (by have := two_pos k; omega)
    simpa using this
  · obtain ⟨i, hi, hil⟩ := mod_nat k z
    obtain ⟨i2, hi2, hil2⟩ := mod_nat k lo
    have hne : i2 ≠ i := fun e2 => by
      have := (same_slot (k := k) (s := z) (t := lo) (by rw [hi, hi2, e2]) (by omega)).2
      omega
    have hz := hw z h1 (by omega)
    have hs : showN X f k lo 1 = X.set (f + i2) (lo / two k) := by simp [showN, hi2]
    rw [hs]
    unfold shownB at hz ⊢
    rw [hi] at hz ⊢
    simp only [Int.toNat_natCast, List.getD] at hz ⊢
    rw [List.getElem?_set_ne (by omega)]
    exact hz
theorem showN_one (X : List Int) (f k : Nat) (lo : Int) : ∃ i : Nat, (i : Int) < two k ∧ showN X f k lo 1 = X.set (f + i) (lo / two k) := by
  obtain ⟨i2, hi2, hil2⟩ := mod_nat k lo
  exact ⟨i2, hil2, by simp [showN, hi2]⟩
end

section
variable (W0 : World) (f : Rest → Rest) (J : List Int → Prop) (E : Int) (q : Option Nat) (s : Sh)
/-- What is known of the arena's cells. -/
structure MgJ (b lo c : Int) (X : List Int) (sn sw : Int) : Prop where
  ok : XOk s.cur s.cch X (idsO q) c sn
  snc : sn ≤ c
  swc : sw ≤ c
  gt : ∀ d, q = some d → X[d]? = some (-1) ∧ sn = -1
  fl : s.f + two s.k ≤ (X.length : Int)
  xl : (X.length : Int) ≤ 2097152
  jj : J X
  sh : ∀ z, b ≤ z → z < lo → shownB X s.f s.k z = true
/-- Where the sequencer's cells are, and whoever else's. -/
structure MgA : Prop where
  uf : s.cur < s.f
  hf : s.cch < s.f
  ne : s.cur ≠ s.cch
  gd : ∀ d, q = some d → d ≠ s.cur ∧ d ≠ s.cch ∧ ∀ i : Nat, (i : Int) < two s.k → d ≠ s.f + i
  ju : ∀ (X : List Int) (x : Int), J X → J (X.set s.cur x)
  jh : ∀ (X : List Int) (x : Int), J X → J (X.set s.cch x)
  js : ∀ (X : List Int) (x : Int) (i : Nat), (i : Int) < two s.k → J X → J (X.set (s.f + i) x)
/-- All below hi is claimed, all below lo is published. -/
def MgS (b lo hi : Int) (R : Rest) (w : World) : Prop :=
  ∃ (X : List Int) (sn sw st : Int), (0 ≤ b ∧ b ≤ lo ∧ lo ≤ hi ∧ 0 ≤ st ∧ st ≤ E + 2000000 * b + 60 * (hi - b) + (lo - b) + 10 ∧ MgJ J q s b lo (hi - 1) X sn sw) ∧ Ms (f R) W0 w s (idsO q) sw X st
/-- A claim under way. -/
def MgT (lo n : Int) (j : Nat) (v : Array Value) (R : Rest) (w : World) : Prop :=
  ∃ (ts : Array Value) (t : Tr) (X xs : List Int) (sn sw0 sw st : Int), (v = clA true tsZ ts ∧ TyF ts s.p t ∧ CG (two s.k) s.cur s.cch X (idsO q) (lo - 1) sn n sw0 xs sw t ∧ farT (idsO q).length t = j ∧ 0 ≤ lo ∧ lo ≤ 100000 ∧ 1 ≤ n ∧ n ≤ two s.k ∧ 0 ≤ st ∧ st + j ≤ E + 2000000 * lo + 50 ∧ MgJ J q s lo lo (lo - 1) X sn sw0) ∧ Ms (f R) W0 w s (idsO q) sw xs st
structure MgH (r i0 g : Nat) (sl o uu : Value) : Prop where
  bm : ∀ (ids : List Int) (sw : Int) (X : List Int) (st : Int), Bx W0 fun R w => Ms (f R) W0 w s ids sw X st
  at' : ∀ (R : Rest) (w : World), (f R).inv w → ∃ n cap rg, RgAt w r i0 g n cap rg sl o (.pointer (some ⟨s.p, 0, none⟩)) uu
  pr : ∀ (R : Rest) (k : Nat), R.prot k → (f R).prot k
  k20 : s.k ≤ 20
  ar : MgA J q s
end

section
variable {W0 : World} {f : Rest → Rest} {J : List Int → Prop} {E : Int} {q : Option Nat} {s : Sh} {r i0 g : Nat} {sl o uu : Value}
theorem idsO_len (q : Option Nat) : (idsO q).length ≤ 1 := by cases q <;> simp [idsO]
theorem MgH.find (h : MgH W0 f J q s r i0 g sl o uu) {R : Rest} {w : World} (op : ByteArray) (hi : (f R).inv w) : Calls Tryz.prog 69 #[.pointer (some ⟨r, 0, none⟩), .string op, .int .i64 i0] w fun e w' => e = .returned (.tuple #[.pointer (some ⟨g, 0, none⟩), .nilIface]) ∧ Below w.heap.size w w' := by
  obtain ⟨n, cap, rg, hr⟩ := h.at' R w hi
  exact find_at op hr
theorem MgH.cells (h : MgH W0 f J q s r i0 g sl o uu) {R : Rest} {w : World} (hi : (f R).inv w) : w.heap[g]? = some (.cells #[sl, o, .pointer (some ⟨s.p, 0, none⟩), uu] 149 (0, 0)) := by
  obtain ⟨n, cap, rg, hr⟩ := h.at' R w hi
  exact hr.rn
theorem MgH.ring (h : MgH W0 f J q s r i0 g sl o uu) {R : Rest} {w : World} (hi : (f R).inv w) : w.cell? ⟨g, 2, none⟩ = some (.pointer (some ⟨s.p, 0, none⟩)) := (obj_cell (h.cells hi) 2).trans rfl
/-- What room there is, in the code's words and in plain ones. -/
theorem okP_iff {b lo n sn sw : Int} {X : List Int} (h : MgJ J q s b lo (lo - 1) X sn sw) (h0 : 0 ≤ lo) (hn : n ≤ two s.k) : okP (two s.k) (lo - 1) sn n (valsOf X (idsO q)) ↔ okO (two s.k) q lo n = true := by
  unfold okP enoughP okO
  cases q with
  | none =>
    simp only [idsO, valsOf, List.map_nil, leastP, List.foldl_nil, Option.isNone_none, Bool.true_or, iff_true]
    exact .inr (by omega)
  | some d =>
    obtain ⟨h1, h2⟩ := h.gt d rfl
    have hv : valsOf X (idsO (some d)) = [-1] := by simp [valsOf, idsO, List.getD, h1]
    rw [hv]
    simp only [leastP, List.foldl_cons, List.foldl_nil, Option.isNone_some, Bool.false_or, decide_eq_true_eq]
    have : min (lo - 1) (-1) = -1 := by omega
    rw [this]
    omega
theorem mg_claim (H : MgH W0 f J q s r i0 g sl o uu) (hE0 : 0 ≤ E) (hE1 : E ≤ 1000000) {R : Rest} {w : World} {lo n : Int} (h : MgS W0 f J E q s lo lo lo R w) (h0 : 0 ≤ lo) (h1 : lo ≤ 100000) (h2 : 1 ≤ n) (h3 : n ≤ two s.k) :
    Calls Tryz.prog 24 #[.pointer (some ⟨r, 0, none⟩), .int .i64 i0, .int .i64 n] w fun e w' => ∃ v j, e = .returned (.tuple #[.agg v, .nilIface]) ∧ j ≤ 9 ∧ MgT W0 f J E q s lo n j v R w' := by
  obtain ⟨X, sn, sw, st, ⟨q0, q1, q2, q3, q4, hJ⟩, hp⟩ := h
  have hk := H.k20
  refine (rclaim_all (R := f R) (D := fun u => TyF u s.p (tr0 n)) (Pd := fun R w => Ms R W0 w s (idsO q) sw X st) (Pe := fun R w => Ms R W0 w s (idsO q) sw X st) (ms_bx _ _ _ _ _ _) (ms_bx _ _ _ _ _ _) hp n (fun op w hi => H.find op hi) (fun w hi => H.ring hi) (fun R w hw => (mtry_ok hw.c hk n h2 h3).mono fun e w' ⟨ts, he, hf, hb⟩ => ⟨ts, he, hf, hw.keep hb⟩) (fun u hu => ⟨hu.size, hu.one⟩)).mono ?_
  rintro e w' ⟨ts, rfl, hf, he⟩
  have hl := idsO_len q
  have hf0 : farT (idsO q).length (tr0 n) = (idsO q).length + 5 := by simp [farT, tr0]
  exact ⟨_, (idsO q).length + 5, rfl, by omega, ts, tr0 n, X, X, sn, sw, sw, st, ⟨rfl, hf, CG.start sw (by omega) h2, hf0, h0, h1, h2, h3, q3, by omega, hJ⟩, he⟩
theorem mg_step (H : MgH W0 f J q s r i0 g sl o uu) (hE0 : 0 ≤ E) (hE1 : E ≤ 1000000) {R : Rest} {w : World} {lo n : Int} {j : Nat} {v : Array Value} (h : MgT W0 f J E q s lo n (j + 1) v R w) :
    Calls Tryz.prog 26 #[.agg v] w fun e w' => ∃ v' j', e = .returned (.tuple #[.agg v', .nilIface]) ∧ j' ≤ j ∧ MgT W0 f J E q s lo n j' v' R w' := by
  obtain ⟨ts, t, X, xs, sn, sw0, sw, st, ⟨rfl, hty, hcg, hfar, h0, h1, h2, h3, h4, h5, hJ⟩, hp⟩ := h
  have hk := H.k20
  have t1 := two_le hk
  have hu := hcg.under (by omega)
  have hok := hcg.ok hJ.ok (by omega) (by omega) h2 (by omega) hu.1
  have hfr := hcg.far hJ.ok hu.1
  have hst := hcg.step hJ.ok (by omega) h2
  refine (cstep_all (R := f R) (D := fun u => TyF u s.p (stepG s.cur s.cch (two s.k) (idsO q) xs sw t).2.2) (Pd := fun R w => Ms R W0 w s (idsO q) sw xs st) (Pe := fun R w => ∃ st', (st ≤ st' ∧ st' ≤ st + 1) ∧ Ms R W0 w s (idsO q) (stepG s.cur s.cch (two s.k) (idsO q) xs sw t).2.1 (stepG s.cur s.cch (two s.k) (idsO q) xs sw t).1 st') (ms_bx _ _ _ _ _ _) (bx_ex fun _ => bx_and _ (ms_bx _ _ _ _ _ _)) tsZ_size hty.size tsZ_one hty.one hp (fun R w hw => (tstep_gen hty hw hok h4 (by omega)).mono fun e w' ⟨st', a1, a2, ts', he, hf, hm⟩ => ⟨ts', he, hf, st', ⟨a1, a2⟩, hm⟩) (fun u hu => ⟨hu.size, hu.one, _, fun w => tlast hu.c2 hu.c4 w⟩)).mono ?_
  rintro e w' ⟨ts', rfl, hf, st', ⟨a1, a2⟩, he⟩
  exact ⟨_, farT (idsO q).length (stepG s.cur s.cch (two s.k) (idsO q) xs sw t).2.2, rfl, by omega, ts', _, X, _, sn, sw0, _, st', ⟨rfl, hf, hst, rfl, h0, h1, h2, h3, by omega, by omega, hJ⟩, he⟩
/-- The cells behind a claim that got its indexes. -/
theorem MgJ.got {lo n sn sw sn' : Int} {X : List Int} (hA : MgA J q s) (h : MgJ J q s lo lo (lo - 1) X sn sw) (h0 : 0 ≤ lo) (hn : 1 ≤ n) (hs : sn' ≤ lo - 1) (hd : ∀ d, q = some d → sn' = -1) : MgJ J q s lo lo (lo - 1 + n) ((X.set s.cch sn').set s.cur (lo - 1 + n)) sn' (lo - 1 + n) := by
  have hlu := (List.getElem?_eq_some_iff.1 h.ok.cu).1
  have hlh := (List.getElem?_eq_some_iff.1 h.ok.ch).1
  refine ⟨⟨by rw [List.getElem?_set_self (by simpa using hlu)], by rw [List.getElem?_set_ne hA.ne, List.getElem?_set_self hlh], h.ok.ne, h.ok.ln, fun j hj => by simpa using h.ok.at' j hj⟩, by omega, Int.le_refl _, fun d e => ⟨?_, hd d e⟩, by simpa using h.fl, by simpa using h.xl, hA.ju _ _ (hA.jh _ _ h.jj), fun z h1 h2 => by omega⟩
  obtain ⟨d1, d2, _⟩ := hA.gd d e
  rw [List.getElem?_set_ne (Ne.symm d1), List.getElem?_set_ne (Ne.symm d2)]
  exact (h.gt d e).1
/-- The cells behind an index more that is shown. -/
theorem MgJ.shown {b lo c sn sw : Int} {X : List Int} (hA : MgA J q s) (h : MgJ J q s b lo c X sn sw) (hb : lo - b < two s.k) : MgJ J q s b (lo + 1) c (showN X s.f s.k lo 1) sn sw := by
  have hm := show_more h.fl h.sh hb
  obtain ⟨i, hi, e⟩ := showN_one X s.f s.k lo
  rw [e] at hm ⊢
  have n1 := hA.uf
  have n2 := hA.hf
  refine ⟨⟨by rw [List.getElem?_set_ne (by omega)]; exact h.ok.cu, by rw [List.getElem?_set_ne (by omega)]; exact h.ok.ch, h.ok.ne, h.ok.ln, fun j hj => by simpa using h.ok.at' j hj⟩, h.snc, h.swc, fun d e => ⟨?_, (h.gt d e).2⟩, by simpa using h.fl, by simpa using h.xl, hA.js _ _ _ hi h.jj, hm⟩
  rw [List.getElem?_set_ne (Ne.symm ((hA.gd d e).2.2 i hi))]
  exact (h.gt d e).1
theorem manyg_publish {R : Rest} {W : World} {ids X : List Int} {sw st c : Int} (sl o u : Value) (h : Ms R W0 W s ids sw X st) (hx : X[s.cur]? = some c) (hsw : sw ≤ c) (hl : (X.length : Int) ≤ 2097152) (hfl : s.f + two s.k ≤ (X.length : Int)) (at' hi : Int) (h1 : 0 ≤ at') (h2 : at' ≤ c) (hc2 : c ≤ 4611686018427387904) (h0 : 0 ≤ st) (hs : st < 1152921504606846976) :
    Calls Tryz.prog 91 #[.agg #[sl, o, .pointer (some ⟨s.p, 0, none⟩), u], .int .i64 at', .int .i64 hi] W fun e w' => e = .returned (.tuple #[.int .i64 at', .nilIface]) ∧ Ms R W0 w' s ids sw (showN X s.f s.k at' 1) (st + 1) := by
  have HP : Hid (∀ w, Ms R W0 w s ids sw X st → Calls Tryz.prog 132 #[.pointer (some ⟨s.p, 0, none⟩), .int .i64 at', .int .i64 at'] w fun e w' => e = .returned .nilIface ∧ Ms R W0 w' s ids sw (showN X s.f s.k at' 1) (st + 1)) := Lib.hid fun w hw => by
    have := mpub_ok hw hx hsw hl at' at' h1 (Int.le_refl _) (by have := two_pos s.k; omega) h2 hc2 1 (by omega) hfl h0 hs
    simpa using this
  have HH := Lib.hid h
  clear h hfl hl hx
  go_enter Tryz.func91, Tryz.ntmps91
  go_wp2_with (go_at_call 132; refine (HP.out _ (HH.out.keep (balloc (Below.refl _ _) _))).mono ?_; rintro e w1 ⟨rfl, hg⟩; have HG := Lib.hid hg; clear hg)
  go_ret2
  exact ⟨rfl, HG.out⟩
theorem mg_kit (H : MgH W0 f J q s r i0 g sl o uu) (hE0 : 0 ≤ E) (hE1 : E ≤ 1000000) : Kit W0 r i0 (two s.k) (okO (two s.k) q) (MgS W0 f J E q s) (MgT W0 f J E q s) where
  sb b lo hi := bx_ex fun X => bx_ex fun sn => bx_ex fun sw => bx_ex fun st => bx_and _ (H.bm _ _ _ _)
  tb lo n j v := bx_ex fun ts => bx_ex fun t => bx_ex fun X => bx_ex fun xs => bx_ex fun sn => bx_ex fun sw0 => bx_ex fun sw => bx_ex fun st => bx_and _ (H.bm _ _ _ _)
  sz lo n j v R w h := by
    obtain ⟨ts, t, X, xs, sn, sw0, sw, st, ⟨rfl, hty, _⟩, _⟩ := h
    exact ⟨clA_size tsZ_size hty.size, clA_one tsZ_one hty.one⟩
  claim lo n R w h h0 h1 h2 h3 := mg_claim H hE0 hE1 h h0 h1 h2 h3
  done lo n j v R w w1 h := by
    obtain ⟨ts, t, X, xs, sn, sw0, sw, st, ⟨rfl, hty, hcg, hfar, _⟩, _⟩ := h
    have hd : (t.stg == 0 || t.stg == 6 || t.stg == 7) = decide (j = 0) := by
      by_cases e : j = 0
      · rw [decide_eq_true e]
        rcases hcg.end (by omega) with k | k <;> rw [k.1] <;> rfl
      · rw [decide_eq_false e]
        have := hcg.under (by omega)
        simp only [Bool.or_eq_false_iff, beq_eq_false_iff_ne]
        omega
    rw [← hd]
    exact cdone_all tsZ_size hty.size (fun w => tdone hty.c2 w) w1
  step lo n j v R w h := mg_step H hE0 hE1 h
  full lo n v R w w1 h := by
    obtain ⟨ts, t, X, xs, sn, sw0, sw, st, ⟨rfl, hty, hcg, hfar, h0, h1, h2, h3, h4, h5, hJ⟩, _⟩ := h
    have hd : (t.stg == 7) = !okO (two s.k) q lo n := by
      have hi := okP_iff hJ h0 h3
      rcases hcg.end hfar with k | k
      · rw [hi.1 k.2.2.2.2, k.1]; rfl
      · have hno : okO (two s.k) q lo n = false := by
          cases e : okO (two s.k) q lo n with
          | false => rfl
          | true => exact absurd (hi.2 e) k.2.2.2
        rw [hno, k.1]; rfl
    rw [← hd]
    exact cfull_all tsZ_size hty.size (fun w => tfull hty.c2 w) w1
  last lo n v R w w1 h hok := by
    obtain ⟨ts, t, X, xs, sn, sw0, sw, st, ⟨rfl, hty, hcg, hfar, h0, h1, h2, h3, h4, h5, hJ⟩, _⟩ := h
    have hi := okP_iff hJ h0 h3
    rcases hcg.end hfar with k | k
    · have hl : lastOf t.stg t.last = lo + n - 1 := by
        unfold lastOf
        rw [if_pos k.1, k.2.2.2.1]
        omega
      rw [← hl]
      exact clast_all tsZ_size hty.size (fun w => tlast hty.c2 hty.c4 w) w1
    · exact absurd (hi.2 hok) k.2.2.2
  got lo n v R w h hok := by
    obtain ⟨ts, t, X, xs, sn, sw0, sw, st, ⟨rfl, hty, hcg, hfar, h0, h1, h2, h3, h4, h5, hJ⟩, hp⟩ := h
    have hi := okP_iff hJ h0 h3
    rcases hcg.end hfar with ⟨k1, rfl, rfl, k4, k5⟩ | k
    · have hle := leastP_le (lo - 1) (valsOf X (idsO q))
      have hsn : snP (two s.k) (lo - 1) sn n (valsOf X (idsO q)) ≤ lo - 1 := by
        unfold snP
        split
        · exact hJ.snc
        · exact hle.1
      have hsd : ∀ d, q = some d → snP (two s.k) (lo - 1) sn n (valsOf X (idsO q)) = -1 := fun d e => by
        obtain ⟨g1, g2⟩ := hJ.gt d e
        have hv : valsOf X (idsO q) = [-1] := by subst e; simp [valsOf, idsO, List.getD, g1]
        unfold snP
        rw [hv]
        split
        · exact g2
        · simp only [leastP, List.foldl_cons, List.foldl_nil]
          omega
      exact ⟨_, _, _, st, ⟨h0, Int.le_refl _, by omega, h4, by omega, by rw [show lo + n - 1 = lo - 1 + n by omega]; exact hJ.got H.ar h0 h2 hsn hsd⟩, hp⟩
    · exact absurd (hi.2 hok) k.2.2.2
  show' b lo hi R w h h0 h1 h2 h3 h4 := by
    obtain ⟨X, sn, sw, st, ⟨q0, q1, q2, q3, q4, hJ⟩, hp⟩ := h
    refine (rshow_any (R := f R) (Pd := fun R w => Ms R W0 w s (idsO q) sw X st) (Pe := fun R w => Ms R W0 w s (idsO q) sw (showN X s.f s.k lo 1) (st + 1)) (g := g) (ms_bx _ _ _ _ _ _) hp lo (hi - 1) lo (by omega) (by omega) (by omega) (fun op w hi => H.find op hi) (fun w hi => H.cells hi) (fun w hw => manyg_publish _ _ _ hw hJ.ok.cu hJ.swc hJ.xl hJ.fl lo (hi - 1) (by omega) (by omega) (by omega) q3 (by omega))).mono ?_
    rintro e w' ⟨rfl, he⟩
    exact ⟨lo + 1, rfl, by omega, by omega, _, sn, sw, st + 1, ⟨q0, by omega, by omega, by omega, by omega, hJ.shown H.ar (by omega)⟩, he⟩
  next b hi R w h hb := by
    obtain ⟨X, sn, sw, st, ⟨q0, q1, q2, q3, q4, hJ⟩, hp⟩ := h
    exact ⟨X, sn, sw, st, ⟨by omega, Int.le_refl _, Int.le_refl _, q3, by omega, hJ.ok, hJ.snc, hJ.swc, hJ.gt, hJ.fl, hJ.xl, hJ.jj, fun z h1 h2 => by omega⟩, hp⟩
  low b lo hi R w h := by
    obtain ⟨X, sn, sw, st, _, hp⟩ := h
    exact hp.below
  pl b lo hi R w h x hx := by
    obtain ⟨X, sn, sw, st, _, hp⟩ := h
    exact hp.prot_lt (H.pr _ _ hx)
  tlow lo n j v R w h := by
    obtain ⟨ts, t, X, xs, sn, sw0, sw, st, _, hp⟩ := h
    exact hp.below
end
end Go.Proofs.YtjadapjjilegnaaGreat
