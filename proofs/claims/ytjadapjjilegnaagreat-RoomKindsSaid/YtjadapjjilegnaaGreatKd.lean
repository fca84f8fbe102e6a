/-
  RoomKinds: a room with a ring of either kind in one arena: what each ring's kit needs, what is published, how the one's state is the other's. No condition but those that each theorem names.
  RoomKinds: both rings at one number, and between; each ring's turn; how both are made. No condition but those that each theorem names.
-/
import Derived.Test.YtjadapjjilegnaaGreatRg
import Derived.Test.YtjadapjjilegnaaGreatKt
import Derived.Test.YtjadapjjilegnaaGreatRo5
set_option linter.unusedSimpArgs false
namespace Go.Proofs.YtjadapjjilegnaaGreat
open Go.RowKit
set_option linter.unusedVariables false

/-! What is published of each -/
section
variable {W0 : World} {f : Rest → Rest} {J : List Int → Prop} {E : Int} {q : Option Nat} {p a k u r i0 g : Nat} {sl uu : Value}
theorem og_pubd (H : OgH W0 f J p a k u r i0 g sl uu) {R : Rest} {w : World} {b hi : Int} (h : OgS W0 f J E q p a k u b hi hi R w) (hb : b < hi) (hh : hi ≤ 1000000) :
    Calls Tryz.prog 30 #[.pointer (some ⟨r, 0, none⟩), .int .i64 i0, .int .i64 b] w fun e w' => e = .returned (.tuple #[.int .i64 (hi - 1), .nilIface]) ∧ OgS W0 f J E q p a k u b hi hi R w' := by
  obtain ⟨X, sn, sc, st, hq, hp⟩ := h
  have q0 := hq.1
  refine (rpublished_any (R := f R) (Pd := fun R w => Sg R W0 w p a k u (idsO q) (hi - 1) (hi - 1) sn sc X st) (Pe := fun R w => Sg R W0 w p a k u (idsO q) (hi - 1) (hi - 1) sn sc X st) (g := g) (sg_bx2 _ _ _ _ _ _ _) hp b (max (b - 1) (hi - 1)) q0 (by omega) (fun op w hi => H.find op hi) (fun w hi => H.cells hi) (fun w hw => one_published _ _ hw b q0 (by omega))).mono ?_
  rintro e w' ⟨rfl, he⟩
  exact ⟨by rw [show max (b - 1) (hi - 1) = hi - 1 by omega], X, sn, sc, st, hq, he⟩
end
section
variable {W0 : World} {f : Rest → Rest} {J : List Int → Prop} {E : Int} {q : Option Nat} {s : Sh} {r i0 g : Nat} {sl o uu : Value}
theorem manyg_published {R : Rest} {W : World} {ids X : List Int} {sw st c : Int} (sl o u : Value) (h : Ms R W0 W s ids sw X st) (hx : X[s.cur]? = some c) (hfl : s.f + two s.k ≤ (X.length : Int)) (lo : Int) (h1 : 0 ≤ lo) (h2 : lo ≤ 4611686018427387904) (hc1 : -1 ≤ c) (hc2 : c ≤ 4611686018427387904) (h0 : 0 ≤ st) (hs : st < 1152921504606846976) :
    Calls Tryz.prog 92 #[.agg #[sl, o, .pointer (some ⟨s.p, 0, none⟩), u], .int .i64 lo] W fun e w' => ∃ (j : Nat) (st' : Int), RunTo (shownB X s.f s.k) lo c j ∧ e = .returned (.tuple #[.int .i64 (lo + j - 1), .nilIface]) ∧ Ms R W0 w' s ids sw X st' ∧ st ≤ st' ∧ st' ≤ st + 1048578 := by
  have HP : Hid (∀ w, Ms R W0 w s ids sw X st → Calls Tryz.prog 134 #[.pointer (some ⟨s.p, 0, none⟩), .int .i64 lo] w fun e w' => ∃ (j : Nat) (st' : Int), RunTo (shownB X s.f s.k) lo c j ∧ e = .returned (.tuple #[.int .i64 (lo + j - 1), .nilIface]) ∧ Ms R W0 w' s ids sw X st' ∧ st ≤ st' ∧ st' ≤ st + 1048578) := Lib.hid fun w hw => mhigh_ok hw hx lo h1 h2 hc1 hc2 hfl h0 hs
  have HH := Lib.hid h
  clear h hfl hx
  go_enter Tryz.func92, Tryz.ntmps92
  go_wp2_with (go_at_call 134; refine (HP.out _ (HH.out.keep (balloc (Below.refl _ _) _))).mono ?_; rintro e w1 ⟨j, st', hj, rfl, hg, a1, a2⟩; have HG := Lib.hid hg; have HJ := Lib.hid hj; clear hg hj)
  go_ret2
  exact ⟨j, st', HJ.out, rfl, HG.out, a1, a2⟩
/-- All from b on is shown: the run goes to the end. -/
theorem run_all {P : Int → Bool} {b hi : Int} {j : Nat} (h : RunTo P b (hi - 1) j) (hb : b < hi) (hP : ∀ z, b ≤ z → z < hi → P z = true) : b + j - 1 = hi - 1 := by
  obtain ⟨h1, h2, h3⟩ := h
  by_cases e : b + j ≤ hi - 1
  · have := h2 e
    rw [hP (b + j) (by omega) (by omega)] at this
    cases this
  · rcases h3 with h3 | h3 <;> omega
theorem mg_pubd (H : MgH W0 f J q s r i0 g sl o uu) (hE0 : 0 ≤ E) (hE1 : E ≤ 1000000) {R : Rest} {w : World} {b hi : Int} (h : MgS W0 f J E q s b hi hi R w) (hb : b < hi) (hh : hi ≤ 1000000) :
    Calls Tryz.prog 30 #[.pointer (some ⟨r, 0, none⟩), .int .i64 i0, .int .i64 b] w fun e w' => e = .returned (.tuple #[.int .i64 (hi - 1), .nilIface]) ∧ MgS W0 f J (E + 1048578) q s b hi hi R w' := by
  obtain ⟨X, sn, sw, st, ⟨q0, q1, q2, q3, q4, hJ⟩, hp⟩ := h
  refine (rpublished_any (R := f R) (Pd := fun R w => Ms R W0 w s (idsO q) sw X st) (Pe := fun R w => ∃ st', (st ≤ st' ∧ st' ≤ st + 1048578) ∧ Ms R W0 w s (idsO q) sw X st') (g := g) (ms_bx _ _ _ _ _ _) hp b (hi - 1) q0 (by omega) (fun op w hi => H.find op hi) (fun w hi => H.cells hi) (fun w hw => (manyg_published _ _ _ hw hJ.ok.cu hJ.fl b q0 (by omega) (by omega) (by omega) q3 (by omega)).mono fun e w' ⟨j, st', hr, he, hm, a1, a2⟩ => ⟨by rw [he, run_all hr hb hJ.sh], st', ⟨a1, a2⟩, hm⟩)).mono ?_
  rintro e w' ⟨rfl, st', ⟨a1, a2⟩, he⟩
  exact ⟨rfl, X, sn, sw, st', ⟨q0, q1, q2, by omega, by omega, hJ⟩, he⟩
end

/-! Both rings -/
/-- What stands beside the sequencers. -/
def kB (W0 : World) (r a c t k g0 g1 : Nat) (rv : Value) (i : Ri) (j : Rj) (R : Rest) : Rest :=
  ((((((R.box W0.heap.size g0 (gOne i) 149).box W0.heap.size g1 (gMany j) 149).rms W0.heap.size r a c t rv 2 [.pointer (some ⟨g0, 0, none⟩), .pointer (some ⟨g1, 0, none⟩)]).slots W0.heap.size i.sb i.rg i.rc k (List.replicate (two k).toNat (0, 0))).slots W0.heap.size j.sb j.rg j.rc k (List.replicate (two k).toNat (0, 0))).box W0.heap.size j.s.q (bfA 3 k) 268)
/-- For the one who claims alone, for the many. -/
def k0R (W0 : World) (r a c t k g0 g1 : Nat) (rv : Value) (i : Ri) (j : Rj) (cs : Array Value) (R : Rest) : Rest := (kB W0 r a c t k g0 g1 rv i j R).box W0.heap.size j.s.p cs 219
def k1R (W0 : World) (r a c t k g0 g1 : Nat) (rv : Value) (i : Ri) (j : Rj) (cs : Array Value) (R : Rest) : Rest := (kB W0 r a c t k g0 g1 rv i j R).box W0.heap.size i.p cs 223
section
variable {W0 w : World} {r a c t k g0 g1 : Nat} {rv : Value} {i : Ri} {j : Rj} {cs : Array Value} {R : Rest}
theorem kB_bx {P : Rest → World → Prop} (hB : Bm W0 P) : Bm W0 fun R w => P (kB W0 r a c t k g0 g1 rv i j R) w :=
  bm_box (bm_box (bm_row (bm_box (bm_box (bm_row (bm_box (bm_row (bm_box hB _ _ _) _ _ _ _ _) _ _ _) _ _ _ _ _) _ _ _) _ _ _) _ _ _ _ _) _ _ _) _ _ _
theorem kB_pr {q : Nat} (h : R.prot q) : (kB W0 r a c t k g0 g1 rv i j R).prot q := .inl (.inl (.inl (.inl (.inl (.inl (.inl (.inl (.inl h))))))))
theorem kB_rms (h : (kB W0 r a c t k g0 g1 rv i j R).inv w) : (((R.box W0.heap.size g0 (gOne i) 149).box W0.heap.size g1 (gMany j) 149).rms W0.heap.size r a c t rv 2 [.pointer (some ⟨g0, 0, none⟩), .pointer (some ⟨g1, 0, none⟩)]).inv w := h.1.1.1.1.1
theorem kB_row (h : (kB W0 r a c t k g0 g1 rv i j R).inv w) : ∃ rg cap, rv = .slice (some ⟨rg, 0, none⟩) 2 cap ∧ w.cell? ⟨r, 3, none⟩ = some (.slice (some ⟨rg, 0, none⟩) 2 cap) ∧ w.cell? ⟨rg, 0, none⟩ = some (.pointer (some ⟨g0, 0, none⟩)) ∧ w.cell? ⟨rg, 1, none⟩ = some (.pointer (some ⟨g1, 0, none⟩)) := by
  obtain ⟨⟨_, ir, _⟩, im, _⟩ := kB_rms h
  obtain ⟨rg, cap, rfl, _, hcm⟩ := row_some ir (by decide)
  exact ⟨rg, cap, rfl, (obj_cell im 3).trans rfl, (ir.cellAt 0 (by decide)).trans rfl, (ir.cellAt 1 (by decide)).trans rfl⟩
theorem kB_at0 (h : (kB W0 r a c t k g0 g1 rv i j R).inv w) : ∃ n cap rg, RgAt w r 0 g0 n cap rg (.pointer (some ⟨i.sb, 0, none⟩)) (.pointer (some ⟨i.p, 0, none⟩)) (.pointer none) (.slice none 0 0) := by
  obtain ⟨rg, cap, _, h1, h2, h3⟩ := kB_row h
  exact ⟨2, cap, rg, h1, by decide, by decide, h2, by simp [Value.oneCell'], (kB_rms h).1.1.1.2.1⟩
theorem kB_at1 (h : (kB W0 r a c t k g0 g1 rv i j R).inv w) : ∃ n cap rg, RgAt w r 1 g1 n cap rg (.pointer (some ⟨j.sb, 0, none⟩)) (.pointer none) (.pointer (some ⟨j.s.p, 0, none⟩)) (.slice none 0 0) := by
  obtain ⟨rg, cap, _, h1, h2, h3⟩ := kB_row h
  exact ⟨2, cap, rg, h1, by decide, by decide, h3, by simp [Value.oneCell'], (kB_rms h).1.1.2.1⟩
end
end Go.Proofs.YtjadapjjilegnaaGreat
set_option linter.unusedSimpArgs false
namespace Go.Proofs.YtjadapjjilegnaaGreat
open Go.RowKit
set_option linter.unusedVariables false

section
variable (W0 : World) (r a c t k g0 g1 : Nat) (rv : Value) (i : Ri) (j : Rj)
/-- What is fixed of both rings. -/
structure KdOk : Prop where
  k6 : k < 6
  s : j.s = ⟨j.s.p, a, j.s.q, 3, k, 1, 2⟩
/-- What the one's cells are while the many have their turn. -/
def kJ1 (v : Int) (X : List Int) : Prop := X[0]? = some v
/-- What the many's cells are while the one has its turn. -/
def kJ0 (n : Int) (sn sw : Int) (X : List Int) : Prop := MgJ (fun _ => True) none j.s n n (n - 1) X sn sw
/-- The many stand at n, the one at m; so many steps at most. -/
def KS (n m B : Int) (R : Rest) (w : World) : Prop :=
  ∃ (X : List Int) (sn sc sn1 sw st : Int) (cs cs2 : Array Value), (0 ≤ n ∧ n ≤ m ∧ 0 ≤ sc ∧ sc ≤ m ∧ 0 ≤ st ∧ st ≤ B ∧ SgF cs a k 0 [] (m - 1) (m - 1) sn sc ∧ SqF cs2 j.s [] sw ∧ OgJ 0 none (kJ0 j n sn1 sw) X (m - 1) sn) ∧ Mv ((k0R W0 r a c t k g0 g1 rv i j cs2 R).box W0.heap.size i.p cs 223) W0 w a X st
end
section
variable {W0 w : World} {r a c t k g0 g1 : Nat} {rv : Value} {i : Ri} {j : Rj} {n m : Int} {R : Rest}
theorem ks_bx (n m B : Int) : Bx W0 (KS W0 r a c t k g0 g1 rv i j n m B) := by
  refine bx_ex fun X => bx_ex fun sn => bx_ex fun sc => bx_ex fun sn1 => bx_ex fun sw => bx_ex fun st => bx_ex fun cs => bx_ex fun cs2 => bx_and _ ?_
  exact (kB_bx (bm_box (bm_box (mv_bm W0 a X st) _ _ _) _ _ _)).toBx
theorem k_jset (hk : KdOk a k j) (n sn sw : Int) (X : List Int) (x : Int) (h : kJ0 j n sn sw X) : kJ0 j n sn sw (X.set 0 x) := by
  have hs := hk.s
  have e1 : j.s.cur = 1 := by rw [hs]
  have e2 : j.s.cch = 2 := by rw [hs]
  have e3 : j.s.f = 3 := by rw [hs]
  refine ⟨⟨?_, ?_, h.ok.ne, h.ok.ln, fun q hq => by simpa using h.ok.at' q hq⟩, h.snc, h.swc, fun d hd => (by cases hd), by simpa using h.fl, by simpa using h.xl, trivial, fun z z1 z2 => by omega⟩
  · rw [List.getElem?_set_ne (by omega)]; exact h.ok.cu
  · rw [List.getElem?_set_ne (by omega)]; exact h.ok.ch
/-- The one's turn. -/
theorem k_og (hk : KdOk a k j) (n sn1 sw : Int) (cs2 : Array Value) : OgH W0 (k0R W0 r a c t k g0 g1 rv i j cs2) (kJ0 j n sn1 sw) i.p a k 0 r 0 g0 (.pointer (some ⟨i.sb, 0, none⟩)) (.slice none 0 0) :=
  ⟨fun ids cl pub sn sc X st => (kB_bx (bm_box (sg_bm W0 i.p a k 0 ids cl pub sn sc X st) _ _ _)).toBx, fun R w h => kB_at0 h.1, k_jset hk n sn1 sw, fun R q h => .inl (kB_pr h), by have := hk.k6; omega⟩
theorem k_ar (hk : KdOk a k j) (v : Int) : MgA (kJ1 v) none j.s := by
  have hs := hk.s
  have e1 : j.s.cur = 1 := by rw [hs]
  have e2 : j.s.cch = 2 := by rw [hs]
  have e3 : j.s.f = 3 := by rw [hs]
  refine ⟨by omega, by omega, by omega, fun d hd => (by cases hd), fun X x h => ?_, fun X x h => ?_, fun X x q hq h => ?_⟩
  · unfold kJ1 at h ⊢
    rw [List.getElem?_set_ne (by omega)]; exact h
  · unfold kJ1 at h ⊢
    rw [List.getElem?_set_ne (by omega)]; exact h
  · unfold kJ1 at h ⊢
    rw [List.getElem?_set_ne (by omega)]; exact h
theorem k_mg (hk : KdOk a k j) (v : Int) (cs : Array Value) : MgH W0 (k1R W0 r a c t k g0 g1 rv i j cs) (kJ1 v) none j.s r 1 g1 (.pointer (some ⟨j.sb, 0, none⟩)) (.pointer none) (.slice none 0 0) :=
  ⟨fun ids sw X st => (kB_bx (bm_box ⟨ms_bx W0 j.s ids sw X st, fun R w w' T z v n ys h hb ho => h.rowTo hb ho⟩ _ _ _)).toBx, fun R w h => kB_at1 h.1, fun R q h => .inl (kB_pr h), by rw [show j.s.k = k by rw [hk.s]]; have := hk.k6; omega, k_ar hk v⟩
/-- Both at n: the one's turn begins. -/
theorem ks_og (h : KS W0 r a c t k g0 g1 rv i j n n (2000000 * n + 10) R w) : ∃ (sn1 sw : Int) (cs2 : Array Value), SqF cs2 j.s [] sw ∧ OgS W0 (k0R W0 r a c t k g0 g1 rv i j cs2) (kJ0 j n sn1 sw) 0 none i.p a k 0 n n n R w := by
  obtain ⟨X, sn, sc, sn1, sw, st, cs, cs2, ⟨q0, q1, q2, q3, q4, q5, q6, q7, q8⟩, hm⟩ := h
  exact ⟨sn1, sw, cs2, q7, X, sn, sc, st, ⟨q0, Int.le_refl _, Int.le_refl _, q2, q3, q4, by omega, q8⟩, cs, q6, hm⟩
/-- The one's turn is over. -/
theorem og_ks {sn1 sw : Int} {cs2 : Array Value} (h2 : SqF cs2 j.s [] sw) (hnm : n < m) (hm : m ≤ n + 32) (h : OgS W0 (k0R W0 r a c t k g0 g1 rv i j cs2) (kJ0 j n sn1 sw) 0 none i.p a k 0 n m m R w) : KS W0 r a c t k g0 g1 rv i j n m (2000000 * n + 3000) R w := by
  obtain ⟨X, sn, sc, st, ⟨q0, q1, q2, q3, q4, q5, q6, q7⟩, cs, hf, hp⟩ := h
  exact ⟨X, sn, sc, sn1, sw, st, cs, cs2, ⟨q0, by omega, q3, q4, q5, by omega, hf, h2, q7⟩, hp⟩
/-- The many's turn begins. -/
theorem ks_mg (hk : KdOk a k j) (h : KS W0 r a c t k g0 g1 rv i j n m (2000000 * n + 3000) R w) : ∃ (sn sc : Int) (cs : Array Value), (SgF cs a k 0 [] (m - 1) (m - 1) sn sc ∧ sn ≤ m - 1 ∧ 0 ≤ sc ∧ sc ≤ m) ∧ MgS W0 (k1R W0 r a c t k g0 g1 rv i j cs) (kJ1 (m - 1)) 10000 none j.s n n n R w := by
  obtain ⟨X, sn, sc, sn1, sw, st, cs, cs2, ⟨q0, q1, q2, q3, q4, q5, q6, q7, q8⟩, hm⟩ := h
  have hs := hk.s
  have e1 : j.s.f = 3 := by rw [hs]
  have e2 : j.s.k = k := by rw [hs]
  have e3 : j.s.b = a := by rw [hs]
  have hj := q8.jj
  have hm2 : Mv ((k1R W0 r a c t k g0 g1 rv i j cs R).box W0.heap.size j.s.p cs2 219) W0 w j.s.b X st := by
    rw [e3]
    exact hm.le Rest.bb
  refine ⟨sn, sc, cs, ⟨q6, q8.sn, q2, q3⟩, X, sn1, sw, st, ⟨q0, Int.le_refl _, Int.le_refl _, q4, by omega, hj.ok, hj.snc, hj.swc, fun d hd => (by cases hd), hj.fl, hj.xl, q8.cu, hj.sh⟩, Mv.seq q7 (by have := hk.k6; omega) (by omega) (fun hi => ?_) hm2⟩
  rw [e1, e2]
  exact hi.1.2.1
/-- The many's turn is over: both are at m. -/
theorem mg_ks (hk : KdOk a k j) {sn sc : Int} {cs : Array Value} (h1 : SgF cs a k 0 [] (m - 1) (m - 1) sn sc ∧ sn ≤ m - 1 ∧ 0 ≤ sc ∧ sc ≤ m) (hnm : n < m) (hm : m ≤ n + 32) (h : MgS W0 (k1R W0 r a c t k g0 g1 rv i j cs) (kJ1 (m - 1)) (10000 + 1048578) none j.s n m m R w) : KS W0 r a c t k g0 g1 rv i j m m (2000000 * m + 10) R w := by
  obtain ⟨X, sn1, sw, st, ⟨q0, q1, q2, q3, q4, hj⟩, hp⟩ := h
  have e3 : j.s.b = a := by rw [hk.s]
  obtain ⟨cs2, hc2, hb⟩ := hp.boxed
  rw [e3] at hb
  refine ⟨X, sn, sc, sn1, sw, st, cs, cs2, ⟨by omega, Int.le_refl _, h1.2.2.1, h1.2.2.2, q3, by omega, h1.1, hc2, hj.jj, ⟨hj.ok, hj.snc, hj.swc, fun d hd => (by cases hd), hj.fl, hj.xl, trivial, fun z z1 z2 => by omega⟩, fun d hd => (by cases hd), h1.2.1⟩, hb.le Rest.bb⟩
end

/-! How both are made -/
section
variable {W0 w : World} {r a c t k n : Nat}
/-- Behind the first ring, and the one more. -/
def kP0 (W0 : World) (a k : Nat) (i : Ri) (R : Rest) (w : World) : Prop := PeOne W0 a k 0 [] (-1) (-1) (-1) 0 [-1] 0 (List.replicate (two k).toNat (0, 0)) i R w
def kP1 (W0 : World) (a k : Nat) (i : Ri) (j : Rj) (R : Rest) (w : World) : Prop :=
  ∃ cs : Array Value, (SgF cs a k 0 [] (-1) (-1) (-1) 0 ∧ j.s = ⟨j.s.p, a, j.s.q, 3, k, 1, 2⟩) ∧ Ms (((((R.slots W0.heap.size i.sb i.rg i.rc k (List.replicate (two k).toNat (0, 0))).box W0.heap.size i.p cs 223).slots W0.heap.size j.sb j.rg j.rc k (List.replicate (two k).toNat (0, 0))).box W0.heap.size j.s.q (bfA 3 k) 268)) W0 w j.s [] (-1) ([-1] ++ mk (-1) (-1) (List.replicate (two k).toNat (-1)) []) 0
theorem kP1_ba (i : Ri) (j : Rj) : Ba W0 (kP1 W0 a k i j) :=
  ba_ex fun cs => ba_and _ (ba_box (ba_row (ba_box (ba_box (ba_row (ba_box (ms_ba W0 j.s [] (-1) _ 0) _ _ _) _ _ _ _ _) _ _ _) _ _ _) _ _ _ _ _) _ _ _)
theorem kP0_bx (i : Ri) : Bx W0 (kP0 W0 a k i) := (peOne_bm W0 a k 0 [] (-1) (-1) (-1) 0 [-1] 0 (List.replicate (two k).toNat (0, 0)) i).toBx
/-- A new room's clock and table. -/
def kRb (W0 : World) (c t : Nat) : Rest := (R0.box W0.heap.size c #[.int .i64 0, .slice none 0 0] 106).box W0.heap.size t #[.slice none 0 0] 142
theorem kd_ring0 (h : RmNew W0 w r a c t) (hk : k ≤ 20) :
    Calls Tryz.prog 23 #[.pointer (some ⟨r, 0, none⟩), .int .i64 (two k), .int .i64 0] w fun e w' => e = .returned (.tuple #[.int .i64 0, .nilIface]) ∧ ∃ i g0 rv, kP0 W0 a k i (((kRb W0 c t).box W0.heap.size g0 (gOne i) 149).rms W0.heap.size r a c t rv 1 [.pointer (some ⟨g0, 0, none⟩)]) w' := by
  have h1 := two_pos k
  refine (rring_gen (Pd := fun R w => Mv R W0 w a [] 0) (Pe := kP0 W0 a k) (R := kRb W0 c t) (rv := .slice none 0 0) (ps := []) (n := 0) gOne 0 (.inl rfl) hk (by decide) (mv_bx W0 a [] 0) (fun i => peOne_ba W0 a k 0 [] (-1) (-1) (-1) 0 [-1] 0 _ i) ((mv_bx W0 a [] 0).boxOut (h.mv.nil 143 1)) (fun R w hm => lay_one hm hk (by omega) (by decide))).mono ?_
  rintro e w' ⟨rfl, i, g, rv, hp⟩
  exact ⟨rfl, i, g, rv, hp⟩
theorem kd_ring1 {R : Rest} {rv g0p : Value} {i : Ri} (h : kP0 W0 a k i (R.rms W0.heap.size r a c t rv 1 [g0p]) w) (hk : k < 6) :
    Calls Tryz.prog 23 #[.pointer (some ⟨r, 0, none⟩), .int .i64 (two k), .int .i64 1] w fun e w' => e = .returned (.tuple #[.int .i64 1, .nilIface]) ∧ ∃ j g1 rv', kP1 W0 a k i j ((R.box W0.heap.size g1 (gMany j) 149).rms W0.heap.size r a c t rv' 2 [g0p, .pointer (some ⟨g1, 0, none⟩)]) w' := by
  have h1 := two_pos k
  have h2 := two_le (show k ≤ 20 by omega)
  refine (rring_gen (Pd := kP0 W0 a k i) (Pe := kP1 W0 a k i) (R := R) (rv := rv) (ps := [g0p]) (n := 1) gMany 1 (.inr rfl) (by omega) (by decide) (kP0_bx i) (fun j => kP1_ba i j) h (fun R w hm => ?_)).mono ?_
  · obtain ⟨cs, hf, hv⟩ := hm
    refine (lay_many_gen hv (n := (two k).toNat) (by omega) (by omega) (by simp; omega)).mono ?_
    rintro e w' ⟨j, g, rfl, hs, hms⟩
    exact ⟨j, g, rfl, cs, ⟨hf, hs⟩, hms.le (((Rest.bb.trans Rest.slots_box.box).slots).box)⟩
  · rintro e w' ⟨rfl, j, g, rv', hp⟩
    exact ⟨rfl, j, g, rv', hp⟩
theorem kd_start {R : Rest} {rv : Value} {g0 g1 : Nat} {i : Ri} {j : Rj} (h : kP1 W0 a k i j (((R.box W0.heap.size g0 (gOne i) 149).box W0.heap.size g1 (gMany j) 149).rms W0.heap.size r a c t rv 2 [.pointer (some ⟨g0, 0, none⟩), .pointer (some ⟨g1, 0, none⟩)]) w) (hk : k < 6) :
    KdOk a k j ∧ KS W0 r a c t k g0 g1 rv i j 0 0 (2000000 * 0 + 10) R w := by
  have h1 := two_pos k
  have h2 := two_le (show k ≤ 20 by omega)
  obtain ⟨cs, ⟨hf, hs⟩, hms⟩ := h
  have e1 : j.s.cur = 1 := by rw [hs]
  have e2 : j.s.cch = 2 := by rw [hs]
  have e3 : j.s.f = 3 := by rw [hs]
  have e4 : j.s.k = k := by rw [hs]
  have e5 : j.s.b = a := by rw [hs]
  obtain ⟨cs2, hc2, hb⟩ := hms.boxed
  rw [e5] at hb
  have hlen : ([-1] ++ mk (-1) (-1) (List.replicate (two k).toNat (-1)) []).length = (two k).toNat + 3 := by simp [mk]
  refine ⟨⟨hk, hs⟩, [-1] ++ mk (-1) (-1) (List.replicate (two k).toNat (-1)) [], -1, 0, -1, -1, 0, cs, cs2, ⟨by decide, by decide, by decide, by decide, by decide, by decide, hf, hc2, ⟨rfl, ⟨⟨by rw [e1]; rfl, by rw [e2]; rfl, by omega, by simp [idsO], fun q hq => by simp [idsO] at hq⟩, by decide, by decide, fun d hd => (by cases hd), by rw [hlen, e3, e4]; omega, by rw [hlen]; omega, trivial, fun z z1 z2 => by omega⟩, fun d hd => (by cases hd), by decide⟩⟩, ?_⟩
  exact hb.le (((Rest.box_slots.box).box).trans ((Rest.bb.box).trans Rest.bb))
end
end Go.Proofs.YtjadapjjilegnaaGreat
