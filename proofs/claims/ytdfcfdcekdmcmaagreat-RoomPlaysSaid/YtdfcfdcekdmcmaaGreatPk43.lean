/-
  What a room refuses to show and to tell, by contract; what is shown, on both sides. No condition but those that each theorem names.
  A room and the document's world side by side: Show and Published, in both, one behind the other. Conditions: BoN's.
  A room and the document's world side by side: Published, in both, one behind the other. Conditions: BoN's.
  A room and the document's world side by side: one more ring, in both, one behind the other. Conditions: BoN's; the ring has 64 slots at most.
-/
import Derived.Test.YtdfcfdcekdmcmaaGreatPk42
import Derived.Test.YtdfcfdcekdmcmaaGreatPk37
set_option linter.unusedVariables false
set_option linter.unusedSimpArgs false
namespace Go.Proofs.YtdfcfdcekdmcmaaGreat
open Go.RowKit
set_option linter.unusedVariables false
set_option linter.unusedSimpArgs false
theorem runto_ex (P : Int → Bool) (lo hi : Int) : ∃ j : Nat, RunTo P lo hi j := by
  suffices h : ∀ (n : Nat) (lo : Int), (hi - lo + 1).toNat ≤ n → ∃ j : Nat, RunTo P lo hi j from h _ lo (Nat.le_refl _)
  intro n
  induction n with
  | zero => intro lo hn; exact ⟨0, fun i hi => absurd hi (Nat.not_lt_zero _), fun h => by omega, .inl rfl⟩
  | succ n ih =>
    intro lo hn
    by_cases h : hi < lo
    · exact ⟨0, fun i hi => absurd hi (Nat.not_lt_zero _), fun h => by omega, .inl rfl⟩
    · cases hP : P lo with
      | false => exact ⟨0, fun i hi => absurd hi (Nat.not_lt_zero _), fun _ => by simpa using hP, .inl rfl⟩
      | true =>
        obtain ⟨j, h1, h2, h3⟩ := ih (lo + 1) (by omega)
        refine ⟨j + 1, fun i hi => ?_, fun h => ?_, .inr (by omega)⟩
        · by_cases e : i = 0
          · subst e
            simpa using hP
          · have := h1 (i - 1) (by omega)
            rwa [show lo + 1 + ((i - 1 : Nat) : Int) = lo + i by omega] at this
        · have := h2 (by omega)
          rwa [show lo + 1 + (j : Int) = lo + ((j + 1 : Nat) : Int) by omega] at this
section
variable {W : World} {r i g n cap rg p a k cur : Nat} {cl pub sn sc : Int} {sl o m u : Value}
theorem spub_bad (h : SgC W p a k cur cl pub sn sc) (hi : Int) (hb : hi ≤ pub ∨ cl < hi) : Calls Tryz.prog 133 #[.pointer (some ⟨p, 0, none⟩), .int .i64 hi] W fun e w' => ∃ q, e = .returned (Flt q) ∧ NewE W w' q 1 := by
  have c36 := h.c36
  have c37 := h.c37
  clear h
  by_cases h1 : hi ≤ pub
  · have d1 : decide (hi ≤ pub) = true := decide_eq_true h1
    go_enter Tryz.func133, Tryz.ntmps133
    go_wp2_with (go_at_call 75; refine (wrap_iface _ _ _ _).mono ?_; rintro e w' ⟨rfl, hw⟩; obtain ⟨hch, hbb⟩ := ferr hw; clear hw)
    go_ret
    exact ⟨_, rfl, hch, hbb⟩
  · have d1 : decide (hi ≤ pub) = false := decide_eq_false h1
    have d2 : decide (cl < hi) = true := decide_eq_true (by omega)
    go_enter Tryz.func133, Tryz.ntmps133
    go_wp2_with (go_at_call 75; refine (wrap_iface _ _ _ _).mono ?_; rintro e w' ⟨rfl, hw⟩; obtain ⟨hch, hbb⟩ := ferr hw; clear hw)
    go_ret
    exact ⟨_, rfl, hch, hbb⟩
theorem one_publish_bad (sl u : Value) (h : SgC W p a k cur cl pub sn sc) (at' hi : Int) (hb : hi ≤ pub ∨ cl < hi) :
    Calls Tryz.prog 91 #[.agg #[sl, .pointer (some ⟨p, 0, none⟩), .pointer none, u], .int .i64 at', .int .i64 hi] W fun e w' => ∃ z q, e = .returned (.tuple #[.int .i64 z, Flt q]) ∧ NewE W w' q 1 := by
  have HP := Lib.hid (fun (w : World) (hb2 : Below W.heap.size W w) => spub_bad (W := w) (p := p) (a := a) (k := k) (cur := cur) (cl := cl) (pub := pub) (sn := sn) (sc := sc) ⟨keepc hb2 h.c0, keepc hb2 h.c1, keepc hb2 h.c2, keepc hb2 h.c36, keepc hb2 h.c37, keepc hb2 h.c38, keepc hb2 h.c39⟩ hi hb)
  clear h hb
  go_enter Tryz.func91, Tryz.ntmps91
  go_wp2_with (go_at_call 133; refine (HP.out _ (balloc (Below.refl _ _) _)).mono ?_; rintro e w1 ⟨q, rfl, hn⟩; have HN := Lib.hid hn; clear hn)
  go_ret2
  exact ⟨_, _, rfl, HN.out.1, bthen (balloc (Below.refl _ _) _) HN.out.2⟩
theorem rshow_arg (h : RgAt W r i g n cap rg sl o m u) (at' hi : Int) (hah : hi < at') :
    Calls Tryz.prog 29 #[.pointer (some ⟨r, 0, none⟩), .int .i64 i, .int .i64 at', .int .i64 hi] W fun e w' => ∃ q, e = .returned (.tuple #[.int .i64 0, Flt q]) ∧ NewE W w' q 1 := by
  have HF := Lib.hid (fun op => find_at op h)
  have da : decide (hi < at') = true := decide_eq_true hah
  clear h
  go_enter Tryz.func29, Tryz.ntmps29
  go_wp2_with (first
    | (go_at_call 69; refine (HF.out _).mono ?_; rintro e w1 ⟨rfl, hb⟩; have HB := Lib.hid hb; clear hb)
    | (go_at_call 75; refine (wrap_iface _ _ _ _).mono ?_; rintro e w' ⟨rfl, hw⟩; obtain ⟨hch, hbb⟩ := ferr hw; clear hw))
  go_ret2
  exact ⟨_, rfl, hch, bthen HB.out hbb⟩
theorem rpublished_range (h : RgAt W r i g n cap rg sl o m u) (lo : Int) (hlo : lo < 0 ∨ 4611686018427387904 < lo) :
    Calls Tryz.prog 30 #[.pointer (some ⟨r, 0, none⟩), .int .i64 i, .int .i64 lo] W fun e w' => ∃ q, e = .returned (.tuple #[.int .i64 0, Flt q]) ∧ NewE W w' q 5 := by
  have HF := Lib.hid (fun op => find_at op h)
  clear h
  by_cases h1 : lo < 0
  · have da : decide (lo < 0) = true := decide_eq_true h1
    go_enter Tryz.func30, Tryz.ntmps30
    go_wp2_with (first
      | (go_at_call 69; refine (HF.out _).mono ?_; rintro e w1 ⟨rfl, hb⟩; have HB := Lib.hid hb; clear hb)
      | (go_at_call 75; refine (wrap_iface _ _ _ _).mono ?_; rintro e w' ⟨rfl, hw⟩; obtain ⟨hch, hbb⟩ := ferr hw; clear hw))
    go_ret2
    exact ⟨_, rfl, hch, bthen HB.out hbb⟩
  · have da : decide (lo < 0) = false := decide_eq_false h1
    have db : decide (4611686018427387904 < lo) = true := decide_eq_true (by omega)
    go_enter Tryz.func30, Tryz.ntmps30
    go_wp2_with (first
      | (go_at_call 69; refine (HF.out _).mono ?_; rintro e w1 ⟨rfl, hb⟩; have HB := Lib.hid hb; clear hb)
      | (go_at_call 75; refine (wrap_iface _ _ _ _).mono ?_; rintro e w' ⟨rfl, hw⟩; obtain ⟨hch, hbb⟩ := ferr hw; clear hw))
    go_ret2
    exact ⟨_, rfl, hch, bthen HB.out hbb⟩
set_option maxRecDepth 100000 in
theorem rshow_err (h : RgAt W r i g n cap rg sl o m u) (at' hi : Int) (hah : at' ≤ hi)
    (hp : ∀ w, Below W.heap.size W w → Calls Tryz.prog 91 #[.agg #[sl, o, m, u], .int .i64 at', .int .i64 hi] w fun e w' => ∃ z q, e = .returned (.tuple #[.int .i64 z, Flt q]) ∧ NewE w w' q 1) :
    Calls Tryz.prog 29 #[.pointer (some ⟨r, 0, none⟩), .int .i64 i, .int .i64 at', .int .i64 hi] W fun e w' => ∃ q, e = .returned (.tuple #[.int .i64 0, Flt q]) ∧ Chain w' (Flt q) 2 1 ∧ Below W.heap.size W w' := by
  have HF := Lib.hid (fun op => find_at op h)
  have HH := Lib.hid h
  have HP := Lib.hid hp
  have da : decide (hi < at') = false := decide_eq_false (by omega)
  clear h hp
  go_enter Tryz.func29, Tryz.ntmps29
  go_wp2_with (first
    | (go_at_call 69; refine (HF.out _).mono ?_; rintro e w1 ⟨rfl, hb⟩; have HB := Lib.hid hb; have hgb := (HH.out.keep hb).rn; have q0 := (obj_cell hgb 0).trans rfl; have q1 := (obj_cell hgb 1).trans rfl; have q2 := (obj_cell hgb 2).trans rfl; have q3 := (obj_cell hgb 3).trans rfl; clear hb hgb)
    | (go_at_call 91; refine (HP.out _ HB.out).mono ?_; rintro e w2 ⟨z, q, rfl, hn⟩; have HC := Lib.hid hn.1; have HB2 := Lib.hid (bthen HB.out hn.2); clear hn)
    | (go_at_call 75; refine (wrap_iface _ _ _ _).mono ?_; rintro e w' ⟨rfl, hw⟩; have HE := Lib.hid (wrap_end HC.out HB2.out hw); clear hw))
  go_ret2
  exact ⟨_, rfl, HE.out.1, HE.out.2⟩
end
section
variable {R : Rest} {W0 W w : World} {s : Sh} {ids X : List Int} {sw st c : Int}
theorem manyg_publish_bad (sl o u : Value) (h : Ms R W0 W s ids sw X st) (hx : X[s.cur]? = some c) (hsw : sw ≤ c) (hl : (X.length : Int) ≤ 2097152) (at' hi : Int) (ha : -9223372036854775808 ≤ at' ∧ at' ≤ 9223372036854775807) (hb : at' < 0 ∨ c < at') (h0 : 0 ≤ st) (hs : st < 1152921504606846976) :
    Calls Tryz.prog 91 #[.agg #[sl, o, .pointer (some ⟨s.p, 0, none⟩), u], .int .i64 at', .int .i64 hi] W fun e w' => ∃ z q, e = .returned (.tuple #[.int .i64 z, Flt q]) ∧ NewE W w' q 1 := by
  have HP := Lib.hid (fun (w : World) (hb2 : Below W.heap.size W w) => mpub_bad (h.keep hb2) hx hsw hl at' at' ha ha h0 hs (hb.imp id fun e => .inr (.inr e)))
  clear h hb
  go_enter Tryz.func91, Tryz.ntmps91
  go_wp2_with (go_at_call 132; refine (HP.out _ (balloc (Below.refl _ _) _)).mono ?_; rintro e w1 ⟨E, rfl, q, rfl, hc, hb⟩; have HN := Lib.hid (And.intro hc hb); clear hc hb)
  go_ret2
  exact ⟨_, _, rfl, HN.out.1, bthen (balloc (Below.refl _ _) _) HN.out.2⟩
theorem manyg_published (sl o u : Value) (h : Ms R W0 W s ids sw X st) (hx : X[s.cur]? = some c) (lo : Int) (hl0 : 0 ≤ lo) (hl1 : lo ≤ 4611686018427387904) (hc1 : -1 ≤ c) (hc2 : c ≤ 4611686018427387904) (hfl : s.f + two s.k ≤ (X.length : Int)) (h0 : 0 ≤ st) (hs : st < 1152921504606846976) :
    Calls Tryz.prog 92 #[.agg #[sl, o, .pointer (some ⟨s.p, 0, none⟩), u], .int .i64 lo] W fun e w' => ∃ (j : Nat) (st' : Int), RunTo (shownB X s.f s.k) lo c j ∧ e = .returned (.tuple #[.int .i64 (lo + j - 1), .nilIface]) ∧ Ms R W0 w' s ids sw X st' ∧ st ≤ st' ∧ st' ≤ st + 1048578 := by
  have HP := Lib.hid (fun (w : World) (hb2 : Below W.heap.size W w) => mhigh_ok (h.keep hb2) hx lo hl0 hl1 hc1 hc2 hfl h0 hs)
  clear h
  go_enter Tryz.func92, Tryz.ntmps92
  go_wp2_with (go_at_call 134; refine (HP.out _ (balloc (Below.refl _ _) _)).mono ?_; rintro e w1 ⟨j, st', hj, rfl, hg, a1, a2⟩; have HG := Lib.hid hg; have HJ := Lib.hid hj; clear hg hj)
  go_ret2
  exact ⟨j, st', HJ.out, rfl, HG.out, a1, a2⟩
end
end Go.Proofs.YtdfcfdcekdmcmaaGreat
namespace Go.Proofs.YtdfcfdcekdmcmaaGreat
open Go.RowKit
set_option linter.unusedVariables false
set_option linter.unusedSimpArgs false
theorem errat2 {w : World} {q m : Nat} {n : Int} (hn : n ≠ 0) (hc : Chain w (Flt q) m n) : ErrAt w (Flt q) n := .inr ⟨hn, ⟨q, rfl⟩, m, hc⟩
section
variable {R : Rest} {W0 W w : World} {a : Nat} {cs : List Int} {st : Int} {C : Cw} {d : Dw} {q i : Nat} {x : Cr} {y : Dr}
theorem Tw.cells_many (h : Tw a q x y) (hm : y.many = true) : x.cells = x.c :: x.sn :: x.sh := by unfold Cr.cells; rw [h.m, hm]; rfl
theorem Tw.cells_one (h : Tw a q x y) (hm : y.many = false) : x.cells = [x.p] := by unfold Cr.cells; rw [h.m, hm]; rfl
theorem Tw.shlen (h : Tw a q x y) (hm : y.many = true) : (x.sh.length : Int) = two x.k := by
  rw [h.sh hm, List.length_map, h.k]
  exact h.shl
theorem Pl.cur1 (h : Pl a cs st C d q) (hx : C.L[i]? = some x) (tw : Tw a q x y) (hm : y.many = false) : cs[x.o]? = some x.p := by
  have := h.arn.at' i x hx 0 x.p (by rw [tw.cells_one hm]; rfl)
  simpa using this
theorem Pl.curm (h : Pl a cs st C d q) (hx : C.L[i]? = some x) (tw : Tw a q x y) (hm : y.many = true) : cs[x.o]? = some x.c ∧ cs[x.o + 1]? = some x.sn ∧ ((x.o + 2 : Nat) : Int) + two x.k ≤ (cs.length : Int) := by
  refine ⟨?_, ?_, ?_⟩
  · have := h.arn.at' i x hx 0 x.c (by rw [tw.cells_many hm]; rfl)
    simpa using this
  · exact h.arn.at' i x hx 1 x.sn (by rw [tw.cells_many hm]; rfl)
  · have := h.arn.le hx (by rw [tw.cells_many hm]; simp)
    rw [tw.cells_many hm] at this
    have h2 := tw.shlen hm
    simp only [List.length_cons] at this
    omega
theorem Pl.csl2 (h : Pl a cs st C d q) : cs.length ≤ 528 := by
  have := h.csl
  have := h.len
  have := h.l8
  omega
theorem one_f (hm : x.many = false) : x.one = .pointer (some ⟨x.sp, 0, none⟩) ∧ x.mny = .pointer none := by simp [Cr.one, Cr.mny, hm]
theorem one_t (hm : x.many = true) : x.one = .pointer none ∧ x.mny = .pointer (some ⟨x.sp, 0, none⟩) := by simp [Cr.one, Cr.mny, hm]
set_option maxHeartbeats 1000000 in
theorem pair_show (h : Bo R W0 W a cs st C d q) (hq : q ≤ 1000) (z at' hi : Int) (hz1 : -9223372036854775808 ≤ at') (hz2 : at' ≤ 9223372036854775807) :
    Calls Tryz.prog 29 #[.pointer (some ⟨C.r, 0, none⟩), .int .i64 z, .int .i64 at', .int .i64 hi] W fun e w1 => ∃ (m : Int) (E : Value), e = .returned (.tuple #[.int .i64 m, E]) ∧ R.inv w1 ∧ Calls Tryz.prog 65 #[.pointer (some ⟨d.wb, 0, none⟩), .int .i64 z, .int .i64 at', .int .i64 hi] w1 fun e w2 => ∃ n, e = .returned (.tuple #[.int .i64 m, .int .i64 n]) ∧ ErrAt w2 E n ∧ BoN R W0 w2 a (q + 1) C.r d.wb := by
  by_cases hz : z < 0 ∨ (d.L.length : Int) ≤ z
  · obtain ⟨p, cap, _, c3⟩ := h.cm.c3
    refine (rshow_out c3 (by rw [h.pl.len]; exact h.pl.l8) z at' hi (by rw [h.pl.len]; exact hz)).mono ?_
    rintro e w1 ⟨p, rfl, hc, hb⟩
    have hcm := h.cm.keep hb
    refine ⟨_, _, rfl, hcm.rinv, ?_⟩
    refine (dshow_none hcm.dm z at' hi hz h.pl.l8).mono ?_
    rintro e w2 ⟨rfl, rfl⟩
    exact ⟨3, rfl, errat1 (by decide) hc, h.same hb⟩
  obtain ⟨i, rfl⟩ : ∃ i : Nat, z = i := ⟨z.toNat, by omega⟩
  obtain ⟨x, y, hx, hy, tw⟩ := h.pl.at (i := i) (by omega)
  have hl8 : C.L.length ≤ 8 := by rw [h.pl.len]; exact h.pl.l8
  obtain ⟨rg, cap, hrv, hat⟩ := h.cm.at hx hl8
  have c0 := tw.c0
  have c1 := tw.c1
  have p0 := tw.p0
  have p1 := tw.p1
  have k6 := tw.k6
  have st0 := h.pl.st0
  have st1 := h.pl.st1
  have hdoc : ∀ {C' : Cw} {cs' : List Int} {st' : Int} {w1 : World}, Dm (lay W0.heap.size (C'.lys a) R) W0 w1 a cs' st' d → _ := fun {C'} {cs'} {st'} {w1} hd => dshow_any hd hy h.pl.l8 (by omega) tw.shl at' hi c0 (by omega) p0
  have hno : ∀ {w1 : World} {p m : Nat}, Below W.heap.size W w1 → Chain w1 (Flt p) m 1 → showD y at' hi = (0, 1, y) → ∃ (m' : Int) (E : Value), Ending.returned (.tuple #[.int .i64 0, Flt p]) = Ending.returned (.tuple #[.int .i64 m', E]) ∧ R.inv w1 ∧ Calls Tryz.prog 65 #[.pointer (some ⟨d.wb, 0, none⟩), .int .i64 i, .int .i64 at', .int .i64 hi] w1 fun e w2 => ∃ n, e = .returned (.tuple #[.int .i64 m', .int .i64 n]) ∧ ErrAt w2 E n ∧ BoN R W0 w2 a (q + 1) C.r d.wb := fun {w1} {p} {m} hb hc hs => by
    have hcm := h.cm.keep hb
    refine ⟨_, _, rfl, hcm.rinv, ?_⟩
    refine (hdoc hcm.dm).mono ?_
    rintro e w2 ⟨rfl, _, ho⟩
    rw [hs] at ho ⊢
    rcases ho with ho | rfl
    · exact absurd (show (1 : Int) = 0 from ho) (by decide)
    · exact ⟨1, rfl, errat2 (by decide) hc, h.same hb⟩
  by_cases hah : hi < at'
  · refine (rshow_arg hat at' hi hah).mono ?_
    rintro e w1 ⟨p, rfl, hc, hb⟩
    exact hno hb hc (by unfold showD; rw [if_pos hah])
  rcases Bool.eq_false_or_eq_true y.many with hm | hm
  case inr =>
    have hmx : x.many = false := by rw [tw.m, hm]
    obtain ⟨o1, o2⟩ := one_f hmx
    rw [o1, o2] at hat
    have hsg := h.cm.one' hx hmx (tw.sg hm).1
    by_cases hb : hi ≤ y.p ∨ y.c < hi
    · refine (rshow_err hat at' hi (by omega) fun w hw => one_publish_bad _ _ (hsg.keep hw).c at' hi (by rw [tw.p hm, tw.c]; exact hb)).mono ?_
      rintro e w1 ⟨p, rfl, hc, hbl⟩
      exact hno hbl hc (by unfold showD; rw [if_neg hah, if_pos hm, if_pos hb])
    · have hcur := (List.getElem?_eq_some_iff.1 (h.pl.cur1 hx tw hm)).1
      refine (rshow_any (Pe := fun R w => Sg R W0 w x.sp a x.k x.o [] x.c hi x.sn x.sc (cs.set x.o hi) (st + 1)) (sg_bx W0 x.sp a x.k x.o [] x.c x.p x.sn x.sc cs st) hsg at' hi hi (by omega) (by omega) (by omega) (fun op w hi => Cw.Y_find (a := a) hx hl8 (h.cm.one hx) op w hi) (fun w hi => by
        obtain ⟨rg, cap, _, hr⟩ := Cw.Y_at (a := a) hx hl8 (h.cm.one hx) hi
        rw [o1, o2] at hr
        exact hr.rn) fun w hw => one_publish _ _ hw at' hi (by rw [tw.p hm]; omega) (by rw [tw.c]; omega) hcur st0 (by omega)).mono ?_
      rintro e w1 ⟨rfl, hg⟩
      obtain ⟨k1, hk1, hcm⟩ := Sg.cm hx hmx hg
      have hcm1 : Cm (lay W0.heap.size d.lys R) W0 w1 a _ _ _ := hcm
      refine ⟨_, _, rfl, hcm1.rinv, ?_⟩
      have es : showD y at' hi = (hi + 1, 0, { y with p := hi }) := by unfold showD; rw [if_neg hah, if_pos hm, if_neg hb]
      refine (hdoc hcm1.dm).mono ?_
      rintro e w2 ⟨rfl, hd, _⟩
      rw [es] at hd ⊢
      refine ⟨0, rfl, ErrAt.none _, BoN.mk hd (h.pl.ring1 hx hy rfl rfl ?_ (List.length_set) ?_ (by omega) (by omega) rfl rfl rfl rfl rfl rfl) rfl rfl⟩
      · have := h.pl.arn.put (x' := { x with c := x.c, p := hi, sn := x.sn, sc := x.sc, cs := k1 }) (m := 0) (u := hi) hx (by rw [tw.cells_one hm]; simp) rfl (by rw [tw.cells_one hm]; unfold Cr.cells; simp [hmx])
        simpa using this
      · have hs1 := (tw.sg hm).2
        exact { tw.up (Nat.le_succ q) with p := fun _ => rfl, p0 := by simp only; omega, p1 := by simp only; omega, sg := fun _ => ⟨hk1, by simp only; omega⟩, sq := fun e => absurd (hm.symm.trans e) (by decide) }
  case inl =>
    have hmx : x.many = true := by rw [tw.m, hm]
    obtain ⟨o1, o2⟩ := one_t hmx
    rw [o1, o2] at hat
    obtain ⟨u1, u2, u3⟩ := h.pl.curm hx tw hm
    have cl2 := h.pl.csl2
    have hN := two_pos x.k
    have k6x : x.k ≤ 20 := by rw [tw.k]; omega
    have hms := h.cm.many' hx hmx k6x (by omega) (tw.sq hm).1
    have hsw := (tw.sq hm).2
    by_cases hb : at' < 0 ∨ y.c < at'
    · refine (rshow_err hat at' hi (by omega) fun w hw => manyg_publish_bad (s := x.seq a) _ _ _ (hms.keep hw) u1 (by rw [tw.c]; exact hsw) (by omega) at' hi ⟨hz1, hz2⟩ (by rw [tw.c]; exact hb) st0 (by omega)).mono ?_
      rintro e w1 ⟨p, rfl, hc, hbl⟩
      exact hno hbl hc (by unfold showD; rw [if_neg hah, if_neg (by rw [hm]; decide), if_pos hb])
    · obtain ⟨i2, hi2, hil2⟩ := mod_nat x.k at'
      have hsx : showN cs (x.o + 2) x.k at' 1 = cs.set (x.o + 2 + i2) (at' / two x.k) := by simp [showN, hi2]
      have htm : (at'.tmod (two y.k)).toNat = i2 := by
        rw [← tw.k, Int.tmod_eq_emod_of_nonneg (by omega), hi2]
        simp
      refine (rshow_any (Pe := fun R w => Ms R W0 w (x.seq a) [] x.sw (cs.set (x.o + 2 + i2) (at' / two x.k)) (st + 1)) (ms_bs W0 (x.seq a) [] x.sw cs st).toBx hms at' hi at' (by omega) (by omega) (by omega) (fun op w hi => Cw.Y_find (a := a) hx hl8 (h.cm.one hx) op w hi) (fun w hi => by
        obtain ⟨rg, cap, _, hr⟩ := Cw.Y_at (a := a) hx hl8 (h.cm.one hx) hi
        rw [o1, o2] at hr
        exact hr.rn) fun w hw => by
          have := manyg_publish (s := x.seq a) (.pointer (some ⟨x.sb, 0, none⟩)) (.pointer none) x.wv hw u1 (by rw [tw.c]; exact hsw) (by omega) (by simpa [Cr.seq] using u3) at' hi (by omega) (by rw [tw.c]; omega) (by rw [tw.c]; omega) st0 (by omega)
          rw [show showN cs (x.seq a).f (x.seq a).k at' 1 = cs.set (x.o + 2 + i2) (at' / two x.k) from hsx] at this
          exact this).mono ?_
      rintro e w1 ⟨rfl, hg⟩
      obtain ⟨k1, hk1, hcm⟩ := Ms.cm (c := x.c) (sn := x.sn) (sh := x.sh.set i2 (at' / two x.k)) hx hmx hg
      have hcm1 : Cm (lay W0.heap.size d.lys R) W0 w1 a _ _ _ := hcm
      refine ⟨_, _, rfl, hcm1.rinv, ?_⟩
      have es : showD y at' hi = (at' + 1, 0, { y with shown := y.shown.set i2 at' }) := by unfold showD; rw [if_neg hah, if_neg (by rw [hm]; decide), if_neg hb, htm]
      refine (hdoc hcm1.dm).mono ?_
      rintro e w2 ⟨rfl, hd, _⟩
      rw [es] at hd ⊢
      refine ⟨0, rfl, ErrAt.none _, BoN.mk hd (h.pl.ring1 hx hy rfl rfl ?_ (List.length_set) ?_ (by omega) (by omega) rfl rfl rfl rfl rfl rfl) rfl rfl⟩
      · have hshl := tw.shlen hm
        have := h.pl.arn.put (x' := { x with c := x.c, sn := x.sn, sw := x.sw, sh := x.sh.set i2 (at' / two x.k), cs := k1 }) (m := 2 + i2) (u := at' / two x.k) hx (by rw [tw.cells_many hm]; simp; omega) rfl (by rw [tw.cells_many hm]; unfold Cr.cells; simp [hmx, show 2 + i2 = i2 + 1 + 1 by omega])
        rw [show x.o + (2 + i2) = x.o + 2 + i2 by omega] at this
        exact this
      · refine { tw.up (Nat.le_succ q) with sh := fun _ => ?_, shl := ?_, shn := fun s v hv => ?_, sg := fun e => absurd (hm.symm.trans e) (by decide), sq := fun _ => ⟨hk1, hsw⟩ }
        · simp only
          rw [List.map_set, ← tw.sh hm, tw.k]
        · simp only [List.length_set]
          exact tw.shl
        · simp only at hv ⊢
          by_cases e : i2 = s
          · subst e
            rw [List.getElem?_set_self (by have := tw.shl; rw [← tw.k] at this; omega), Option.some.injEq] at hv
            subst hv
            exact .inr ⟨by omega, by omega, by rw [← tw.k]; exact hi2⟩
          · rw [List.getElem?_set_ne e] at hv
            exact tw.shn s v hv
end
end Go.Proofs.YtdfcfdcekdmcmaaGreat
namespace Go.Proofs.YtdfcfdcekdmcmaaGreat
open Go.RowKit
set_option linter.unusedVariables false
set_option linter.unusedSimpArgs false
section
variable {R : Rest} {W0 W w : World} {a : Nat} {cs : List Int} {st : Int} {C : Cw} {d : Dw} {q i : Nat} {x : Cr} {y : Dr}
theorem Pl.shown (h : Pl a cs st C d q) (hx : C.L[i]? = some x) (tw : Tw a q x y) (hm : y.many = true) (s : Int) (hs : 0 ≤ s) : shownB cs (x.o + 2) x.k s = shownD y s := by
  obtain ⟨i2, hi2, hil2⟩ := mod_nat x.k s
  have hN := two_pos x.k
  have hl := tw.shl
  rw [← tw.k] at hl
  have hlt : i2 < y.shown.length := by omega
  obtain ⟨v, hv⟩ : ∃ v, y.shown[i2]? = some v := ⟨_, List.getElem?_eq_getElem hlt⟩
  have hc : cs[x.o + 2 + i2]? = some (v / two x.k) := by
    have := h.arn.at' i x hx (2 + i2) (v / two x.k) (by
      rw [tw.cells_many hm, show 2 + i2 = i2 + 1 + 1 by omega, List.getElem?_cons_succ, List.getElem?_cons_succ, tw.sh hm, List.getElem?_map, hv, tw.k]
      rfl)
    rw [show x.o + (2 + i2) = x.o + 2 + i2 by omega] at this
    exact this
  have htm : (s.tmod (two y.k)).toNat = i2 := by
    rw [← tw.k, Int.tmod_eq_emod_of_nonneg hs, hi2]
    simp
  unfold shownB shownD
  rw [hi2, htm]
  simp only [Int.toNat_natCast, List.getD_eq_getElem?_getD, hc, hv, Option.getD_some]
  have hsd := Int.mul_ediv_add_emod s (two x.k)
  rw [hi2] at hsd
  have hs0 : 0 ≤ s / two x.k := Int.ediv_nonneg hs (by omega)
  rcases tw.shn i2 v hv with rfl | ⟨v0, v1, v2⟩
  · have hneg : (-1 : Int) / two x.k < 0 := Int.ediv_neg_of_neg_of_pos (by decide) hN
    have e1 : ((-1 : Int) / two x.k == s / two x.k) = false := by simp; omega
    have e2 : ((-1 : Int) == s) = false := by simp; omega
    rw [e1, e2]
  · rw [← tw.k] at v2
    have hvd := Int.mul_ediv_add_emod v (two x.k)
    rw [v2] at hvd
    by_cases e : v = s
    · rw [e]
      simp
    · have e3 : v / two x.k ≠ s / two x.k := fun e4 => e (by rw [← hvd, ← hsd, e4])
      rw [show (v / two x.k == s / two x.k) = false by simpa using e3, show (v == s) = false by simpa using e]
theorem pair_pub (h : Bo R W0 W a cs st C d q) (hq : q ≤ 1000) (z lo : Int) :
    Calls Tryz.prog 30 #[.pointer (some ⟨C.r, 0, none⟩), .int .i64 z, .int .i64 lo] W fun e w1 => ∃ (m : Int) (E : Value), e = .returned (.tuple #[.int .i64 m, E]) ∧ R.inv w1 ∧ Calls Tryz.prog 66 #[.pointer (some ⟨d.wb, 0, none⟩), .int .i64 z, .int .i64 lo] w1 fun e w2 => ∃ n, e = .returned (.tuple #[.int .i64 m, .int .i64 n]) ∧ ErrAt w2 E n ∧ BoN R W0 w2 a (q + 1) C.r d.wb := by
  by_cases hz : z < 0 ∨ (d.L.length : Int) ≤ z
  · obtain ⟨p, cap, _, c3⟩ := h.cm.c3
    refine (rpublished_out c3 (by rw [h.pl.len]; exact h.pl.l8) z lo (by rw [h.pl.len]; exact hz)).mono ?_
    rintro e w1 ⟨p, rfl, hc, hb⟩
    have hcm := h.cm.keep hb
    refine ⟨_, _, rfl, hcm.rinv, ?_⟩
    refine (dpub_none hcm.dm z lo hz h.pl.l8).mono ?_
    rintro e w2 ⟨rfl, rfl⟩
    exact ⟨3, rfl, errat1 (by decide) hc, h.same hb⟩
  obtain ⟨i, rfl⟩ : ∃ i : Nat, z = i := ⟨z.toNat, by omega⟩
  obtain ⟨x, y, hx, hy, tw⟩ := h.pl.at (i := i) (by omega)
  have hl8 : C.L.length ≤ 8 := by rw [h.pl.len]; exact h.pl.l8
  obtain ⟨rg, cap, hrv, hat⟩ := h.cm.at hx hl8
  by_cases hlo : lo < 0 ∨ 4611686018427387904 < lo
  · refine (rpublished_range hat lo hlo).mono ?_
    rintro e w1 ⟨p, rfl, hc, hb⟩
    have hcm := h.cm.keep hb
    refine ⟨_, _, rfl, hcm.rinv, ?_⟩
    refine (dpub_range hcm.dm (by omega) lo hlo h.pl.l8).mono ?_
    rintro e w2 ⟨rfl, rfl⟩
    exact ⟨5, rfl, errat1 (by decide) hc, h.same hb⟩
  have lo0 : 0 ≤ lo := by omega
  have lo1 : lo ≤ 4611686018427387904 := by omega
  have c0 := tw.c0
  have c1 := tw.c1
  have p0 := tw.p0
  have k6 := tw.k6
  have st0 := h.pl.st0
  have st1 := h.pl.st1
  rcases Bool.eq_false_or_eq_true y.many with hm | hm
  case inr =>
    have hmx : x.many = false := by rw [tw.m, hm]
    obtain ⟨o1, o2⟩ := one_f hmx
    have hsg := h.cm.one' hx hmx (tw.sg hm).1
    refine (rpublished_any (Pe := fun R w => Sg R W0 w x.sp a x.k x.o [] x.c x.p x.sn x.sc cs st) (sg_bx W0 x.sp a x.k x.o [] x.c x.p x.sn x.sc cs st) hsg lo (max (lo - 1) x.p) lo0 lo1 (fun op w hi => Cw.Y_find (a := a) hx hl8 (h.cm.one hx) op w hi) (fun w hi => by
      obtain ⟨rg, cap, _, hr⟩ := Cw.Y_at (a := a) hx hl8 (h.cm.one hx) hi
      rw [o1, o2] at hr
      exact hr.rn) fun w hw => one_published _ _ hw lo lo0 lo1).mono ?_
    rintro e w1 ⟨rfl, hg⟩
    obtain ⟨k1, hk1, hcm⟩ := Sg.cm hx hmx hg
    have hcm1 : Cm (lay W0.heap.size d.lys R) W0 w1 a _ _ _ := hcm
    refine ⟨_, _, rfl, hcm1.rinv, ?_⟩
    refine (dpub_one hcm1.dm hy hm h.pl.l8 lo lo0 lo1).mono ?_
    rintro e w2 ⟨rfl, hb⟩
    refine ⟨0, by rw [tw.p hm], ErrAt.none _, BoN.mk (hcm1.keep hb).dm (h.pl.ring1 (y' := y) hx hy rfl (set_same hy).symm ?_ rfl ?_ (by omega) (by omega) rfl rfl rfl rfl rfl rfl) rfl rfl⟩
    · exact h.pl.arn.same hx rfl rfl
    · exact { tw.up (Nat.le_succ q) with sg := fun e => ⟨hk1, (tw.sg e).2⟩, sq := fun e => absurd (hm.symm.trans e) (by decide) }
  case inl =>
    have hmx : x.many = true := by rw [tw.m, hm]
    obtain ⟨o1, o2⟩ := one_t hmx
    obtain ⟨u1, u2, u3⟩ := h.pl.curm hx tw hm
    have cl2 := h.pl.csl2
    have hN := two_pos x.k
    have k6x : x.k ≤ 20 := by rw [tw.k]; omega
    have hms := h.cm.many' hx hmx k6x (by omega) (tw.sq hm).1
    obtain ⟨j0, hj0⟩ := runto_ex (shownB cs (x.o + 2) x.k) lo x.c
    have hj1 : lo + (j0 : Int) - 1 ≤ 4611686018427387904 := by
      obtain ⟨_, _, h3⟩ := hj0
      rcases h3 with rfl | h3
      · simp only [Int.natCast_zero]
        omega
      · have := tw.c
        omega
    refine (rpublished_any (Pe := fun R w => ∃ st', (st ≤ st' ∧ st' ≤ st + 1048578) ∧ Ms R W0 w (x.seq a) [] x.sw cs st') (ms_bs W0 (x.seq a) [] x.sw cs st).toBx hms lo (lo + j0 - 1) lo0 lo1 (fun op w hi => Cw.Y_find (a := a) hx hl8 (h.cm.one hx) op w hi) (fun w hi => by
      obtain ⟨rg, cap, _, hr⟩ := Cw.Y_at (a := a) hx hl8 (h.cm.one hx) hi
      rw [o1, o2] at hr
      exact hr.rn) fun w hw => by
        refine (manyg_published (s := x.seq a) (.pointer (some ⟨x.sb, 0, none⟩)) (.pointer none) x.wv hw u1 lo lo0 lo1 (by rw [tw.c]; exact c0) (by rw [tw.c]; omega) (by simpa [Cr.seq] using u3) st0 (by omega)).mono ?_
        rintro e w' ⟨j, st', hj, rfl, hg, a1, a2⟩
        obtain rfl : j = j0 := RunTo.unique hj hj0 fun _ _ _ => rfl
        exact ⟨rfl, st', ⟨a1, a2⟩, hg⟩).mono ?_
    rintro e w1 ⟨rfl, st', ⟨a1, a2⟩, hg⟩
    obtain ⟨k1, hk1, hcm⟩ := Ms.cm (c := x.c) (sn := x.sn) (sh := x.sh) hx hmx hg
    have hcm1 : Cm (lay W0.heap.size d.lys R) W0 w1 a _ _ _ := hcm
    refine ⟨_, _, rfl, hcm1.rinv, ?_⟩
    refine (dpub_many hcm1.dm hy hm h.pl.l8 (by omega) tw.shl c0 (by omega) lo lo0 lo1).mono ?_
    rintro e w2 ⟨j, hj, rfl, hb⟩
    have ej : j = j0 := by
      rw [← tw.c] at hj
      exact RunTo.unique hj hj0 fun s hs _ => (h.pl.shown hx tw hm s (by omega)).symm
    refine ⟨0, by rw [ej], ErrAt.none _, BoN.mk (hcm1.keep hb).dm (h.pl.ring1 (y' := y) hx hy rfl (set_same hy).symm ?_ rfl ?_ (by omega) (by omega) rfl rfl rfl rfl rfl rfl) rfl rfl⟩
    · exact h.pl.arn.same hx rfl rfl
    · exact { tw.up (Nat.le_succ q) with sg := fun e => absurd (hm.symm.trans e) (by decide), sq := fun e => ⟨hk1, (tw.sq e).2⟩ }
end
end Go.Proofs.YtdfcfdcekdmcmaaGreat
namespace Go.Proofs.YtdfcfdcekdmcmaaGreat
open Go.RowKit
set_option linter.unusedVariables false
set_option linter.unusedSimpArgs false
section
variable {W : World} {r n cap : Nat} {p : Option Addr}
theorem rring_kindG (r : Nat) (n kd : Int) (h0 : kd ≠ 0) (h1 : kd ≠ 1) (W : World) : Calls Tryz.prog 23 #[.pointer (some ⟨r, 0, none⟩), .int .i64 n, .int .i64 kd] W fun e w' => ∃ q, e = .returned (.tuple #[.int .i64 0, Flt q]) ∧ NewE W w' q 1 := by
  have d0 : (kd != 0) = true := by simpa using h0
  have d1 : (kd != 1) = true := by simpa using h1
  go_enter Tryz.func23, Tryz.ntmps23
  go_wp2_with (go_at_call 75; refine (wrap_iface _ _ _ _).mono ?_; rintro e w' ⟨rfl, hw⟩; obtain ⟨hch, hbb⟩ := ferr hw; clear hw)
  go_ret2
  exact ⟨_, rfl, hch, hbb⟩
theorem rring_size (r : Nat) (n kd : Int) (hkd : kd = 0 ∨ kd = 1) (hw : -9223372036854775808 ≤ n) (hno : ∀ k, k ≤ 20 → n ≠ two k) (W : World) : Calls Tryz.prog 23 #[.pointer (some ⟨r, 0, none⟩), .int .i64 n, .int .i64 kd] W fun e w' => ∃ q, e = .returned (.tuple #[.int .i64 0, Flt q]) ∧ Chain w' (Flt q) 2 7 ∧ Below W.heap.size W w' := by
  have HO : Hid (Calls Tryz.prog 79 #[.int .i64 n] W fun e w' => ∃ F, e = .returned (.tuple #[.agg #[.int .u8 0], F]) ∧ Chain w' F 1 7 ∧ Below W.heap.size W w') := by
    by_cases h : 1048576 < n
    · exact Lib.hid (of_great n h W)
    · exact Lib.hid (of_other n hw (by omega) hno W)
  clear hno
  rcases hkd with rfl | rfl
  all_goals
    go_enter Tryz.func23, Tryz.ntmps23
    go_wp2_with (first
      | (go_at_call 79; refine HO.out.mono ?_; rintro e w1 ⟨F, rfl, hc, hb⟩; obtain ⟨u, v, rfl⟩ := hc.iface; have HC := Lib.hid (hc.keep ((Below.refl _ _).alloc (Nat.le_refl _) (.cells #[.int .u8 0] 100))); have HB := Lib.hid (balloc hb (.cells #[.int .u8 0] 100)); clear hc hb)
      | (go_at_call 75; refine (wrap_iface _ _ _ _).mono ?_; rintro e w' ⟨rfl, hw⟩; have HE := Lib.hid (wrap_end HC.out HB.out hw); clear hw))
    go_ret2
    exact ⟨_, rfl, by have h := HE.out; simp only [World.size_alloc] at h; exact h⟩
theorem rring_full (c3 : W.cell? ⟨r, 3, none⟩ = some (.slice p n cap)) (hn : n = 8) (k : Nat) (hk : k ≤ 20) (kd : Int) (hkd : kd = 0 ∨ kd = 1) : Calls Tryz.prog 23 #[.pointer (some ⟨r, 0, none⟩), .int .i64 (two k), .int .i64 kd] W fun e w' => ∃ q, e = .returned (.tuple #[.int .i64 0, Flt q]) ∧ NewE W w' q 8 := by
  subst hn
  have HF : Hid (∀ o w, Below W.heap.size W w → (w.alloc o).cell? ⟨r, 3, none⟩ = some (.slice p 8 cap)) := Lib.hid fun o w hb => keepc (balloc hb o) c3
  rcases hkd with rfl | rfl
  all_goals
    go_enter Tryz.func23, Tryz.ntmps23
    go_wp2_with (first
      | (go_at_call 79; refine (of_yes k hk _).mono ?_; rintro e w1 ⟨rfl, hb⟩; have k3 := HF.out (.cells #[.int .u8 k] 100) _ hb; have HB := Lib.hid (balloc hb (.cells #[.int .u8 k] 100)); clear hb)
      | (go_at_call 75; refine (wrap_iface _ _ _ _).mono ?_; rintro e w' ⟨rfl, hw⟩; obtain ⟨hch, hbb⟩ := ferr hw; clear hw))
    go_ret2
    simp only [World.size_alloc] at hch
    exact ⟨_, rfl, hch, bthen HB.out hbb⟩
end
theorem perm_ring {α : Type} (A A' H G K : List α) (hA : A.Perm A') : (A ++ (H ++ (G ++ K))).Perm (H ++ (K ++ (G ++ A'))) := by
  refine (List.perm_append_comm_assoc A H (G ++ K)).trans (List.Perm.append_left H ?_)
  refine (List.perm_append_comm_assoc A G K).trans ?_
  rw [← List.append_assoc]
  exact List.perm_append_comm.trans (List.Perm.append_left K (List.Perm.append_left G hA))
theorem peMg_ba (W0 : World) (a k : Nat) (xs ys : List Int) (st : Int) (L : List Ev) (j : Rj) : Ba W0 (PeMg W0 a k xs ys st L j) :=
  ba_and _ (ba_box (ba_row (ba_box (ms_ba W0 j.s [] (-1) ys st) _ _ _) _ _ _ _ _) _ _ _)
section
variable {R : Rest} {W0 W w : World} {a : Nat} {cs cs' : List Int} {st : Int} {C : Cw} {d : Dw} {q i : Nat} {x : Cr} {y : Dr}
theorem Mv.cmNew (rv : Value) (h : Mv (lay W0.heap.size ([x.sq] ++ (x.bf ++ (x.sl ++ (({ C with rv := rv, L := C.L ++ [x] } : Cw).head a ++ ([.box x.g x.G 149] ++ (ckL C.c C.cv C.ts C.now ++ (tbL C.t C.tv C.xs ++ lays Cr.lys C.L))))))) R) W0 w a cs st) (hw : x.wv = .slice none 0 0) (hs : x.ws = []) : Cm R W0 w a cs st { C with rv := rv, L := C.L ++ [x] } := by
  have h1 := Mv.le h (Rest.nilLe (B := W0.heap.size) 3 1)
  have h2 : Mv (lay W0.heap.size (([.row 3 1 x.wv x.ws.length (x.ws.map (Value.int .i64))] ++ ([x.sq] ++ (x.bf ++ x.sl))) ++ (({ C with rv := rv, L := C.L ++ [x] } : Cw).head a ++ ([.box x.g x.G 149] ++ (ckL C.c C.cv C.ts C.now ++ (tbL C.t C.tv C.xs ++ lays Cr.lys C.L))))) R) W0 w a cs st := by
    rw [hs, List.append_assoc, List.append_assoc, List.append_assoc, hw]
    exact h1
  refine Mv.le h2 (lay_perm ?_)
  have e : ({ C with rv := rv, L := C.L ++ [x] } : Cw).lys a = ({ C with rv := rv, L := C.L ++ [x] } : Cw).head a ++ ((ckL C.c C.cv C.ts C.now ++ (tbL C.t C.tv C.xs ++ lays Cr.lys C.L)) ++ ([.box x.g x.G 149] ++ ([.row 3 1 x.wv x.ws.length (x.ws.map (Value.int .i64))] ++ ([x.sq] ++ (x.sl ++ x.bf))))) := by
    unfold Cw.lys
    rw [lays_snoc]
    simp [Cr.lys, Cr.top, List.append_assoc]
  rw [e]
  exact perm_ring _ _ _ _ _ (List.Perm.append_left _ (List.Perm.append_left _ List.perm_append_comm))
theorem newD_tw {m : Bool} {shv slv : Value} (hk : x.k ≤ 6) (hm : x.many = m) (hc : x.c = -1) (hsn : x.sn = -1) (hws : x.ws = []) (hsc : x.sc = 0) (hp : m = false → x.p = -1) (hsh : m = true → x.sh = List.replicate (two x.k).toNat (-1)) (h1 : m = false → SgF x.cs a x.k x.o [] x.c x.p x.sn x.sc) (h2 : m = true → SqF x.cs (x.seq a) [] x.sw ∧ x.sw = -1) : Tw a q x (newD x.k m shv slv) := by
  have hN := two_pos x.k
  refine { k := rfl, k6 := hk, m := hm, c := hc, sn := hsn, ws := hws, wl := by simp [newD], wn := by simp [newD], p := fun e => hp e, sh := fun e => ?_, shl := by simp [newD]; omega, shn := fun s v hv => ?_, c0 := by simp [newD], c1 := by simp [newD]; omega, p0 := by simp [newD], p1 := by simp [newD], s0 := by simp [newD], s1 := by simp [newD], sc := by omega, sg := fun e => ⟨h1 e, by simp [newD]⟩, sq := fun e => ⟨(h2 e).1, by rw [(h2 e).2]; simp [newD]⟩ }
  · rw [hsh e]
    have e1 : (-1 : Int) / two x.k = -1 := by
      have h3 := Int.mul_ediv_add_emod (-1) (two x.k)
      have h4 := Int.emod_nonneg (-1) (show two x.k ≠ 0 by omega)
      have h6 : (-1 : Int) / two x.k < 0 := Int.ediv_neg_of_neg_of_pos (by decide) hN
      by_cases h7 : (-1 : Int) / two x.k ≤ -2
      · have h8 : two x.k * ((-1 : Int) / two x.k) ≤ two x.k * (-2) := Int.mul_le_mul_of_nonneg_left h7 (by omega)
        have h5 := Int.emod_lt_of_pos (-1) hN
        omega
      · omega
    simp [newD, e1]
  · refine .inl ?_
    have := List.mem_of_getElem? hv
    simp only [newD, List.mem_replicate] at this
    exact this.2
theorem Pl.snoc (h : Pl a cs st C d q) (hl : d.L.length < 8) (ho : x.o = cs.length) (hcn : x.cells.length ≤ 66) (tw : Tw a (q + 1) x y) (rv rv' : Value) (hpos : ∀ (i : Nat) (x : Cr), C.L[i]? = some x → 0 < x.cells.length) : Pl a (cs ++ x.cells) st { C with rv := rv, L := C.L ++ [x] } { d with L := d.L ++ [y], rv := rv' } (q + 1) :=
  { arn := h.arn.snoc hpos ho
    csl := by have := h.csl; simp only [List.length_append, List.length_singleton]; omega
    len := by simp only [List.length_append, List.length_singleton]; rw [h.len]
    l8 := by simp only [List.length_append, List.length_singleton]; omega
    tw := by
      intro k u v hu hv
      simp only at hu hv
      have hle := h.len
      by_cases e : k < C.L.length
      · rw [List.getElem?_append_left e] at hu
        rw [List.getElem?_append_left (by omega)] at hv
        exact (h.tw k u v hu hv).up (by omega)
      · rw [List.getElem?_append_right (by omega)] at hu
        rw [List.getElem?_append_right (by omega)] at hv
        have e2 : k - C.L.length = 0 := by
          have := (List.getElem?_eq_some_iff.1 hu).1
          simp only [List.length_singleton] at this
          omega
        rw [e2] at hu
        rw [show k - d.L.length = 0 by omega] at hv
        simp only [List.getElem?_cons_zero, Option.some.injEq] at hu hv
        subst hu hv
        exact tw
    now := h.now, n0 := h.n0, n1 := h.n1, ts := h.ts, xs := h.xs, xl := h.xl, tim := h.tim, dis := h.dis, wb := h.wb.up (by omega), sv := h.sv, st0 := h.st0, st1 := by have := h.st1; omega }
theorem Cr.cells_pos (x : Cr) : 0 < x.cells.length := by unfold Cr.cells; split <;> simp
def RingN (R : Rest) (W0 w : World) (a q r wb : Nat) (m n : Int) : Prop := ∃ cs st C d, C.r = r ∧ d.wb = wb ∧ Bo R W0 w a cs st C d q ∧ ((n ≠ 0 ∧ m = 0) ∨ (n = 0 ∧ 0 < d.L.length ∧ m = (d.L.length : Int) - 1))
set_option maxRecDepth 100000 in
theorem pair_ring (h : Bo R W0 W a cs st C d q) (hq : q ≤ 1000) (z kd : Int) (hz : z ≤ 64) (hw : -9223372036854775808 ≤ z) :
    Calls Tryz.prog 23 #[.pointer (some ⟨C.r, 0, none⟩), .int .i64 z, .int .i64 kd] W fun e w1 => ∃ (m : Int) (E : Value), e = .returned (.tuple #[.int .i64 m, E]) ∧ R.inv w1 ∧ Calls Tryz.prog 55 #[.pointer (some ⟨d.wb, 0, none⟩), .int .i64 z, .int .i64 kd] w1 fun e w2 => ∃ n, e = .returned (.int .i64 n) ∧ ErrAt w2 E n ∧ RingN R W0 w2 a (q + 1) C.r d.wb m n := by
  have hno : ∀ {w1 : World}, Below W.heap.size W w1 → ∀ n : Int, n ≠ 0 → RingN R W0 w1 a (q + 1) C.r d.wb 0 n := fun hb n hn => ⟨cs, st, C, d, rfl, rfl, ⟨mv_of_cm (h.cm.keep hb), h.pl.up (by omega)⟩, .inl ⟨hn, rfl⟩⟩
  by_cases hkd : kd ≠ 0 ∧ kd ≠ 1
  · refine (rring_kindG C.r z kd hkd.1 hkd.2 W).mono ?_
    rintro e w1 ⟨p, rfl, hc, hb⟩
    have hcm := h.cm.keep hb
    refine ⟨_, _, rfl, hcm.rinv, ?_⟩
    refine (daddr_kind hcm.dm z kd (by omega)).mono ?_
    rintro e w2 ⟨rfl, rfl⟩
    exact ⟨1, rfl, errat1 (by decide) hc, hno hb 1 (by decide)⟩
  have hkd2 : kd = 0 ∨ kd = 1 := by omega
  by_cases hp : ∃ k : Nat, k ≤ 20 ∧ z = two k
  case neg =>
    refine (rring_size C.r z kd hkd2 hw (fun k hk e => hp ⟨k, hk, e⟩) W).mono ?_
    rintro e w1 ⟨p, rfl, hc, hb⟩
    have hcm := h.cm.keep hb
    refine ⟨_, _, rfl, hcm.rinv, ?_⟩
    refine (daddr_size hcm.dm z kd (by omega) (by omega) hp).mono ?_
    rintro e w2 ⟨rfl, rfl⟩
    exact ⟨7, rfl, errat2 (by decide) hc, hno hb 7 (by decide)⟩
  obtain ⟨k, hk, rfl⟩ := hp
  have k6 : k ≤ 6 := by
    by_cases e : k ≤ 6
    · exact e
    · have h7 : two 7 ≤ two k := two_mono (by omega)
      have : two 7 = 128 := rfl
      omega
  by_cases hl : d.L.length < 8
  case neg =>
    obtain ⟨p, cap, _, c3⟩ := h.cm.c3
    refine (rring_full c3 (by rw [h.pl.len]; have := h.pl.l8; omega) k hk kd hkd2).mono ?_
    rintro e w1 ⟨p, rfl, hc, hb⟩
    have hcm := h.cm.keep hb
    refine ⟨_, _, rfl, hcm.rinv, ?_⟩
    refine (daddr_many hcm.dm k hk kd (by omega) (by omega) (by omega)).mono ?_
    rintro e w2 ⟨rfl, rfl⟩
    exact ⟨8, rfl, errat1 (by decide) hc, hno hb 8 (by decide)⟩
  have hle := h.pl.len
  have hcl := h.pl.csl
  have hN : ((two k).toNat : Int) = two k := by have := two_pos k; omega
  have hpos : ∀ (i : Nat) (x : Cr), C.L[i]? = some x → 0 < x.cells.length := fun _ x _ => x.cells_pos
  rcases hkd2 with rfl | rfl
  · refine (rring_gen (Pd := fun R w => Mv R W0 w a cs st) (Pe := fun i => PeOne W0 a k cs.length [] (-1) (-1) (-1) 0 (cs ++ [-1]) st (List.replicate (two k).toNat (0, 0)) i) (R := lay W0.heap.size (ckL C.c C.cv C.ts C.now ++ (tbL C.t C.tv C.xs ++ lays Cr.lys C.L)) (lay W0.heap.size d.lys R)) (a := a) (c := C.c) (t := C.t) (r := C.r) (rv := C.rv) (ps := C.ps) (n := C.L.length) gOne 0 (.inl rfl) hk (by omega) (mv_ba W0 a cs st).toBx (fun i => peOne_ba W0 a k cs.length [] (-1) (-1) (-1) 0 (cs ++ [-1]) st (List.replicate (two k).toNat (0, 0)) i) h.cm (fun R w h => lay_one h hk hN (by omega))).mono ?_
    rintro e w1 ⟨rfl, i, g, rv', k1, hk1, hmv⟩
    have hcm : Cm (lay W0.heap.size d.lys R) W0 w1 a (cs ++ [-1]) st { C with rv := rv', L := C.L ++ [⟨k, false, -1, -1, -1, 0, 0, [], [], g, i.sb, i.rg, i.rc, i.p, 0, cs.length, k1, .slice none 0 0⟩] } := by
      refine Mv.cmNew (a := a) (x := ⟨k, false, -1, -1, -1, 0, 0, [], [], g, i.sb, i.rg, i.rc, i.p, 0, cs.length, k1, .slice none 0 0⟩) rv' ?_ rfl rfl
      unfold Cw.head Cw.ps Cw.cells
      simp only [List.map_append, List.length_append, List.length_singleton]
      exact hmv
    refine ⟨_, _, rfl, hcm.rinv, ?_⟩
    refine (daddr_ok hcm.dm k hk 0 false (.inl ⟨rfl, rfl⟩) hl).mono ?_
    rintro e w2 ⟨rfl, shv, slv, rv2, hd⟩
    have tw : Tw a (q + 1) ⟨k, false, -1, -1, -1, 0, 0, [], [], g, i.sb, i.rg, i.rc, i.p, 0, cs.length, k1, .slice none 0 0⟩ (newD k false shv slv) := newD_tw k6 rfl rfl rfl rfl rfl (fun _ => rfl) (fun e => absurd e (by decide)) (fun _ => hk1) (fun e => absurd e (by decide))
    have hp := h.pl.snoc hl rfl (by simp [Cr.cells]) tw rv' rv2 hpos
    exact ⟨0, rfl, ErrAt.none _, _, _, { C with rv := rv', L := C.L ++ [_] }, { d with L := d.L ++ [_], rv := rv2 }, rfl, rfl, ⟨mv_of_dm hd, hp⟩, .inr ⟨rfl, by simp, by simp only [List.length_append, List.length_singleton]; omega⟩⟩
  · refine (rring_gen (Pd := fun R w => Mv R W0 w a cs st) (Pe := fun j => PeMg W0 a k cs (cs ++ mk (-1) (-1) (List.replicate (two k).toNat (-1)) []) st (List.replicate (two k).toNat (0, 0)) j) (R := lay W0.heap.size (ckL C.c C.cv C.ts C.now ++ (tbL C.t C.tv C.xs ++ lays Cr.lys C.L)) (lay W0.heap.size d.lys R)) (a := a) (c := C.c) (t := C.t) (r := C.r) (rv := C.rv) (ps := C.ps) (n := C.L.length) gMany 1 (.inr rfl) hk (by omega) (mv_ba W0 a cs st).toBx (fun j => peMg_ba _ _ _ _ _ _ _ j) h.cm (fun R w h => lay_many_gen h hk hN (by have : two k ≤ two 6 := two_mono k6; have : two 6 = 64 := rfl; omega))).mono ?_
    rintro e w1 ⟨rfl, j, g, rv', hj, hms⟩
    obtain ⟨k1, hk1, hmv⟩ := hms.boxed
    obtain ⟨s, sb, rg, rc⟩ := j
    obtain ⟨p, b, q0, f, k0, c1, c2⟩ := s
    simp only [Sh.mk.injEq, true_and] at hj
    obtain ⟨rfl, rfl, rfl, rfl, rfl⟩ := hj
    have hcm : Cm (lay W0.heap.size d.lys R) W0 w1 b (cs ++ mk (-1) (-1) (List.replicate (two k0).toNat (-1)) []) st { C with rv := rv', L := C.L ++ [⟨k0, true, -1, 0, -1, 0, -1, List.replicate (two k0).toNat (-1), [], g, sb, rg, rc, p, q0, cs.length, k1, .slice none 0 0⟩] } := by
      refine Mv.cmNew (a := b) (x := ⟨k0, true, -1, 0, -1, 0, -1, List.replicate (two k0).toNat (-1), [], g, sb, rg, rc, p, q0, cs.length, k1, .slice none 0 0⟩) rv' ?_ rfl rfl
      unfold Cw.head Cw.ps Cw.cells
      simp only [List.map_append, List.length_append, List.length_singleton]
      exact hmv
    refine ⟨_, _, rfl, hcm.rinv, ?_⟩
    refine (daddr_ok hcm.dm k0 hk 1 true (.inr ⟨rfl, rfl⟩) hl).mono ?_
    rintro e w2 ⟨rfl, shv, slv, rv2, hd⟩
    have ec : (⟨k0, true, -1, 0, -1, 0, -1, List.replicate (two k0).toNat (-1), [], g, sb, rg, rc, p, q0, cs.length, k1, .slice none 0 0⟩ : Cr).cells = mk (-1) (-1) (List.replicate (two k0).toNat (-1)) [] := by simp [Cr.cells, mk]
    have tw : Tw b (q + 1) ⟨k0, true, -1, 0, -1, 0, -1, List.replicate (two k0).toNat (-1), [], g, sb, rg, rc, p, q0, cs.length, k1, .slice none 0 0⟩ (newD k0 true shv slv) := newD_tw k6 rfl rfl rfl rfl rfl (fun e => absurd e (by decide)) (fun _ => rfl) (fun e => absurd e (by decide)) (fun _ => ⟨hk1, rfl⟩)
    have hp := h.pl.snoc hl rfl (by rw [ec]; simp [mk]; have : two k0 ≤ two 6 := two_mono k6; have : two 6 = 64 := rfl; omega) tw rv' rv2 hpos
    rw [ec] at hp
    exact ⟨0, rfl, ErrAt.none _, _, _, { C with rv := rv', L := C.L ++ [_] }, { d with L := d.L ++ [_], rv := rv2 }, rfl, rfl, ⟨mv_of_dm hd, hp⟩, .inr ⟨rfl, by simp, by simp only [List.length_append, List.length_singleton]; omega⟩⟩
end
end Go.Proofs.YtdfcfdcekdmcmaaGreat
