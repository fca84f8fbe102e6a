/-
  What may be done to a sequencer of package multi whose arena has its cells alone, by contract; the statements' own example. Conditions: fewer than 2^60 steps.
-/
import Derived.Test.YteinfkcnengmeaaMg
namespace Go.Proofs.Yteinfkcnengmeaa
open Go.RowKit

theorem mk_show (c sn : Int) (sh gv : List Int) (k : Nat) (hk : (sh.length : Int) = two k) (lo : Int) (m : Nat) : showN (mk c sn sh gv) 2 k lo m = mk c sn (showN sh 0 k lo m) gv := by
  induction m with
  | zero => rfl
  | succ m ih =>
    obtain ⟨i, hi, hil⟩ := mod_nat k (lo + m)
    rw [showN, showN, ih, hi]
    simp only [Int.toNat_natCast, Nat.zero_add]
    exact mk_set_sh c sn _ _ gv (by rw [showN_len]; omega)
theorem mk_shown (c sn : Int) (sh gv : List Int) (k : Nat) (hk : (sh.length : Int) = two k) (x : Int) : shownB (mk c sn sh gv) 2 k x = shownB sh 0 k x := by
  obtain ⟨i, hi, hil⟩ := mod_nat k x
  unfold shownB
  rw [hi]
  simp only [Int.toNat_natCast, Nat.zero_add]
  rw [getD_of (mk_sh c sn sh gv (by omega))]
theorem mk_shownF (c sn : Int) (sh gv : List Int) (k : Nat) (hk : (sh.length : Int) = two k) : shownB (mk c sn sh gv) 2 k = shownB sh 0 k := funext fun x => mk_shown c sn sh gv k hk x

section
variable {R : Rest} {W0 W w : World} {s : Sh} {c sn sw st : Int} {sh gv : List Int}
theorem Lv.with (h : Lv R W0 W s c sn sh gv sw st) {st' : Int} (hm : Ms R W0 w s (idsN sh.length gv.length) sw (mk c sn sh gv) st') : Lv R W0 w s c sn sh gv sw st' := ⟨hm, h.n, h.cur, h.cch, h.f, h.c1, h.swc⟩
theorem Lv.cc (h : Lv R W0 W s c sn sh gv sw st) : (mk c sn sh gv)[s.cur]? = some c := by rw [h.cur]; rfl
theorem Lv.fl (h : Lv R W0 W s c sn sh gv sw st) : (s.f : Int) + two s.k ≤ ((mk c sn sh gv).length : Int) := by
  rw [h.f, mk_len, ← h.n]
  omega

theorem lclaimed (h : Lv R W0 W s c sn sh gv sw st) (h0 : 0 ≤ st) (h1 : st < 1152921504606846976) :
    Calls Try.prog 62 #[.pointer (some ⟨s.p, 0, none⟩)] W fun e w' => e = .returned (.int .i64 c) ∧ Lv R W0 w' s c sn sh gv sw (st + 1) :=
  (mclaimed_some h.ms h.cc h0 (by omega)).mono fun _ _ ⟨he, hm⟩ => ⟨he, h.with hm⟩
theorem lremaining (h : Lv R W0 W s c sn sh gv sw st) (hc2 : c ≤ 4611686018427387904) (h0 : 0 ≤ st) (h1 : st < 1152921504606846976) :
    Calls Try.prog 61 #[.pointer (some ⟨s.p, 0, none⟩)] W fun e w' => e = .returned (.tuple #[.int .i64 (remP (two s.k) c gv), .nilIface]) ∧ ∃ st', st ≤ st' ∧ st' ≤ st + 33 ∧ Lv R W0 w' s c sn sh gv sw st' := by
  refine (mremaining h.ms h.hin h.cc h.c1 hc2 h0 h1).mono ?_
  rintro e w' ⟨he, hm⟩
  rw [vals_mk] at he
  have := h.g32
  rw [idsN_len] at hm
  exact ⟨he, _, by omega, by omega, h.with hm⟩
theorem lhigh (h : Lv R W0 W s c sn sh gv sw st) (lo : Int) (hl0 : 0 ≤ lo) (hl1 : lo ≤ 4611686018427387904) (hc2 : c ≤ 4611686018427387904) (h0 : 0 ≤ st) (h1 : st < 1152921504606846976) :
    Calls Try.prog 63 #[.pointer (some ⟨s.p, 0, none⟩), .int .i64 lo] W fun e w' => ∃ j : Nat, RunTo (shownB sh 0 s.k) lo c j ∧ e = .returned (.tuple #[.int .i64 (lo + j - 1), .nilIface]) ∧ ∃ st', st ≤ st' ∧ st' ≤ st + 1048578 ∧ Lv R W0 w' s c sn sh gv sw st' := by
  refine (mhigh_ok h.ms h.cc lo hl0 hl1 h.c1 hc2 h.fl h0 h1).mono ?_
  rintro e w' ⟨j, st', hr, he, hm, a1, a2⟩
  rw [h.f, mk_shownF c sn sh gv s.k h.n] at hr
  exact ⟨j, hr, he, st', a1, a2, h.with hm⟩
theorem lpub (h : Lv R W0 W s c sn sh gv sw st) (lo hi : Int) (hl0 : 0 ≤ lo) (hlh : lo ≤ hi) (hd : hi - lo < two s.k) (hc : hi ≤ c) (hc2 : c ≤ 4611686018427387904) (m : Nat) (hmm : hi - lo + 1 = m) (h0 : 0 ≤ st) (h1 : st < 1152921504606846976) :
    Calls Try.prog 58 #[.pointer (some ⟨s.p, 0, none⟩), .int .i64 lo, .int .i64 hi] W fun e w' => e = .returned .nilIface ∧ Lv R W0 w' s c sn (showN sh 0 s.k lo m) gv sw (st + m) := by
  refine (mpub_ok h.ms h.cc h.swc h.len lo hi hl0 hlh hd hc hc2 m hmm h.fl h0 h1).mono ?_
  rintro e w' ⟨he, hm⟩
  rw [h.f, mk_show c sn sh gv s.k h.n] at hm
  exact ⟨he, by rw [showN_len]; exact hm, by rw [showN_len]; exact h.n, h.cur, h.cch, h.f, h.c1, h.swc⟩
theorem lpub_bad (h : Lv R W0 W s c sn sh gv sw st) (lo hi : Int) (hlo : -9223372036854775808 ≤ lo ∧ lo ≤ 9223372036854775807) (hhi : -9223372036854775808 ≤ hi ∧ hi ≤ 9223372036854775807) (h0 : 0 ≤ st) (h1 : st < 1152921504606846976) (hb : lo < 0 ∨ hi < lo ∨ two s.k ≤ hi - lo ∨ c < hi) :
    Calls Try.prog 58 #[.pointer (some ⟨s.p, 0, none⟩), .int .i64 lo, .int .i64 hi] W fun e w' => ∃ E, e = .returned E ∧ Refused W w' E 1 :=
  mpub_bad h.ms h.cc h.swc h.len lo hi hlo hhi h0 h1 hb
theorem lseen (h : Lv R W0 W s c sn sh gv sw st) (h0 : 0 ≤ st) (h1 : st < 1152921504606846976) :
    Calls Try.prog 29 #[.pointer (some ⟨s.b, 0, none⟩), .int .i64 1] W fun e w' => e = .returned (.tuple #[.int .i64 sn, .nilIface]) ∧ Lv R W0 w' s c sn sh gv sw (st + 1) :=
  (load_s h.ms 1 sn rfl h0 (by omega)).mono fun _ _ ⟨he, hm⟩ => ⟨he, h.with hm⟩
/-- One who holds back is done with more. -/
theorem lheld (h : Lv R W0 W s c sn sh gv sw st) (j : Nat) (hj : j < gv.length) (x : Int) (h0 : 0 ≤ st) (h1 : st < 1152921504606846976) :
    Calls Try.prog 30 #[.pointer (some ⟨s.b, 0, none⟩), .int .i64 ((sh.length + 2 + j : Nat) : Int), .int .i64 x] W fun e w' => e = .returned .nilIface ∧ Lv R W0 w' s c sn sh (gv.set j x) sw (st + 1) := by
  refine (store_s h.ms (sh.length + 2 + j) x (by rw [mk_len]; omega) h0 (by omega)).mono ?_
  rintro e w' ⟨he, hm⟩
  rw [mk_set_g] at hm
  exact ⟨he, by rw [List.length_set]; exact hm, h.n, h.cur, h.cch, h.f, h.c1, h.swc⟩
/-- A new cell, not yet one that holds back. -/
structure Lh (R : Rest) (W0 W : World) (s : Sh) (c sn : Int) (sh gv : List Int) (x sw st : Int) : Prop where
  lh ::
  ms : Ms R W0 W s (idsN sh.length gv.length) sw (mk c sn sh (gv ++ [x])) st
  n : (sh.length : Int) = two s.k
  cur : s.cur = 0
  cch : s.cch = 1
  f : s.f = 2
  c1 : -1 ≤ c
  swc : sw ≤ c
theorem lalloc (h : Lv R W0 W s c sn sh gv sw st) (x : Int) :
    Calls Try.prog 31 #[.pointer (some ⟨s.b, 0, none⟩), .int .i64 x] W fun e w' => e = .returned (.tuple #[.int .i64 ((sh.length + 2 + gv.length : Nat) : Int), .nilIface]) ∧ Lh R W0 w' s c sn sh gv x sw st := by
  refine (alloc_s h.ms x (by have := h.g32; have := two_le h.ms.k20; have := h.n; rw [mk_len]; omega)).mono ?_
  rintro e w' ⟨he, hm⟩
  rw [mk_app] at hm
  rw [mk_len, show sh.length + gv.length + 2 = sh.length + 2 + gv.length by omega] at he
  exact ⟨he, hm, h.n, h.cur, h.cch, h.f, h.c1, h.swc⟩
theorem ladd {x : Int} (h : Lh R W0 W s c sn sh gv x sw st) (hg : gv.length < 32) :
    Calls Try.prog 42 #[.pointer (some ⟨s.p, 5, none⟩), .int .i64 ((sh.length + 2 + gv.length : Nat) : Int)] W fun e w' => e = .returned .nilIface ∧ Lv R W0 w' s c sn sh (gv ++ [x]) sw st := by
  have hk := two_le h.ms.k20
  have hn := h.n
  refine (gadd_s h.ms _ (by omega) (by omega) (idsN_not _ _) (by rw [idsN_len]; exact hg)).mono ?_
  rintro e w' ⟨he, hm⟩
  rw [← idsN_succ] at hm
  exact ⟨he, by simpa using hm, h.n, h.cur, h.cch, h.f, h.c1, h.swc⟩
theorem Lv.less {R' : Rest} (h : Lv R W0 W s c sn sh gv sw st) (hp : ∀ g, R'.prot g → R.prot g) (hi : R'.inv W) : Lv R' W0 W s c sn sh gv sw st := ⟨h.ms.less hp hi, h.n, h.cur, h.cch, h.f, h.c1, h.swc⟩
theorem Lv.below (h : Lv R W0 W s c sn sh gv sw st) : Below W0.heap.size W0 W := h.ms.below
end

theorem run_ex10 : RunTo (shownB (showN [-1, -1, -1, -1] 0 2 1 1) 0 2) 0 1 0 := ⟨fun i hi => by omega, fun _ => by decide, Or.inl rfl⟩
theorem run_ex11 : RunTo (shownB (showN (showN [-1, -1, -1, -1] 0 2 1 1) 0 2 0 1) 0 2) 0 1 2 := by
  refine ⟨fun i hi => ?_, fun h => by omega, Or.inr (by decide)⟩
  have : i = 0 ∨ i = 1 := by omega
  rcases this with rfl | rfl <;> decide
theorem ok_ex (c : Int) : okP 4 c (-1) 1 [] := .inr (by simp [leastP]; omega)

set_option maxHeartbeats 2000000 in
set_option maxRecDepth 100000 in
theorem awake10 (W : World) : Calls Try.prog 52 #[] W fun e w' => e = .returned (.bool true) ∧ Below W.heap.size W w' := by
  have HNEW : Hid (∀ w, Mine W w W.heap.size [] 0 → Calls Try.prog 53 #[.pointer (some ⟨W.heap.size, 0, none⟩), .int .i64 4] w fun e w' => ∃ s : Sh, e = .returned (.tuple #[.pointer (some ⟨s.p, 0, none⟩), .nilIface]) ∧ s.k = 2 ∧ Lv R0 W w' s (-1) (-1) [-1, -1, -1, -1] [] (-1) 0) :=
    fun w h => (mnew_ok (Mv.of_mine h) 2 4 (by decide) rfl).mono fun e w' ⟨s, h1, _, h3, h4⟩ => ⟨s, h1, h3, h4⟩
  have HCL : Hid (∀ (w : World) (s : Sh) (c sn st : Int), s.k = 2 → Lv R0 W w s c sn [-1, -1, -1, -1] [] c st → c ≤ 100 → 0 ≤ st → st < 100 → okP 4 c sn 1 [] → Calls Try.prog 55 #[.pointer (some ⟨s.p, 0, none⟩), .int .i64 1] w fun e w' => e = .returned (.tuple #[.int .i64 (c + 1), .nilIface]) ∧ ∃ sn' st', st' ≤ st + 40 ∧ 0 ≤ st' ∧ Lv R0 W w' s (c + 1) sn' [-1, -1, -1, -1] [] (c + 1) st') := by
    intro w s c sn st hk h hc h0 h1 hok
    have h4 : two s.k = 4 := by rw [hk]; rfl
    refine (mClaim_run h (by omega) 1 (by decide) (by rw [h4]; decide) h0 (by omega)).mono ?_
    rintro e w' (⟨_, he, st', a1, a2, hl⟩ | ⟨hno, _⟩)
    · exact ⟨he, _, st', a2, by omega, hl⟩
    · rw [h4] at hno
      exact absurd hok hno
  have HP1 : Hid (∀ (w : World) (s : Sh) (sn st : Int), s.k = 2 → Lv R0 W w s 1 sn [-1, -1, -1, -1] [] 1 st → 0 ≤ st → st < 200 → Calls Try.prog 58 #[.pointer (some ⟨s.p, 0, none⟩), .int .i64 1, .int .i64 1] w fun e w' => e = .returned .nilIface ∧ Lv R0 W w' s 1 sn (showN [-1, -1, -1, -1] 0 2 1 1) [] 1 (st + 1)) := by
    intro w s sn st hk h h0 h1
    have h4 : two s.k = 4 := by rw [hk]; rfl
    have := lpub h 1 1 (by decide) (by decide) (by rw [h4]; decide) (by decide) (by decide) 1 (by decide) h0 (by omega)
    rw [hk] at this
    exact this
  have HP0 : Hid (∀ (w : World) (s : Sh) (sn st : Int), s.k = 2 → Lv R0 W w s 1 sn (showN [-1, -1, -1, -1] 0 2 1 1) [] 1 st → 0 ≤ st → st < 10000000 → Calls Try.prog 58 #[.pointer (some ⟨s.p, 0, none⟩), .int .i64 0, .int .i64 0] w fun e w' => e = .returned .nilIface ∧ Lv R0 W w' s 1 sn (showN (showN [-1, -1, -1, -1] 0 2 1 1) 0 2 0 1) [] 1 (st + 1)) := by
    intro w s sn st hk h h0 h1
    have h4 : two s.k = 4 := by rw [hk]; rfl
    have := lpub h 0 0 (by decide) (by decide) (by rw [h4]; decide) (by decide) (by decide) 1 (by decide) h0 (by omega)
    rw [hk] at this
    exact this
  have HH : Hid (∀ (w : World) (s : Sh) (sn st : Int) (sh : List Int) (x : Nat), s.k = 2 → Lv R0 W w s 1 sn sh [] 1 st → RunTo (shownB sh 0 2) 0 1 x → 0 ≤ st → st < 10000000 → Calls Try.prog 63 #[.pointer (some ⟨s.p, 0, none⟩), .int .i64 0] w fun e w' => e = .returned (.tuple #[.int .i64 (0 + (x : Int) - 1), .nilIface]) ∧ ∃ st', 0 ≤ st' ∧ st' ≤ st + 1048578 ∧ Lv R0 W w' s 1 sn sh [] 1 st') := by
    intro w s sn st sh x hk h hr h0 h1
    refine (lhigh h 0 (by decide) (by decide) (by decide) h0 (by omega)).mono ?_
    rintro e w' ⟨j, hr2, he, st', a1, a2, hl⟩
    rw [hk] at hr2
    obtain rfl : j = x := hr2.unique hr fun _ _ _ => rfl
    exact ⟨he, st', by omega, a2, hl⟩
  go_enter Try.func52, Try.ntmps52
  go_wp2_with (first
    | (go_at_call 24; refine (new_m _).mono ?_; rintro e w1 ⟨rfl, hm⟩; have HM1 := Lib.hid hm; clear hm)
    | (go_at_call 53; refine (HNEW.out _ HM1.out).mono ?_; rintro e w2 ⟨s, rfl, hk, hl⟩; have HK := Lib.hid hk; have L2 := Lib.hid hl; clear hk hl HM1)
    | (go_at_call 55; refine (HCL.out _ s 0 _ _ HK.out L3.out (by decide) b1 (by omega) (.inr (by decide))).mono ?_; rintro e w4 ⟨rfl, sn4, st4, a4, b4, hl⟩; have L4 := Lib.hid hl; clear hl)
    | (go_at_call 55; refine (HCL.out _ s (-1) _ _ HK.out L2.out (by decide) (by decide) (by decide) (ok_ex _)).mono ?_; rintro e w3 ⟨rfl, sn3, st3, a3, b1, hl⟩; have L3 := Lib.hid hl; clear hl)
    | (go_at_call_of 58 (Value.int .i64 1); refine (HP1.out _ s _ _ HK.out L4.out b4 (by omega)).mono ?_; rintro e w5 ⟨rfl, hl⟩; have L5 := Lib.hid hl; clear hl)
    | (go_at_call_of 58 (Value.int .i64 0); refine (HP0.out _ s _ _ HK.out L6.out b6 (by omega)).mono ?_; rintro e w7 ⟨rfl, hl⟩; have L7 := Lib.hid hl; clear hl)
    | (go_at_call 63; refine (HH.out _ s _ _ _ 2 HK.out L7.out run_ex11 (by omega) (by omega)).mono ?_; rintro e w8 ⟨rfl, st8, b8, a8, hl⟩; have L8 := Lib.hid hl; clear hl)
    | (go_at_call 63; refine (HH.out _ s _ _ _ 0 HK.out L5.out run_ex10 (by omega) (by omega)).mono ?_; rintro e w6 ⟨rfl, st6, b6, a6, hl⟩; have L6 := Lib.hid hl; clear hl))
  go_ret
  exact ⟨rfl, L8.out.below⟩
end Go.Proofs.Yteinfkcnengmeaa
