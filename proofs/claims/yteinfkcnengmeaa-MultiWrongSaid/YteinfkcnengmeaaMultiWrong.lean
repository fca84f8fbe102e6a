/-
  MultiWrong: for every number and indexes the law returns true, and leaves its arguments as they were. No condition.
-/
import Derived.Test.YteinfkcnengmeaaRows
import Derived.Test.YteinfkcnengmeaaMi
import Derived.Test.YteinfkcnengmeaaPost
import Derived.Test.YteinfkcnengmeaaShut
import Derived.ProofKit
import Derived.OpenShut
import Derived.Deep.DeepCutAuto
import Derived.Deep.CutBlock
namespace Go.Proofs.Yteinfkcnengmeaa.multiWrong
open Go.ChangeShapes Go.WideShapes Go.ChangeAt Go.RowKit
set_option linter.unusedVariables false

theorem own : ownKnob Try.prog.godebug = none := by kernel_rfl

set_option maxHeartbeats 4000000 in
set_option maxRecDepth 100000 in
theorem walk_low (n lo hi : Int) (hw : -9223372036854775808 ≤ n) (hlo : -9223372036854775808 ≤ lo ∧ lo ≤ 9223372036854775807) (hhi : -9223372036854775808 ≤ hi ∧ hi ≤ 9223372036854775807) (h : n < 1) (W : World) :
    Calls Try.prog 13 #[.int .i64 n, .int .i64 lo, .int .i64 hi] W fun e w' => e = .returned (.bool true) ∧ Below W.heap.size W w' := by
  have HNO : Hid (∀ k, k ≤ 20 → n ≠ two k) := fun k _ e => by have := two_pos k; omega
  have HNEW : Hid (∀ R w, Mv R W w W.heap.size [] 0 → Calls Try.prog 53 #[.pointer (some ⟨W.heap.size, 0, none⟩), .int .i64 4] w fun e w' => ∃ s : Sh, e = .returned (.tuple #[.pointer (some ⟨s.p, 0, none⟩), .nilIface]) ∧ two s.k = 4 ∧ Lv R W w' s (-1) (-1) [-1, -1, -1, -1] [] (-1) 0) :=
    fun R w h => (mnew_ok h 2 4 (by decide) rfl).mono fun e w' ⟨s, h1, _, h3, h4⟩ => ⟨s, h1, by rw [h3]; rfl, h4⟩
  have HLEN : Hid (∀ R w, Mv R W w W.heap.size [] 0 → Calls Try.prog 26 #[.pointer (some ⟨W.heap.size, 0, none⟩)] w fun e w' => e = .returned (.int .i64 0) ∧ w = w') := fun R w h => len_mv h
  have d1 : decide (n < 1) = true := decide_eq_true h
  clear h
  go_enter Try.func13, Try.ntmps13
  go_upto_region 17 with (first
    | (refine wpList_load_row_g (by kernel_rfl) 116 (.tmp 25) rfl nb rfl 116 ts (0, 0) _ HQ2.out Try.underlying116 rfl HZI.out ?_)
    | (go_at_call 24; refine (new_m _).mono ?_; rintro e w1 ⟨rfl, hm⟩; have HM := Lib.hid (Mv.of_mine hm); clear hm)
    | (go_at_call_of 53 (Value.int .i64 n); refine (mnew_bad _ n hw HNO.out _).mono ?_; rintro e w2 ⟨qb, rfl, hc, hb⟩; replace HM := Lib.hid (HM.out.keep hb); have HCB := Lib.hid hc; clear hc hb)
    | (go_at_call_of 16 (Value.iface 164 (.pointer (some ⟨qb, 0, none⟩))); refine (isN_chain 7 _ 2 7 HCB.out (by decide)).mono ?_; rintro e y ⟨rfl, rfl⟩)
    | (go_at_call 26; refine (HLEN.out _ _ HM.out).mono ?_; rintro e y ⟨rfl, rfl⟩)
    | (go_at_call_of 53 (Value.pointer none); refine (mnew_nil 2 _).mono ?_; rintro e w3 ⟨E3, rfl, hr⟩; obtain ⟨q3, rfl, hc, hb⟩ := hr.q; replace HM := Lib.hid ((HM.out.keep hb).chains); have HC3 := Lib.hid hc; clear hc hb hr)
    | (go_at_call_of 53 (Value.int .i64 4); refine (HNEW.out _ _ HM.out).mono ?_; rintro e w4 ⟨s, rfl, h4, hl⟩; have HK5 : Hid ((5 : Int) < 1 ∨ two s.k < 5) := Lib.hid (.inr (by omega)); clear h4; have HL := Lib.hid hl; have HE : Hid (Es w4 w4 [((Value.iface 164 (.pointer (some ⟨q3, 0, none⟩))), 1, 2)]) := Lib.hid ⟨Below.refl _ _, fun x hx => by { simp at hx; subst hx; exact rc_chain hl.ms.inv HC3.out }⟩; clear hl HM HC3)
    | (go_at_call_of 58 (Value.pointer (some ⟨s.p, 0, none⟩)); refine (lpub_bad (HL.out.keep HE.out.1) lo hi hlo hhi (by decide) (by decide) (by omega)).mono ?_; rintro e w5 ⟨E5, rfl, hr⟩; obtain ⟨q5, rfl, hc, hb⟩ := hr.q; replace HE := Lib.hid (HE.out.cons hb hc); clear hc hb hr)
    | (go_at_call_of 55 (Value.int .i64 5); refine (mClaim_bad (HL.out.keep HE.out.1) 5 HK5.out).mono ?_; rintro e w6 ⟨q6, rfl, hc, hb⟩; replace HE := Lib.hid (HE.out.cons hb hc); clear hc hb)
    | (go_at_call_of 55 (Value.int .i64 0); refine (mClaim_bad (HL.out.keep HE.out.1) 0 (.inl (by decide))).mono ?_; rintro e w7 ⟨q7, rfl, hc, hb⟩; replace HE := Lib.hid (HE.out.cons hb hc); clear hc hb)
    | (go_at_call_of 55 (Value.int .i64 1); refine (mClaim_nil 1 _).mono ?_; rintro e w8 ⟨q8, rfl, hc, hb⟩; replace HE := Lib.hid (HE.out.cons hb hc); clear hc hb)
    | (go_at_call 63; refine (mhigh_nil 1 _).mono ?_; rintro e w9 ⟨E9, rfl, hr⟩; obtain ⟨q9, rfl, hc, hb⟩ := hr.q; replace HE := Lib.hid (HE.out.cons hb hc); clear hc hb hr)
    | (go_at_call 61; refine (mrem_nil _).mono ?_; rintro e w10 ⟨E10, rfl, hr⟩; obtain ⟨q10, rfl, hc, hb⟩ := hr.q; replace HE := Lib.hid (HE.out.cons hb hc); clear hc hb hr)
    | (go_at_call 66; refine (mtry_nil 1 _).mono ?_; rintro e w11 ⟨ts, E11, rfl, hz, hr⟩; obtain ⟨q11, rfl, hc, hb⟩ := hr.q; replace HE := Lib.hid (HE.out.cons hb hc); have HZ := Lib.hid hz; have HZI := Lib.hid hz.info; clear hc hb hr hz)
    | (refine wpList_alloc_try rfl rfl ?_; intro zs hz; have HZS := Lib.hid hz; clear hz)
    | (refine wpList_store_row rfl 116 (.tmp 25) (.tmp 106) rfl w11.heap.size ts rfl rfl 116 _ (obj_new _ _) HZI.out (by rw [HZ.out.size]; exact HZS.out) HZ.out.one ?_; generalize hX : World.setRow _ _ _ = X; obtain ⟨hq, hb⟩ := stored_new hX; have HQ := Lib.hid hq; replace HE := Lib.hid (HE.out.keep hb); clear hX hq hb; generalize w11.heap.size = nb at *)
    | (go_at_call 52; refine (awake10 _).mono ?_; rintro e w12 ⟨rfl, hb⟩; have HQ2 := Lib.hid ((hb.block _ (lt_of_block HQ.out)).trans HQ.out); replace HE := Lib.hid (HE.out.keep hb); clear hb)
    | (go_at_call 67; refine (tdone HZ.out.c2 _).mono ?_; rintro e w13 ⟨rfl, hb⟩; replace HE := Lib.hid (HE.out.keep hb); clear hb)
    | (go_at_call_of 58 (Value.pointer none); refine (mpub_nil lo hi _).mono ?_; rintro e w14 ⟨E14, rfl, hr⟩; obtain ⟨q14, rfl, hc, hb⟩ := hr.q; replace HE := Lib.hid (HE.out.cons hb hc); clear hc hb hr)
    | (go_at_call_of 16 (Value.iface 164 (.pointer (some ⟨q3, 0, none⟩))); refine (isN_chain 2 _ 1 2 (HE.out.2 ((Value.iface 164 (.pointer (some ⟨q3, 0, none⟩))), 1, 2) (by simp)) (by decide)).mono ?_; rintro e y ⟨rfl, rfl⟩)
    | (go_at_call_of 16 (Value.iface 164 (.pointer (some ⟨q5, 0, none⟩))); refine (isN_chain 1 _ 1 1 (HE.out.2 ((Value.iface 164 (.pointer (some ⟨q5, 0, none⟩))), 1, 1) (by simp)) (by decide)).mono ?_; rintro e y ⟨rfl, rfl⟩)
    | (go_at_call_of 16 (Value.iface 164 (.pointer (some ⟨q6, 0, none⟩))); refine (isN_chain 1 _ 2 1 (HE.out.2 ((Value.iface 164 (.pointer (some ⟨q6, 0, none⟩))), 2, 1) (by simp)) (by decide)).mono ?_; rintro e y ⟨rfl, rfl⟩)
    | (go_at_call_of 16 (Value.iface 164 (.pointer (some ⟨q7, 0, none⟩))); refine (isN_chain 1 _ 2 1 (HE.out.2 ((Value.iface 164 (.pointer (some ⟨q7, 0, none⟩))), 2, 1) (by simp)) (by decide)).mono ?_; rintro e y ⟨rfl, rfl⟩)
    | (go_at_call_of 16 (Value.iface 164 (.pointer (some ⟨q8, 0, none⟩))); refine (isN_chain 2 _ 2 2 (HE.out.2 ((Value.iface 164 (.pointer (some ⟨q8, 0, none⟩))), 2, 2) (by simp)) (by decide)).mono ?_; rintro e y ⟨rfl, rfl⟩)
    | (go_at_call_of 16 (Value.iface 164 (.pointer (some ⟨q9, 0, none⟩))); refine (isN_chain 2 _ 1 2 (HE.out.2 ((Value.iface 164 (.pointer (some ⟨q9, 0, none⟩))), 1, 2) (by simp)) (by decide)).mono ?_; rintro e y ⟨rfl, rfl⟩)
    | (go_at_call_of 16 (Value.iface 164 (.pointer (some ⟨q10, 0, none⟩))); refine (isN_chain 2 _ 1 2 (HE.out.2 ((Value.iface 164 (.pointer (some ⟨q10, 0, none⟩))), 1, 2) (by simp)) (by decide)).mono ?_; rintro e y ⟨rfl, rfl⟩)
    | (go_at_call_of 16 (Value.iface 164 (.pointer (some ⟨q11, 0, none⟩))); refine (isN_chain 2 _ 1 2 (HE.out.2 ((Value.iface 164 (.pointer (some ⟨q11, 0, none⟩))), 1, 2) (by simp)) (by decide)).mono ?_; rintro e y ⟨rfl, rfl⟩)
    | (go_at_call_of 16 (Value.iface 164 (.pointer (some ⟨q14, 0, none⟩))); refine (isN_chain 2 _ 1 2 (HE.out.2 ((Value.iface 164 (.pointer (some ⟨q14, 0, none⟩))), 1, 2) (by simp)) (by decide)).mono ?_; rintro e y ⟨rfl, rfl⟩)
    | (go_at_call 62; refine (mclaimed_nil _).mono ?_; rintro e y ⟨rfl, rfl⟩)
    | (go_at_call 74; refine (mcursor_nil _).mono ?_; rintro e y ⟨rfl, rfl⟩)
    | (go_at_call 73; refine (mcached_nil _).mono ?_; rintro e y ⟨rfl, rfl⟩)
    | (go_at_call 75; refine (mshown_nil _).mono ?_; rintro e y ⟨rfl, rfl⟩)
    | (go_at_call 60; refine (mgate_nil _).mono ?_; rintro e y ⟨rfl, rfl⟩)
    | (go_at_call 76; refine (glen_nil _).mono ?_; rintro e y ⟨rfl, rfl⟩))
  all_goals dsimp only [List.append]
  all_goals
    go_wp2_with (first
      | (refine wpList_load_row_g (by kernel_rfl) 116 (.tmp 25) rfl nb rfl 116 ts (0, 0) _ HQ2.out Try.underlying116 rfl HZI.out ?_)
      | (go_at_call 24; refine (new_m _).mono ?_; rintro e w1 ⟨rfl, hm⟩; have HM := Lib.hid (Mv.of_mine hm); clear hm)
      | (go_at_call_of 53 (Value.int .i64 n); refine (mnew_bad _ n hw HNO.out _).mono ?_; rintro e w2 ⟨qb, rfl, hc, hb⟩; replace HM := Lib.hid (HM.out.keep hb); have HCB := Lib.hid hc; clear hc hb)
      | (go_at_call_of 16 (Value.iface 164 (.pointer (some ⟨qb, 0, none⟩))); refine (isN_chain 7 _ 2 7 HCB.out (by decide)).mono ?_; rintro e y ⟨rfl, rfl⟩)
      | (go_at_call 26; refine (HLEN.out _ _ HM.out).mono ?_; rintro e y ⟨rfl, rfl⟩)
      | (go_at_call_of 53 (Value.pointer none); refine (mnew_nil 2 _).mono ?_; rintro e w3 ⟨E3, rfl, hr⟩; obtain ⟨q3, rfl, hc, hb⟩ := hr.q; replace HM := Lib.hid ((HM.out.keep hb).chains); have HC3 := Lib.hid hc; clear hc hb hr)
      | (go_at_call_of 53 (Value.int .i64 4); refine (HNEW.out _ _ HM.out).mono ?_; rintro e w4 ⟨s, rfl, h4, hl⟩; have HK5 : Hid ((5 : Int) < 1 ∨ two s.k < 5) := Lib.hid (.inr (by omega)); clear h4; have HL := Lib.hid hl; have HE : Hid (Es w4 w4 [((Value.iface 164 (.pointer (some ⟨q3, 0, none⟩))), 1, 2)]) := Lib.hid ⟨Below.refl _ _, fun x hx => by { simp at hx; subst hx; exact rc_chain hl.ms.inv HC3.out }⟩; clear hl HM HC3)
      | (go_at_call_of 58 (Value.pointer (some ⟨s.p, 0, none⟩)); refine (lpub_bad (HL.out.keep HE.out.1) lo hi hlo hhi (by decide) (by decide) (by omega)).mono ?_; rintro e w5 ⟨E5, rfl, hr⟩; obtain ⟨q5, rfl, hc, hb⟩ := hr.q; replace HE := Lib.hid (HE.out.cons hb hc); clear hc hb hr)
      | (go_at_call_of 55 (Value.int .i64 5); refine (mClaim_bad (HL.out.keep HE.out.1) 5 HK5.out).mono ?_; rintro e w6 ⟨q6, rfl, hc, hb⟩; replace HE := Lib.hid (HE.out.cons hb hc); clear hc hb)
      | (go_at_call_of 55 (Value.int .i64 0); refine (mClaim_bad (HL.out.keep HE.out.1) 0 (.inl (by decide))).mono ?_; rintro e w7 ⟨q7, rfl, hc, hb⟩; replace HE := Lib.hid (HE.out.cons hb hc); clear hc hb)
      | (go_at_call_of 55 (Value.int .i64 1); refine (mClaim_nil 1 _).mono ?_; rintro e w8 ⟨q8, rfl, hc, hb⟩; replace HE := Lib.hid (HE.out.cons hb hc); clear hc hb)
      | (go_at_call 63; refine (mhigh_nil 1 _).mono ?_; rintro e w9 ⟨E9, rfl, hr⟩; obtain ⟨q9, rfl, hc, hb⟩ := hr.q; replace HE := Lib.hid (HE.out.cons hb hc); clear hc hb hr)
      | (go_at_call 61; refine (mrem_nil _).mono ?_; rintro e w10 ⟨E10, rfl, hr⟩; obtain ⟨q10, rfl, hc, hb⟩ := hr.q; replace HE := Lib.hid (HE.out.cons hb hc); clear hc hb hr)
      | (go_at_call 66; refine (mtry_nil 1 _).mono ?_; rintro e w11 ⟨ts, E11, rfl, hz, hr⟩; obtain ⟨q11, rfl, hc, hb⟩ := hr.q; replace HE := Lib.hid (HE.out.cons hb hc); have HZ := Lib.hid hz; have HZI := Lib.hid hz.info; clear hc hb hr hz)
      | (refine wpList_alloc_try rfl rfl ?_; intro zs hz; have HZS := Lib.hid hz; clear hz)
      | (refine wpList_store_row rfl 116 (.tmp 25) (.tmp 106) rfl w11.heap.size ts rfl rfl 116 _ (obj_new _ _) HZI.out (by rw [HZ.out.size]; exact HZS.out) HZ.out.one ?_; generalize hX : World.setRow _ _ _ = X; obtain ⟨hq, hb⟩ := stored_new hX; have HQ := Lib.hid hq; replace HE := Lib.hid (HE.out.keep hb); clear hX hq hb; generalize w11.heap.size = nb at *)
      | (go_at_call 52; refine (awake10 _).mono ?_; rintro e w12 ⟨rfl, hb⟩; have HQ2 := Lib.hid ((hb.block _ (lt_of_block HQ.out)).trans HQ.out); replace HE := Lib.hid (HE.out.keep hb); clear hb)
      | (go_at_call 67; refine (tdone HZ.out.c2 _).mono ?_; rintro e w13 ⟨rfl, hb⟩; replace HE := Lib.hid (HE.out.keep hb); clear hb)
      | (go_at_call_of 58 (Value.pointer none); refine (mpub_nil lo hi _).mono ?_; rintro e w14 ⟨E14, rfl, hr⟩; obtain ⟨q14, rfl, hc, hb⟩ := hr.q; replace HE := Lib.hid (HE.out.cons hb hc); clear hc hb hr)
      | (go_at_call_of 16 (Value.iface 164 (.pointer (some ⟨q3, 0, none⟩))); refine (isN_chain 2 _ 1 2 (HE.out.2 ((Value.iface 164 (.pointer (some ⟨q3, 0, none⟩))), 1, 2) (by simp)) (by decide)).mono ?_; rintro e y ⟨rfl, rfl⟩)
      | (go_at_call_of 16 (Value.iface 164 (.pointer (some ⟨q5, 0, none⟩))); refine (isN_chain 1 _ 1 1 (HE.out.2 ((Value.iface 164 (.pointer (some ⟨q5, 0, none⟩))), 1, 1) (by simp)) (by decide)).mono ?_; rintro e y ⟨rfl, rfl⟩)
      | (go_at_call_of 16 (Value.iface 164 (.pointer (some ⟨q6, 0, none⟩))); refine (isN_chain 1 _ 2 1 (HE.out.2 ((Value.iface 164 (.pointer (some ⟨q6, 0, none⟩))), 2, 1) (by simp)) (by decide)).mono ?_; rintro e y ⟨rfl, rfl⟩)
      | (go_at_call_of 16 (Value.iface 164 (.pointer (some ⟨q7, 0, none⟩))); refine (isN_chain 1 _ 2 1 (HE.out.2 ((Value.iface 164 (.pointer (some ⟨q7, 0, none⟩))), 2, 1) (by simp)) (by decide)).mono ?_; rintro e y ⟨rfl, rfl⟩)
      | (go_at_call_of 16 (Value.iface 164 (.pointer (some ⟨q8, 0, none⟩))); refine (isN_chain 2 _ 2 2 (HE.out.2 ((Value.iface 164 (.pointer (some ⟨q8, 0, none⟩))), 2, 2) (by simp)) (by decide)).mono ?_; rintro e y ⟨rfl, rfl⟩)
      | (go_at_call_of 16 (Value.iface 164 (.pointer (some ⟨q9, 0, none⟩))); refine (isN_chain 2 _ 1 2 (HE.out.2 ((Value.iface 164 (.pointer (some ⟨q9, 0, none⟩))), 1, 2) (by simp)) (by decide)).mono ?_; rintro e y ⟨rfl, rfl⟩)
      | (go_at_call_of 16 (Value.iface 164 (.pointer (some ⟨q10, 0, none⟩))); refine (isN_chain 2 _ 1 2 (HE.out.2 ((Value.iface 164 (.pointer (some ⟨q10, 0, none⟩))), 1, 2) (by simp)) (by decide)).mono ?_; rintro e y ⟨rfl, rfl⟩)
      | (go_at_call_of 16 (Value.iface 164 (.pointer (some ⟨q11, 0, none⟩))); refine (isN_chain 2 _ 1 2 (HE.out.2 ((Value.iface 164 (.pointer (some ⟨q11, 0, none⟩))), 1, 2) (by simp)) (by decide)).mono ?_; rintro e y ⟨rfl, rfl⟩)
      | (go_at_call_of 16 (Value.iface 164 (.pointer (some ⟨q14, 0, none⟩))); refine (isN_chain 2 _ 1 2 (HE.out.2 ((Value.iface 164 (.pointer (some ⟨q14, 0, none⟩))), 1, 2) (by simp)) (by decide)).mono ?_; rintro e y ⟨rfl, rfl⟩)
      | (go_at_call 62; refine (mclaimed_nil _).mono ?_; rintro e y ⟨rfl, rfl⟩)
      | (go_at_call 74; refine (mcursor_nil _).mono ?_; rintro e y ⟨rfl, rfl⟩)
      | (go_at_call 73; refine (mcached_nil _).mono ?_; rintro e y ⟨rfl, rfl⟩)
      | (go_at_call 75; refine (mshown_nil _).mono ?_; rintro e y ⟨rfl, rfl⟩)
      | (go_at_call 60; refine (mgate_nil _).mono ?_; rintro e y ⟨rfl, rfl⟩)
      | (go_at_call 76; refine (glen_nil _).mono ?_; rintro e y ⟨rfl, rfl⟩))
  all_goals
    go_ret
    exact ⟨rfl, bthen HL.out.below HE.out.1⟩

set_option maxHeartbeats 4000000 in
set_option maxRecDepth 100000 in
theorem walk_high (n lo hi : Int) (hw : -9223372036854775808 ≤ n) (hlo : -9223372036854775808 ≤ lo ∧ lo ≤ 9223372036854775807) (hhi : -9223372036854775808 ≤ hi ∧ hi ≤ 9223372036854775807) (h : 1048576 < n) (W : World) :
    Calls Try.prog 13 #[.int .i64 n, .int .i64 lo, .int .i64 hi] W fun e w' => e = .returned (.bool true) ∧ Below W.heap.size W w' := by
  have HNO : Hid (∀ k, k ≤ 20 → n ≠ two k) := fun k hk e => by have := two_le hk; omega
  have HNEW : Hid (∀ R w, Mv R W w W.heap.size [] 0 → Calls Try.prog 53 #[.pointer (some ⟨W.heap.size, 0, none⟩), .int .i64 4] w fun e w' => ∃ s : Sh, e = .returned (.tuple #[.pointer (some ⟨s.p, 0, none⟩), .nilIface]) ∧ two s.k = 4 ∧ Lv R W w' s (-1) (-1) [-1, -1, -1, -1] [] (-1) 0) :=
    fun R w h => (mnew_ok h 2 4 (by decide) rfl).mono fun e w' ⟨s, h1, _, h3, h4⟩ => ⟨s, h1, by rw [h3]; rfl, h4⟩
  have HLEN : Hid (∀ R w, Mv R W w W.heap.size [] 0 → Calls Try.prog 26 #[.pointer (some ⟨W.heap.size, 0, none⟩)] w fun e w' => e = .returned (.int .i64 0) ∧ w = w') := fun R w h => len_mv h
  have d1 : decide (n < 1) = false := decide_eq_false (by omega)
  have d2 : decide (1048576 < n) = true := decide_eq_true h
  clear h
  go_enter Try.func13, Try.ntmps13
  go_upto_region 17 with (first
    | (refine wpList_load_row_g (by kernel_rfl) 116 (.tmp 25) rfl nb rfl 116 ts (0, 0) _ HQ2.out Try.underlying116 rfl HZI.out ?_)
    | (go_at_call 24; refine (new_m _).mono ?_; rintro e w1 ⟨rfl, hm⟩; have HM := Lib.hid (Mv.of_mine hm); clear hm)
    | (go_at_call_of 53 (Value.int .i64 n); refine (mnew_bad _ n hw HNO.out _).mono ?_; rintro e w2 ⟨qb, rfl, hc, hb⟩; replace HM := Lib.hid (HM.out.keep hb); have HCB := Lib.hid hc; clear hc hb)
    | (go_at_call_of 16 (Value.iface 164 (.pointer (some ⟨qb, 0, none⟩))); refine (isN_chain 7 _ 2 7 HCB.out (by decide)).mono ?_; rintro e y ⟨rfl, rfl⟩)
    | (go_at_call 26; refine (HLEN.out _ _ HM.out).mono ?_; rintro e y ⟨rfl, rfl⟩)
    | (go_at_call_of 53 (Value.pointer none); refine (mnew_nil 2 _).mono ?_; rintro e w3 ⟨E3, rfl, hr⟩; obtain ⟨q3, rfl, hc, hb⟩ := hr.q; replace HM := Lib.hid ((HM.out.keep hb).chains); have HC3 := Lib.hid hc; clear hc hb hr)
    | (go_at_call_of 53 (Value.int .i64 4); refine (HNEW.out _ _ HM.out).mono ?_; rintro e w4 ⟨s, rfl, h4, hl⟩; have HK5 : Hid ((5 : Int) < 1 ∨ two s.k < 5) := Lib.hid (.inr (by omega)); clear h4; have HL := Lib.hid hl; have HE : Hid (Es w4 w4 [((Value.iface 164 (.pointer (some ⟨q3, 0, none⟩))), 1, 2)]) := Lib.hid ⟨Below.refl _ _, fun x hx => by { simp at hx; subst hx; exact rc_chain hl.ms.inv HC3.out }⟩; clear hl HM HC3)
    | (go_at_call_of 58 (Value.pointer (some ⟨s.p, 0, none⟩)); refine (lpub_bad (HL.out.keep HE.out.1) lo hi hlo hhi (by decide) (by decide) (by omega)).mono ?_; rintro e w5 ⟨E5, rfl, hr⟩; obtain ⟨q5, rfl, hc, hb⟩ := hr.q; replace HE := Lib.hid (HE.out.cons hb hc); clear hc hb hr)
    | (go_at_call_of 55 (Value.int .i64 5); refine (mClaim_bad (HL.out.keep HE.out.1) 5 HK5.out).mono ?_; rintro e w6 ⟨q6, rfl, hc, hb⟩; replace HE := Lib.hid (HE.out.cons hb hc); clear hc hb)
    | (go_at_call_of 55 (Value.int .i64 0); refine (mClaim_bad (HL.out.keep HE.out.1) 0 (.inl (by decide))).mono ?_; rintro e w7 ⟨q7, rfl, hc, hb⟩; replace HE := Lib.hid (HE.out.cons hb hc); clear hc hb)
    | (go_at_call_of 55 (Value.int .i64 1); refine (mClaim_nil 1 _).mono ?_; rintro e w8 ⟨q8, rfl, hc, hb⟩; replace HE := Lib.hid (HE.out.cons hb hc); clear hc hb)
    | (go_at_call 63; refine (mhigh_nil 1 _).mono ?_; rintro e w9 ⟨E9, rfl, hr⟩; obtain ⟨q9, rfl, hc, hb⟩ := hr.q; replace HE := Lib.hid (HE.out.cons hb hc); clear hc hb hr)
    | (go_at_call 61; refine (mrem_nil _).mono ?_; rintro e w10 ⟨E10, rfl, hr⟩; obtain ⟨q10, rfl, hc, hb⟩ := hr.q; replace HE := Lib.hid (HE.out.cons hb hc); clear hc hb hr)
    | (go_at_call 66; refine (mtry_nil 1 _).mono ?_; rintro e w11 ⟨ts, E11, rfl, hz, hr⟩; obtain ⟨q11, rfl, hc, hb⟩ := hr.q; replace HE := Lib.hid (HE.out.cons hb hc); have HZ := Lib.hid hz; have HZI := Lib.hid hz.info; clear hc hb hr hz)
    | (refine wpList_alloc_try rfl rfl ?_; intro zs hz; have HZS := Lib.hid hz; clear hz)
    | (refine wpList_store_row rfl 116 (.tmp 25) (.tmp 106) rfl w11.heap.size ts rfl rfl 116 _ (obj_new _ _) HZI.out (by rw [HZ.out.size]; exact HZS.out) HZ.out.one ?_; generalize hX : World.setRow _ _ _ = X; obtain ⟨hq, hb⟩ := stored_new hX; have HQ := Lib.hid hq; replace HE := Lib.hid (HE.out.keep hb); clear hX hq hb; generalize w11.heap.size = nb at *)
    | (go_at_call 52; refine (awake10 _).mono ?_; rintro e w12 ⟨rfl, hb⟩; have HQ2 := Lib.hid ((hb.block _ (lt_of_block HQ.out)).trans HQ.out); replace HE := Lib.hid (HE.out.keep hb); clear hb)
    | (go_at_call 67; refine (tdone HZ.out.c2 _).mono ?_; rintro e w13 ⟨rfl, hb⟩; replace HE := Lib.hid (HE.out.keep hb); clear hb)
    | (go_at_call_of 58 (Value.pointer none); refine (mpub_nil lo hi _).mono ?_; rintro e w14 ⟨E14, rfl, hr⟩; obtain ⟨q14, rfl, hc, hb⟩ := hr.q; replace HE := Lib.hid (HE.out.cons hb hc); clear hc hb hr)
    | (go_at_call_of 16 (Value.iface 164 (.pointer (some ⟨q3, 0, none⟩))); refine (isN_chain 2 _ 1 2 (HE.out.2 ((Value.iface 164 (.pointer (some ⟨q3, 0, none⟩))), 1, 2) (by simp)) (by decide)).mono ?_; rintro e y ⟨rfl, rfl⟩)
    | (go_at_call_of 16 (Value.iface 164 (.pointer (some ⟨q5, 0, none⟩))); refine (isN_chain 1 _ 1 1 (HE.out.2 ((Value.iface 164 (.pointer (some ⟨q5, 0, none⟩))), 1, 1) (by simp)) (by decide)).mono ?_; rintro e y ⟨rfl, rfl⟩)
    | (go_at_call_of 16 (Value.iface 164 (.pointer (some ⟨q6, 0, none⟩))); refine (isN_chain 1 _ 2 1 (HE.out.2 ((Value.iface 164 (.pointer (some ⟨q6, 0, none⟩))), 2, 1) (by simp)) (by decide)).mono ?_; rintro e y ⟨rfl, rfl⟩)
    | (go_at_call_of 16 (Value.iface 164 (.pointer (some ⟨q7, 0, none⟩))); refine (isN_chain 1 _ 2 1 (HE.out.2 ((Value.iface 164 (.pointer (some ⟨q7, 0, none⟩))), 2, 1) (by simp)) (by decide)).mono ?_; rintro e y ⟨rfl, rfl⟩)
    | (go_at_call_of 16 (Value.iface 164 (.pointer (some ⟨q8, 0, none⟩))); refine (isN_chain 2 _ 2 2 (HE.out.2 ((Value.iface 164 (.pointer (some ⟨q8, 0, none⟩))), 2, 2) (by simp)) (by decide)).mono ?_; rintro e y ⟨rfl, rfl⟩)
    | (go_at_call_of 16 (Value.iface 164 (.pointer (some ⟨q9, 0, none⟩))); refine (isN_chain 2 _ 1 2 (HE.out.2 ((Value.iface 164 (.pointer (some ⟨q9, 0, none⟩))), 1, 2) (by simp)) (by decide)).mono ?_; rintro e y ⟨rfl, rfl⟩)
    | (go_at_call_of 16 (Value.iface 164 (.pointer (some ⟨q10, 0, none⟩))); refine (isN_chain 2 _ 1 2 (HE.out.2 ((Value.iface 164 (.pointer (some ⟨q10, 0, none⟩))), 1, 2) (by simp)) (by decide)).mono ?_; rintro e y ⟨rfl, rfl⟩)
    | (go_at_call_of 16 (Value.iface 164 (.pointer (some ⟨q11, 0, none⟩))); refine (isN_chain 2 _ 1 2 (HE.out.2 ((Value.iface 164 (.pointer (some ⟨q11, 0, none⟩))), 1, 2) (by simp)) (by decide)).mono ?_; rintro e y ⟨rfl, rfl⟩)
    | (go_at_call_of 16 (Value.iface 164 (.pointer (some ⟨q14, 0, none⟩))); refine (isN_chain 2 _ 1 2 (HE.out.2 ((Value.iface 164 (.pointer (some ⟨q14, 0, none⟩))), 1, 2) (by simp)) (by decide)).mono ?_; rintro e y ⟨rfl, rfl⟩)
    | (go_at_call 62; refine (mclaimed_nil _).mono ?_; rintro e y ⟨rfl, rfl⟩)
    | (go_at_call 74; refine (mcursor_nil _).mono ?_; rintro e y ⟨rfl, rfl⟩)
    | (go_at_call 73; refine (mcached_nil _).mono ?_; rintro e y ⟨rfl, rfl⟩)
    | (go_at_call 75; refine (mshown_nil _).mono ?_; rintro e y ⟨rfl, rfl⟩)
    | (go_at_call 60; refine (mgate_nil _).mono ?_; rintro e y ⟨rfl, rfl⟩)
    | (go_at_call 76; refine (glen_nil _).mono ?_; rintro e y ⟨rfl, rfl⟩))
  all_goals dsimp only [List.append]
  all_goals
    go_wp2_with (first
      | (refine wpList_load_row_g (by kernel_rfl) 116 (.tmp 25) rfl nb rfl 116 ts (0, 0) _ HQ2.out Try.underlying116 rfl HZI.out ?_)
      | (go_at_call 24; refine (new_m _).mono ?_; rintro e w1 ⟨rfl, hm⟩; have HM := Lib.hid (Mv.of_mine hm); clear hm)
      | (go_at_call_of 53 (Value.int .i64 n); refine (mnew_bad _ n hw HNO.out _).mono ?_; rintro e w2 ⟨qb, rfl, hc, hb⟩; replace HM := Lib.hid (HM.out.keep hb); have HCB := Lib.hid hc; clear hc hb)
      | (go_at_call_of 16 (Value.iface 164 (.pointer (some ⟨qb, 0, none⟩))); refine (isN_chain 7 _ 2 7 HCB.out (by decide)).mono ?_; rintro e y ⟨rfl, rfl⟩)
      | (go_at_call 26; refine (HLEN.out _ _ HM.out).mono ?_; rintro e y ⟨rfl, rfl⟩)
      | (go_at_call_of 53 (Value.pointer none); refine (mnew_nil 2 _).mono ?_; rintro e w3 ⟨E3, rfl, hr⟩; obtain ⟨q3, rfl, hc, hb⟩ := hr.q; replace HM := Lib.hid ((HM.out.keep hb).chains); have HC3 := Lib.hid hc; clear hc hb hr)
      | (go_at_call_of 53 (Value.int .i64 4); refine (HNEW.out _ _ HM.out).mono ?_; rintro e w4 ⟨s, rfl, h4, hl⟩; have HK5 : Hid ((5 : Int) < 1 ∨ two s.k < 5) := Lib.hid (.inr (by omega)); clear h4; have HL := Lib.hid hl; have HE : Hid (Es w4 w4 [((Value.iface 164 (.pointer (some ⟨q3, 0, none⟩))), 1, 2)]) := Lib.hid ⟨Below.refl _ _, fun x hx => by { simp at hx; subst hx; exact rc_chain hl.ms.inv HC3.out }⟩; clear hl HM HC3)
      | (go_at_call_of 58 (Value.pointer (some ⟨s.p, 0, none⟩)); refine (lpub_bad (HL.out.keep HE.out.1) lo hi hlo hhi (by decide) (by decide) (by omega)).mono ?_; rintro e w5 ⟨E5, rfl, hr⟩; obtain ⟨q5, rfl, hc, hb⟩ := hr.q; replace HE := Lib.hid (HE.out.cons hb hc); clear hc hb hr)
      | (go_at_call_of 55 (Value.int .i64 5); refine (mClaim_bad (HL.out.keep HE.out.1) 5 HK5.out).mono ?_; rintro e w6 ⟨q6, rfl, hc, hb⟩; replace HE := Lib.hid (HE.out.cons hb hc); clear hc hb)
      | (go_at_call_of 55 (Value.int .i64 0); refine (mClaim_bad (HL.out.keep HE.out.1) 0 (.inl (by decide))).mono ?_; rintro e w7 ⟨q7, rfl, hc, hb⟩; replace HE := Lib.hid (HE.out.cons hb hc); clear hc hb)
      | (go_at_call_of 55 (Value.int .i64 1); refine (mClaim_nil 1 _).mono ?_; rintro e w8 ⟨q8, rfl, hc, hb⟩; replace HE := Lib.hid (HE.out.cons hb hc); clear hc hb)
      | (go_at_call 63; refine (mhigh_nil 1 _).mono ?_; rintro e w9 ⟨E9, rfl, hr⟩; obtain ⟨q9, rfl, hc, hb⟩ := hr.q; replace HE := Lib.hid (HE.out.cons hb hc); clear hc hb hr)
      | (go_at_call 61; refine (mrem_nil _).mono ?_; rintro e w10 ⟨E10, rfl, hr⟩; obtain ⟨q10, rfl, hc, hb⟩ := hr.q; replace HE := Lib.hid (HE.out.cons hb hc); clear hc hb hr)
      | (go_at_call 66; refine (mtry_nil 1 _).mono ?_; rintro e w11 ⟨ts, E11, rfl, hz, hr⟩; obtain ⟨q11, rfl, hc, hb⟩ := hr.q; replace HE := Lib.hid (HE.out.cons hb hc); have HZ := Lib.hid hz; have HZI := Lib.hid hz.info; clear hc hb hr hz)
      | (refine wpList_alloc_try rfl rfl ?_; intro zs hz; have HZS := Lib.hid hz; clear hz)
      | (refine wpList_store_row rfl 116 (.tmp 25) (.tmp 106) rfl w11.heap.size ts rfl rfl 116 _ (obj_new _ _) HZI.out (by rw [HZ.out.size]; exact HZS.out) HZ.out.one ?_; generalize hX : World.setRow _ _ _ = X; obtain ⟨hq, hb⟩ := stored_new hX; have HQ := Lib.hid hq; replace HE := Lib.hid (HE.out.keep hb); clear hX hq hb; generalize w11.heap.size = nb at *)
      | (go_at_call 52; refine (awake10 _).mono ?_; rintro e w12 ⟨rfl, hb⟩; have HQ2 := Lib.hid ((hb.block _ (lt_of_block HQ.out)).trans HQ.out); replace HE := Lib.hid (HE.out.keep hb); clear hb)
      | (go_at_call 67; refine (tdone HZ.out.c2 _).mono ?_; rintro e w13 ⟨rfl, hb⟩; replace HE := Lib.hid (HE.out.keep hb); clear hb)
      | (go_at_call_of 58 (Value.pointer none); refine (mpub_nil lo hi _).mono ?_; rintro e w14 ⟨E14, rfl, hr⟩; obtain ⟨q14, rfl, hc, hb⟩ := hr.q; replace HE := Lib.hid (HE.out.cons hb hc); clear hc hb hr)
      | (go_at_call_of 16 (Value.iface 164 (.pointer (some ⟨q3, 0, none⟩))); refine (isN_chain 2 _ 1 2 (HE.out.2 ((Value.iface 164 (.pointer (some ⟨q3, 0, none⟩))), 1, 2) (by simp)) (by decide)).mono ?_; rintro e y ⟨rfl, rfl⟩)
      | (go_at_call_of 16 (Value.iface 164 (.pointer (some ⟨q5, 0, none⟩))); refine (isN_chain 1 _ 1 1 (HE.out.2 ((Value.iface 164 (.pointer (some ⟨q5, 0, none⟩))), 1, 1) (by simp)) (by decide)).mono ?_; rintro e y ⟨rfl, rfl⟩)
      | (go_at_call_of 16 (Value.iface 164 (.pointer (some ⟨q6, 0, none⟩))); refine (isN_chain 1 _ 2 1 (HE.out.2 ((Value.iface 164 (.pointer (some ⟨q6, 0, none⟩))), 2, 1) (by simp)) (by decide)).mono ?_; rintro e y ⟨rfl, rfl⟩)
      | (go_at_call_of 16 (Value.iface 164 (.pointer (some ⟨q7, 0, none⟩))); refine (isN_chain 1 _ 2 1 (HE.out.2 ((Value.iface 164 (.pointer (some ⟨q7, 0, none⟩))), 2, 1) (by simp)) (by decide)).mono ?_; rintro e y ⟨rfl, rfl⟩)
      | (go_at_call_of 16 (Value.iface 164 (.pointer (some ⟨q8, 0, none⟩))); refine (isN_chain 2 _ 2 2 (HE.out.2 ((Value.iface 164 (.pointer (some ⟨q8, 0, none⟩))), 2, 2) (by simp)) (by decide)).mono ?_; rintro e y ⟨rfl, rfl⟩)
      | (go_at_call_of 16 (Value.iface 164 (.pointer (some ⟨q9, 0, none⟩))); refine (isN_chain 2 _ 1 2 (HE.out.2 ((Value.iface 164 (.pointer (some ⟨q9, 0, none⟩))), 1, 2) (by simp)) (by decide)).mono ?_; rintro e y ⟨rfl, rfl⟩)
      | (go_at_call_of 16 (Value.iface 164 (.pointer (some ⟨q10, 0, none⟩))); refine (isN_chain 2 _ 1 2 (HE.out.2 ((Value.iface 164 (.pointer (some ⟨q10, 0, none⟩))), 1, 2) (by simp)) (by decide)).mono ?_; rintro e y ⟨rfl, rfl⟩)
      | (go_at_call_of 16 (Value.iface 164 (.pointer (some ⟨q11, 0, none⟩))); refine (isN_chain 2 _ 1 2 (HE.out.2 ((Value.iface 164 (.pointer (some ⟨q11, 0, none⟩))), 1, 2) (by simp)) (by decide)).mono ?_; rintro e y ⟨rfl, rfl⟩)
      | (go_at_call_of 16 (Value.iface 164 (.pointer (some ⟨q14, 0, none⟩))); refine (isN_chain 2 _ 1 2 (HE.out.2 ((Value.iface 164 (.pointer (some ⟨q14, 0, none⟩))), 1, 2) (by simp)) (by decide)).mono ?_; rintro e y ⟨rfl, rfl⟩)
      | (go_at_call 62; refine (mclaimed_nil _).mono ?_; rintro e y ⟨rfl, rfl⟩)
      | (go_at_call 74; refine (mcursor_nil _).mono ?_; rintro e y ⟨rfl, rfl⟩)
      | (go_at_call 73; refine (mcached_nil _).mono ?_; rintro e y ⟨rfl, rfl⟩)
      | (go_at_call 75; refine (mshown_nil _).mono ?_; rintro e y ⟨rfl, rfl⟩)
      | (go_at_call 60; refine (mgate_nil _).mono ?_; rintro e y ⟨rfl, rfl⟩)
      | (go_at_call 76; refine (glen_nil _).mono ?_; rintro e y ⟨rfl, rfl⟩))
  all_goals
    go_ret
    exact ⟨rfl, bthen HL.out.below HE.out.1⟩

set_option maxHeartbeats 4000000 in
set_option maxRecDepth 100000 in
theorem walk_mid (n lo hi : Int) (hw : -9223372036854775808 ≤ n) (hlo : -9223372036854775808 ≤ lo ∧ lo ≤ 9223372036854775807) (hhi : -9223372036854775808 ≤ hi ∧ hi ≤ 9223372036854775807) (h1 : 1 ≤ n) (h2 : n ≤ 1048576) (hno : ∀ k, k ≤ 20 → n ≠ two k) (W : World) :
    Calls Try.prog 13 #[.int .i64 n, .int .i64 lo, .int .i64 hi] W fun e w' => e = .returned (.bool true) ∧ Below W.heap.size W w' := by
  have HNO := Lib.hid hno
  have HNEW : Hid (∀ R w, Mv R W w W.heap.size [] 0 → Calls Try.prog 53 #[.pointer (some ⟨W.heap.size, 0, none⟩), .int .i64 4] w fun e w' => ∃ s : Sh, e = .returned (.tuple #[.pointer (some ⟨s.p, 0, none⟩), .nilIface]) ∧ two s.k = 4 ∧ Lv R W w' s (-1) (-1) [-1, -1, -1, -1] [] (-1) 0) :=
    fun R w h => (mnew_ok h 2 4 (by decide) rfl).mono fun e w' ⟨s, h1, _, h3, h4⟩ => ⟨s, h1, by rw [h3]; rfl, h4⟩
  have HLEN : Hid (∀ R w, Mv R W w W.heap.size [] 0 → Calls Try.prog 26 #[.pointer (some ⟨W.heap.size, 0, none⟩)] w fun e w' => e = .returned (.int .i64 0) ∧ w = w') := fun R w h => len_mv h
  have d1 : decide (n < 1) = false := decide_eq_false (by omega)
  have d2 : decide (1048576 < n) = false := decide_eq_false (by omega)
  clear hno
  go_enter Try.func13, Try.ntmps13
  go_upto_region 17 with (first
    | (refine wpList_load_row_g (by kernel_rfl) 116 (.tmp 25) rfl nb rfl 116 ts (0, 0) _ HQ2.out Try.underlying116 rfl HZI.out ?_)
    | (go_at_call 24; refine (new_m _).mono ?_; rintro e w1 ⟨rfl, hm⟩; have HM := Lib.hid (Mv.of_mine hm); clear hm)
    | (go_at_call_of 53 (Value.int .i64 n); refine (mnew_bad _ n hw HNO.out _).mono ?_; rintro e w2 ⟨qb, rfl, hc, hb⟩; replace HM := Lib.hid (HM.out.keep hb); have HCB := Lib.hid hc; clear hc hb)
    | (go_at_call_of 16 (Value.iface 164 (.pointer (some ⟨qb, 0, none⟩))); refine (isN_chain 7 _ 2 7 HCB.out (by decide)).mono ?_; rintro e y ⟨rfl, rfl⟩)
    | (go_at_call 26; refine (HLEN.out _ _ HM.out).mono ?_; rintro e y ⟨rfl, rfl⟩)
    | (go_at_call_of 53 (Value.pointer none); refine (mnew_nil 2 _).mono ?_; rintro e w3 ⟨E3, rfl, hr⟩; obtain ⟨q3, rfl, hc, hb⟩ := hr.q; replace HM := Lib.hid ((HM.out.keep hb).chains); have HC3 := Lib.hid hc; clear hc hb hr)
    | (go_at_call_of 53 (Value.int .i64 4); refine (HNEW.out _ _ HM.out).mono ?_; rintro e w4 ⟨s, rfl, h4, hl⟩; have HK5 : Hid ((5 : Int) < 1 ∨ two s.k < 5) := Lib.hid (.inr (by omega)); clear h4; have HL := Lib.hid hl; have HE : Hid (Es w4 w4 [((Value.iface 164 (.pointer (some ⟨q3, 0, none⟩))), 1, 2)]) := Lib.hid ⟨Below.refl _ _, fun x hx => by { simp at hx; subst hx; exact rc_chain hl.ms.inv HC3.out }⟩; clear hl HM HC3)
    | (go_at_call_of 58 (Value.pointer (some ⟨s.p, 0, none⟩)); refine (lpub_bad (HL.out.keep HE.out.1) lo hi hlo hhi (by decide) (by decide) (by omega)).mono ?_; rintro e w5 ⟨E5, rfl, hr⟩; obtain ⟨q5, rfl, hc, hb⟩ := hr.q; replace HE := Lib.hid (HE.out.cons hb hc); clear hc hb hr)
    | (go_at_call_of 55 (Value.int .i64 5); refine (mClaim_bad (HL.out.keep HE.out.1) 5 HK5.out).mono ?_; rintro e w6 ⟨q6, rfl, hc, hb⟩; replace HE := Lib.hid (HE.out.cons hb hc); clear hc hb)
    | (go_at_call_of 55 (Value.int .i64 0); refine (mClaim_bad (HL.out.keep HE.out.1) 0 (.inl (by decide))).mono ?_; rintro e w7 ⟨q7, rfl, hc, hb⟩; replace HE := Lib.hid (HE.out.cons hb hc); clear hc hb)
    | (go_at_call_of 55 (Value.int .i64 1); refine (mClaim_nil 1 _).mono ?_; rintro e w8 ⟨q8, rfl, hc, hb⟩; replace HE := Lib.hid (HE.out.cons hb hc); clear hc hb)
    | (go_at_call 63; refine (mhigh_nil 1 _).mono ?_; rintro e w9 ⟨E9, rfl, hr⟩; obtain ⟨q9, rfl, hc, hb⟩ := hr.q; replace HE := Lib.hid (HE.out.cons hb hc); clear hc hb hr)
    | (go_at_call 61; refine (mrem_nil _).mono ?_; rintro e w10 ⟨E10, rfl, hr⟩; obtain ⟨q10, rfl, hc, hb⟩ := hr.q; replace HE := Lib.hid (HE.out.cons hb hc); clear hc hb hr)
    | (go_at_call 66; refine (mtry_nil 1 _).mono ?_; rintro e w11 ⟨ts, E11, rfl, hz, hr⟩; obtain ⟨q11, rfl, hc, hb⟩ := hr.q; replace HE := Lib.hid (HE.out.cons hb hc); have HZ := Lib.hid hz; have HZI := Lib.hid hz.info; clear hc hb hr hz)
    | (refine wpList_alloc_try rfl rfl ?_; intro zs hz; have HZS := Lib.hid hz; clear hz)
    | (refine wpList_store_row rfl 116 (.tmp 25) (.tmp 106) rfl w11.heap.size ts rfl rfl 116 _ (obj_new _ _) HZI.out (by rw [HZ.out.size]; exact HZS.out) HZ.out.one ?_; generalize hX : World.setRow _ _ _ = X; obtain ⟨hq, hb⟩ := stored_new hX; have HQ := Lib.hid hq; replace HE := Lib.hid (HE.out.keep hb); clear hX hq hb; generalize w11.heap.size = nb at *)
    | (go_at_call 52; refine (awake10 _).mono ?_; rintro e w12 ⟨rfl, hb⟩; have HQ2 := Lib.hid ((hb.block _ (lt_of_block HQ.out)).trans HQ.out); replace HE := Lib.hid (HE.out.keep hb); clear hb)
    | (go_at_call 67; refine (tdone HZ.out.c2 _).mono ?_; rintro e w13 ⟨rfl, hb⟩; replace HE := Lib.hid (HE.out.keep hb); clear hb)
    | (go_at_call_of 58 (Value.pointer none); refine (mpub_nil lo hi _).mono ?_; rintro e w14 ⟨E14, rfl, hr⟩; obtain ⟨q14, rfl, hc, hb⟩ := hr.q; replace HE := Lib.hid (HE.out.cons hb hc); clear hc hb hr)
    | (go_at_call_of 16 (Value.iface 164 (.pointer (some ⟨q3, 0, none⟩))); refine (isN_chain 2 _ 1 2 (HE.out.2 ((Value.iface 164 (.pointer (some ⟨q3, 0, none⟩))), 1, 2) (by simp)) (by decide)).mono ?_; rintro e y ⟨rfl, rfl⟩)
    | (go_at_call_of 16 (Value.iface 164 (.pointer (some ⟨q5, 0, none⟩))); refine (isN_chain 1 _ 1 1 (HE.out.2 ((Value.iface 164 (.pointer (some ⟨q5, 0, none⟩))), 1, 1) (by simp)) (by decide)).mono ?_; rintro e y ⟨rfl, rfl⟩)
    | (go_at_call_of 16 (Value.iface 164 (.pointer (some ⟨q6, 0, none⟩))); refine (isN_chain 1 _ 2 1 (HE.out.2 ((Value.iface 164 (.pointer (some ⟨q6, 0, none⟩))), 2, 1) (by simp)) (by decide)).mono ?_; rintro e y ⟨rfl, rfl⟩)
    | (go_at_call_of 16 (Value.iface 164 (.pointer (some ⟨q7, 0, none⟩))); refine (isN_chain 1 _ 2 1 (HE.out.2 ((Value.iface 164 (.pointer (some ⟨q7, 0, none⟩))), 2, 1) (by simp)) (by decide)).mono ?_; rintro e y ⟨rfl, rfl⟩)
    | (go_at_call_of 16 (Value.iface 164 (.pointer (some ⟨q8, 0, none⟩))); refine (isN_chain 2 _ 2 2 (HE.out.2 ((Value.iface 164 (.pointer (some ⟨q8, 0, none⟩))), 2, 2) (by simp)) (by decide)).mono ?_; rintro e y ⟨rfl, rfl⟩)
    | (go_at_call_of 16 (Value.iface 164 (.pointer (some ⟨q9, 0, none⟩))); refine (isN_chain 2 _ 1 2 (HE.out.2 ((Value.iface 164 (.pointer (some ⟨q9, 0, none⟩))), 1, 2) (by simp)) (by decide)).mono ?_; rintro e y ⟨rfl, rfl⟩)
    | (go_at_call_of 16 (Value.iface 164 (.pointer (some ⟨q10, 0, none⟩))); refine (isN_chain 2 _ 1 2 (HE.out.2 ((Value.iface 164 (.pointer (some ⟨q10, 0, none⟩))), 1, 2) (by simp)) (by decide)).mono ?_; rintro e y ⟨rfl, rfl⟩)
    | (go_at_call_of 16 (Value.iface 164 (.pointer (some ⟨q11, 0, none⟩))); refine (isN_chain 2 _ 1 2 (HE.out.2 ((Value.iface 164 (.pointer (some ⟨q11, 0, none⟩))), 1, 2) (by simp)) (by decide)).mono ?_; rintro e y ⟨rfl, rfl⟩)
    | (go_at_call_of 16 (Value.iface 164 (.pointer (some ⟨q14, 0, none⟩))); refine (isN_chain 2 _ 1 2 (HE.out.2 ((Value.iface 164 (.pointer (some ⟨q14, 0, none⟩))), 1, 2) (by simp)) (by decide)).mono ?_; rintro e y ⟨rfl, rfl⟩)
    | (go_at_call 62; refine (mclaimed_nil _).mono ?_; rintro e y ⟨rfl, rfl⟩)
    | (go_at_call 74; refine (mcursor_nil _).mono ?_; rintro e y ⟨rfl, rfl⟩)
    | (go_at_call 73; refine (mcached_nil _).mono ?_; rintro e y ⟨rfl, rfl⟩)
    | (go_at_call 75; refine (mshown_nil _).mono ?_; rintro e y ⟨rfl, rfl⟩)
    | (go_at_call 60; refine (mgate_nil _).mono ?_; rintro e y ⟨rfl, rfl⟩)
    | (go_at_call 76; refine (glen_nil _).mono ?_; rintro e y ⟨rfl, rfl⟩))
  all_goals dsimp only [List.append]
  all_goals
    go_wp2_with (first
      | (refine wpList_load_row_g (by kernel_rfl) 116 (.tmp 25) rfl nb rfl 116 ts (0, 0) _ HQ2.out Try.underlying116 rfl HZI.out ?_)
      | (go_at_call 24; refine (new_m _).mono ?_; rintro e w1 ⟨rfl, hm⟩; have HM := Lib.hid (Mv.of_mine hm); clear hm)
      | (go_at_call_of 53 (Value.int .i64 n); refine (mnew_bad _ n hw HNO.out _).mono ?_; rintro e w2 ⟨qb, rfl, hc, hb⟩; replace HM := Lib.hid (HM.out.keep hb); have HCB := Lib.hid hc; clear hc hb)
      | (go_at_call_of 16 (Value.iface 164 (.pointer (some ⟨qb, 0, none⟩))); refine (isN_chain 7 _ 2 7 HCB.out (by decide)).mono ?_; rintro e y ⟨rfl, rfl⟩)
      | (go_at_call 26; refine (HLEN.out _ _ HM.out).mono ?_; rintro e y ⟨rfl, rfl⟩)
      | (go_at_call_of 53 (Value.pointer none); refine (mnew_nil 2 _).mono ?_; rintro e w3 ⟨E3, rfl, hr⟩; obtain ⟨q3, rfl, hc, hb⟩ := hr.q; replace HM := Lib.hid ((HM.out.keep hb).chains); have HC3 := Lib.hid hc; clear hc hb hr)
      | (go_at_call_of 53 (Value.int .i64 4); refine (HNEW.out _ _ HM.out).mono ?_; rintro e w4 ⟨s, rfl, h4, hl⟩; have HK5 : Hid ((5 : Int) < 1 ∨ two s.k < 5) := Lib.hid (.inr (by omega)); clear h4; have HL := Lib.hid hl; have HE : Hid (Es w4 w4 [((Value.iface 164 (.pointer (some ⟨q3, 0, none⟩))), 1, 2)]) := Lib.hid ⟨Below.refl _ _, fun x hx => by { simp at hx; subst hx; exact rc_chain hl.ms.inv HC3.out }⟩; clear hl HM HC3)
      | (go_at_call_of 58 (Value.pointer (some ⟨s.p, 0, none⟩)); refine (lpub_bad (HL.out.keep HE.out.1) lo hi hlo hhi (by decide) (by decide) (by omega)).mono ?_; rintro e w5 ⟨E5, rfl, hr⟩; obtain ⟨q5, rfl, hc, hb⟩ := hr.q; replace HE := Lib.hid (HE.out.cons hb hc); clear hc hb hr)
      | (go_at_call_of 55 (Value.int .i64 5); refine (mClaim_bad (HL.out.keep HE.out.1) 5 HK5.out).mono ?_; rintro e w6 ⟨q6, rfl, hc, hb⟩; replace HE := Lib.hid (HE.out.cons hb hc); clear hc hb)
      | (go_at_call_of 55 (Value.int .i64 0); refine (mClaim_bad (HL.out.keep HE.out.1) 0 (.inl (by decide))).mono ?_; rintro e w7 ⟨q7, rfl, hc, hb⟩; replace HE := Lib.hid (HE.out.cons hb hc); clear hc hb)
      | (go_at_call_of 55 (Value.int .i64 1); refine (mClaim_nil 1 _).mono ?_; rintro e w8 ⟨q8, rfl, hc, hb⟩; replace HE := Lib.hid (HE.out.cons hb hc); clear hc hb)
      | (go_at_call 63; refine (mhigh_nil 1 _).mono ?_; rintro e w9 ⟨E9, rfl, hr⟩; obtain ⟨q9, rfl, hc, hb⟩ := hr.q; replace HE := Lib.hid (HE.out.cons hb hc); clear hc hb hr)
      | (go_at_call 61; refine (mrem_nil _).mono ?_; rintro e w10 ⟨E10, rfl, hr⟩; obtain ⟨q10, rfl, hc, hb⟩ := hr.q; replace HE := Lib.hid (HE.out.cons hb hc); clear hc hb hr)
      | (go_at_call 66; refine (mtry_nil 1 _).mono ?_; rintro e w11 ⟨ts, E11, rfl, hz, hr⟩; obtain ⟨q11, rfl, hc, hb⟩ := hr.q; replace HE := Lib.hid (HE.out.cons hb hc); have HZ := Lib.hid hz; have HZI := Lib.hid hz.info; clear hc hb hr hz)
      | (refine wpList_alloc_try rfl rfl ?_; intro zs hz; have HZS := Lib.hid hz; clear hz)
      | (refine wpList_store_row rfl 116 (.tmp 25) (.tmp 106) rfl w11.heap.size ts rfl rfl 116 _ (obj_new _ _) HZI.out (by rw [HZ.out.size]; exact HZS.out) HZ.out.one ?_; generalize hX : World.setRow _ _ _ = X; obtain ⟨hq, hb⟩ := stored_new hX; have HQ := Lib.hid hq; replace HE := Lib.hid (HE.out.keep hb); clear hX hq hb; generalize w11.heap.size = nb at *)
      | (go_at_call 52; refine (awake10 _).mono ?_; rintro e w12 ⟨rfl, hb⟩; have HQ2 := Lib.hid ((hb.block _ (lt_of_block HQ.out)).trans HQ.out); replace HE := Lib.hid (HE.out.keep hb); clear hb)
      | (go_at_call 67; refine (tdone HZ.out.c2 _).mono ?_; rintro e w13 ⟨rfl, hb⟩; replace HE := Lib.hid (HE.out.keep hb); clear hb)
      | (go_at_call_of 58 (Value.pointer none); refine (mpub_nil lo hi _).mono ?_; rintro e w14 ⟨E14, rfl, hr⟩; obtain ⟨q14, rfl, hc, hb⟩ := hr.q; replace HE := Lib.hid (HE.out.cons hb hc); clear hc hb hr)
      | (go_at_call_of 16 (Value.iface 164 (.pointer (some ⟨q3, 0, none⟩))); refine (isN_chain 2 _ 1 2 (HE.out.2 ((Value.iface 164 (.pointer (some ⟨q3, 0, none⟩))), 1, 2) (by simp)) (by decide)).mono ?_; rintro e y ⟨rfl, rfl⟩)
      | (go_at_call_of 16 (Value.iface 164 (.pointer (some ⟨q5, 0, none⟩))); refine (isN_chain 1 _ 1 1 (HE.out.2 ((Value.iface 164 (.pointer (some ⟨q5, 0, none⟩))), 1, 1) (by simp)) (by decide)).mono ?_; rintro e y ⟨rfl, rfl⟩)
      | (go_at_call_of 16 (Value.iface 164 (.pointer (some ⟨q6, 0, none⟩))); refine (isN_chain 1 _ 2 1 (HE.out.2 ((Value.iface 164 (.pointer (some ⟨q6, 0, none⟩))), 2, 1) (by simp)) (by decide)).mono ?_; rintro e y ⟨rfl, rfl⟩)
      | (go_at_call_of 16 (Value.iface 164 (.pointer (some ⟨q7, 0, none⟩))); refine (isN_chain 1 _ 2 1 (HE.out.2 ((Value.iface 164 (.pointer (some ⟨q7, 0, none⟩))), 2, 1) (by simp)) (by decide)).mono ?_; rintro e y ⟨rfl, rfl⟩)
      | (go_at_call_of 16 (Value.iface 164 (.pointer (some ⟨q8, 0, none⟩))); refine (isN_chain 2 _ 2 2 (HE.out.2 ((Value.iface 164 (.pointer (some ⟨q8, 0, none⟩))), 2, 2) (by simp)) (by decide)).mono ?_; rintro e y ⟨rfl, rfl⟩)
      | (go_at_call_of 16 (Value.iface 164 (.pointer (some ⟨q9, 0, none⟩))); refine (isN_chain 2 _ 1 2 (HE.out.2 ((Value.iface 164 (.pointer (some ⟨q9, 0, none⟩))), 1, 2) (by simp)) (by decide)).mono ?_; rintro e y ⟨rfl, rfl⟩)
      | (go_at_call_of 16 (Value.iface 164 (.pointer (some ⟨q10, 0, none⟩))); refine (isN_chain 2 _ 1 2 (HE.out.2 ((Value.iface 164 (.pointer (some ⟨q10, 0, none⟩))), 1, 2) (by simp)) (by decide)).mono ?_; rintro e y ⟨rfl, rfl⟩)
      | (go_at_call_of 16 (Value.iface 164 (.pointer (some ⟨q11, 0, none⟩))); refine (isN_chain 2 _ 1 2 (HE.out.2 ((Value.iface 164 (.pointer (some ⟨q11, 0, none⟩))), 1, 2) (by simp)) (by decide)).mono ?_; rintro e y ⟨rfl, rfl⟩)
      | (go_at_call_of 16 (Value.iface 164 (.pointer (some ⟨q14, 0, none⟩))); refine (isN_chain 2 _ 1 2 (HE.out.2 ((Value.iface 164 (.pointer (some ⟨q14, 0, none⟩))), 1, 2) (by simp)) (by decide)).mono ?_; rintro e y ⟨rfl, rfl⟩)
      | (go_at_call 62; refine (mclaimed_nil _).mono ?_; rintro e y ⟨rfl, rfl⟩)
      | (go_at_call 74; refine (mcursor_nil _).mono ?_; rintro e y ⟨rfl, rfl⟩)
      | (go_at_call 73; refine (mcached_nil _).mono ?_; rintro e y ⟨rfl, rfl⟩)
      | (go_at_call 75; refine (mshown_nil _).mono ?_; rintro e y ⟨rfl, rfl⟩)
      | (go_at_call 60; refine (mgate_nil _).mono ?_; rintro e y ⟨rfl, rfl⟩)
      | (go_at_call 76; refine (glen_nil _).mono ?_; rintro e y ⟨rfl, rfl⟩))
  all_goals
    go_ret
    exact ⟨rfl, bthen HL.out.below HE.out.1⟩

set_option maxHeartbeats 4000000 in
set_option maxRecDepth 100000 in
theorem walk_pow (k : Nat) (hk : k ≤ 20) (lo hi : Int) (hlo : -9223372036854775808 ≤ lo ∧ lo ≤ 9223372036854775807) (hhi : -9223372036854775808 ≤ hi ∧ hi ≤ 9223372036854775807)(W : World) :
    Calls Try.prog 13 #[.int .i64 (two k), .int .i64 lo, .int .i64 hi] W fun e w' => e = .returned (.bool true) ∧ Below W.heap.size W w' := by
  have t1 := two_le hk
  have t2 := two_pos k
  have HNEW : Hid (∀ R w, Mv R W w W.heap.size [] 0 → Calls Try.prog 53 #[.pointer (some ⟨W.heap.size, 0, none⟩), .int .i64 4] w fun e w' => ∃ s : Sh, e = .returned (.tuple #[.pointer (some ⟨s.p, 0, none⟩), .nilIface]) ∧ two s.k = 4 ∧ Lv R W w' s (-1) (-1) [-1, -1, -1, -1] [] (-1) 0) :=
    fun R w h => (mnew_ok h 2 4 (by decide) rfl).mono fun e w' ⟨s, h1, _, h3, h4⟩ => ⟨s, h1, by rw [h3]; rfl, h4⟩
  have d1 : decide (two k < 1) = false := decide_eq_false (by omega)
  have d2 : decide (1048576 < two k) = false := decide_eq_false (by omega)
  have hb : bits .and .i64 (two k) (two k - 1) = 0 := by rw [and_two k hk]; exact Int.emod_self
  go_enter Try.func13, Try.ntmps13
  go_upto_region 17 with (first
    | (refine wpList_load_row_g (by kernel_rfl) 116 (.tmp 25) rfl nb rfl 116 ts (0, 0) _ HQ2.out Try.underlying116 rfl HZI.out ?_)
    | (go_at_call 24; refine (new_m _).mono ?_; rintro e w1 ⟨rfl, hm⟩; have HM := Lib.hid (Mv.of_mine hm); clear hm)
    | (go_at_call_of 53 (Value.pointer none); refine (mnew_nil 2 _).mono ?_; rintro e w3 ⟨E3, rfl, hr⟩; obtain ⟨q3, rfl, hc, hb⟩ := hr.q; replace HM := Lib.hid ((HM.out.keep hb).chains); have HC3 := Lib.hid hc; clear hc hb hr)
    | (go_at_call_of 53 (Value.int .i64 4); refine (HNEW.out _ _ HM.out).mono ?_; rintro e w4 ⟨s, rfl, h4, hl⟩; have HK5 : Hid ((5 : Int) < 1 ∨ two s.k < 5) := Lib.hid (.inr (by omega)); clear h4; have HL := Lib.hid hl; have HE : Hid (Es w4 w4 [((Value.iface 164 (.pointer (some ⟨q3, 0, none⟩))), 1, 2)]) := Lib.hid ⟨Below.refl _ _, fun x hx => by { simp at hx; subst hx; exact rc_chain hl.ms.inv HC3.out }⟩; clear hl HM HC3)
    | (go_at_call_of 58 (Value.pointer (some ⟨s.p, 0, none⟩)); refine (lpub_bad (HL.out.keep HE.out.1) lo hi hlo hhi (by decide) (by decide) (by omega)).mono ?_; rintro e w5 ⟨E5, rfl, hr⟩; obtain ⟨q5, rfl, hc, hb⟩ := hr.q; replace HE := Lib.hid (HE.out.cons hb hc); clear hc hb hr)
    | (go_at_call_of 55 (Value.int .i64 5); refine (mClaim_bad (HL.out.keep HE.out.1) 5 HK5.out).mono ?_; rintro e w6 ⟨q6, rfl, hc, hb⟩; replace HE := Lib.hid (HE.out.cons hb hc); clear hc hb)
    | (go_at_call_of 55 (Value.int .i64 0); refine (mClaim_bad (HL.out.keep HE.out.1) 0 (.inl (by decide))).mono ?_; rintro e w7 ⟨q7, rfl, hc, hb⟩; replace HE := Lib.hid (HE.out.cons hb hc); clear hc hb)
    | (go_at_call_of 55 (Value.int .i64 1); refine (mClaim_nil 1 _).mono ?_; rintro e w8 ⟨q8, rfl, hc, hb⟩; replace HE := Lib.hid (HE.out.cons hb hc); clear hc hb)
    | (go_at_call 63; refine (mhigh_nil 1 _).mono ?_; rintro e w9 ⟨E9, rfl, hr⟩; obtain ⟨q9, rfl, hc, hb⟩ := hr.q; replace HE := Lib.hid (HE.out.cons hb hc); clear hc hb hr)
    | (go_at_call 61; refine (mrem_nil _).mono ?_; rintro e w10 ⟨E10, rfl, hr⟩; obtain ⟨q10, rfl, hc, hb⟩ := hr.q; replace HE := Lib.hid (HE.out.cons hb hc); clear hc hb hr)
    | (go_at_call 66; refine (mtry_nil 1 _).mono ?_; rintro e w11 ⟨ts, E11, rfl, hz, hr⟩; obtain ⟨q11, rfl, hc, hb⟩ := hr.q; replace HE := Lib.hid (HE.out.cons hb hc); have HZ := Lib.hid hz; have HZI := Lib.hid hz.info; clear hc hb hr hz)
    | (refine wpList_alloc_try rfl rfl ?_; intro zs hz; have HZS := Lib.hid hz; clear hz)
    | (refine wpList_store_row rfl 116 (.tmp 25) (.tmp 106) rfl w11.heap.size ts rfl rfl 116 _ (obj_new _ _) HZI.out (by rw [HZ.out.size]; exact HZS.out) HZ.out.one ?_; generalize hX : World.setRow _ _ _ = X; obtain ⟨hq, hb⟩ := stored_new hX; have HQ := Lib.hid hq; replace HE := Lib.hid (HE.out.keep hb); clear hX hq hb; generalize w11.heap.size = nb at *)
    | (go_at_call 52; refine (awake10 _).mono ?_; rintro e w12 ⟨rfl, hb⟩; have HQ2 := Lib.hid ((hb.block _ (lt_of_block HQ.out)).trans HQ.out); replace HE := Lib.hid (HE.out.keep hb); clear hb)
    | (go_at_call 67; refine (tdone HZ.out.c2 _).mono ?_; rintro e w13 ⟨rfl, hb⟩; replace HE := Lib.hid (HE.out.keep hb); clear hb)
    | (go_at_call_of 58 (Value.pointer none); refine (mpub_nil lo hi _).mono ?_; rintro e w14 ⟨E14, rfl, hr⟩; obtain ⟨q14, rfl, hc, hb⟩ := hr.q; replace HE := Lib.hid (HE.out.cons hb hc); clear hc hb hr)
    | (go_at_call_of 16 (Value.iface 164 (.pointer (some ⟨q3, 0, none⟩))); refine (isN_chain 2 _ 1 2 (HE.out.2 ((Value.iface 164 (.pointer (some ⟨q3, 0, none⟩))), 1, 2) (by simp)) (by decide)).mono ?_; rintro e y ⟨rfl, rfl⟩)
    | (go_at_call_of 16 (Value.iface 164 (.pointer (some ⟨q5, 0, none⟩))); refine (isN_chain 1 _ 1 1 (HE.out.2 ((Value.iface 164 (.pointer (some ⟨q5, 0, none⟩))), 1, 1) (by simp)) (by decide)).mono ?_; rintro e y ⟨rfl, rfl⟩)
    | (go_at_call_of 16 (Value.iface 164 (.pointer (some ⟨q6, 0, none⟩))); refine (isN_chain 1 _ 2 1 (HE.out.2 ((Value.iface 164 (.pointer (some ⟨q6, 0, none⟩))), 2, 1) (by simp)) (by decide)).mono ?_; rintro e y ⟨rfl, rfl⟩)
    | (go_at_call_of 16 (Value.iface 164 (.pointer (some ⟨q7, 0, none⟩))); refine (isN_chain 1 _ 2 1 (HE.out.2 ((Value.iface 164 (.pointer (some ⟨q7, 0, none⟩))), 2, 1) (by simp)) (by decide)).mono ?_; rintro e y ⟨rfl, rfl⟩)
    | (go_at_call_of 16 (Value.iface 164 (.pointer (some ⟨q8, 0, none⟩))); refine (isN_chain 2 _ 2 2 (HE.out.2 ((Value.iface 164 (.pointer (some ⟨q8, 0, none⟩))), 2, 2) (by simp)) (by decide)).mono ?_; rintro e y ⟨rfl, rfl⟩)
    | (go_at_call_of 16 (Value.iface 164 (.pointer (some ⟨q9, 0, none⟩))); refine (isN_chain 2 _ 1 2 (HE.out.2 ((Value.iface 164 (.pointer (some ⟨q9, 0, none⟩))), 1, 2) (by simp)) (by decide)).mono ?_; rintro e y ⟨rfl, rfl⟩)
    | (go_at_call_of 16 (Value.iface 164 (.pointer (some ⟨q10, 0, none⟩))); refine (isN_chain 2 _ 1 2 (HE.out.2 ((Value.iface 164 (.pointer (some ⟨q10, 0, none⟩))), 1, 2) (by simp)) (by decide)).mono ?_; rintro e y ⟨rfl, rfl⟩)
    | (go_at_call_of 16 (Value.iface 164 (.pointer (some ⟨q11, 0, none⟩))); refine (isN_chain 2 _ 1 2 (HE.out.2 ((Value.iface 164 (.pointer (some ⟨q11, 0, none⟩))), 1, 2) (by simp)) (by decide)).mono ?_; rintro e y ⟨rfl, rfl⟩)
    | (go_at_call_of 16 (Value.iface 164 (.pointer (some ⟨q14, 0, none⟩))); refine (isN_chain 2 _ 1 2 (HE.out.2 ((Value.iface 164 (.pointer (some ⟨q14, 0, none⟩))), 1, 2) (by simp)) (by decide)).mono ?_; rintro e y ⟨rfl, rfl⟩)
    | (go_at_call 62; refine (mclaimed_nil _).mono ?_; rintro e y ⟨rfl, rfl⟩)
    | (go_at_call 74; refine (mcursor_nil _).mono ?_; rintro e y ⟨rfl, rfl⟩)
    | (go_at_call 73; refine (mcached_nil _).mono ?_; rintro e y ⟨rfl, rfl⟩)
    | (go_at_call 75; refine (mshown_nil _).mono ?_; rintro e y ⟨rfl, rfl⟩)
    | (go_at_call 60; refine (mgate_nil _).mono ?_; rintro e y ⟨rfl, rfl⟩)
    | (go_at_call 76; refine (glen_nil _).mono ?_; rintro e y ⟨rfl, rfl⟩))
  all_goals dsimp only [List.append]
  all_goals
    go_wp2_with (first
      | (refine wpList_load_row_g (by kernel_rfl) 116 (.tmp 25) rfl nb rfl 116 ts (0, 0) _ HQ2.out Try.underlying116 rfl HZI.out ?_)
      | (go_at_call 24; refine (new_m _).mono ?_; rintro e w1 ⟨rfl, hm⟩; have HM := Lib.hid (Mv.of_mine hm); clear hm)
      | (go_at_call_of 53 (Value.pointer none); refine (mnew_nil 2 _).mono ?_; rintro e w3 ⟨E3, rfl, hr⟩; obtain ⟨q3, rfl, hc, hb⟩ := hr.q; replace HM := Lib.hid ((HM.out.keep hb).chains); have HC3 := Lib.hid hc; clear hc hb hr)
      | (go_at_call_of 53 (Value.int .i64 4); refine (HNEW.out _ _ HM.out).mono ?_; rintro e w4 ⟨s, rfl, h4, hl⟩; have HK5 : Hid ((5 : Int) < 1 ∨ two s.k < 5) := Lib.hid (.inr (by omega)); clear h4; have HL := Lib.hid hl; have HE : Hid (Es w4 w4 [((Value.iface 164 (.pointer (some ⟨q3, 0, none⟩))), 1, 2)]) := Lib.hid ⟨Below.refl _ _, fun x hx => by { simp at hx; subst hx; exact rc_chain hl.ms.inv HC3.out }⟩; clear hl HM HC3)
      | (go_at_call_of 58 (Value.pointer (some ⟨s.p, 0, none⟩)); refine (lpub_bad (HL.out.keep HE.out.1) lo hi hlo hhi (by decide) (by decide) (by omega)).mono ?_; rintro e w5 ⟨E5, rfl, hr⟩; obtain ⟨q5, rfl, hc, hb⟩ := hr.q; replace HE := Lib.hid (HE.out.cons hb hc); clear hc hb hr)
      | (go_at_call_of 55 (Value.int .i64 5); refine (mClaim_bad (HL.out.keep HE.out.1) 5 HK5.out).mono ?_; rintro e w6 ⟨q6, rfl, hc, hb⟩; replace HE := Lib.hid (HE.out.cons hb hc); clear hc hb)
      | (go_at_call_of 55 (Value.int .i64 0); refine (mClaim_bad (HL.out.keep HE.out.1) 0 (.inl (by decide))).mono ?_; rintro e w7 ⟨q7, rfl, hc, hb⟩; replace HE := Lib.hid (HE.out.cons hb hc); clear hc hb)
      | (go_at_call_of 55 (Value.int .i64 1); refine (mClaim_nil 1 _).mono ?_; rintro e w8 ⟨q8, rfl, hc, hb⟩; replace HE := Lib.hid (HE.out.cons hb hc); clear hc hb)
      | (go_at_call 63; refine (mhigh_nil 1 _).mono ?_; rintro e w9 ⟨E9, rfl, hr⟩; obtain ⟨q9, rfl, hc, hb⟩ := hr.q; replace HE := Lib.hid (HE.out.cons hb hc); clear hc hb hr)
      | (go_at_call 61; refine (mrem_nil _).mono ?_; rintro e w10 ⟨E10, rfl, hr⟩; obtain ⟨q10, rfl, hc, hb⟩ := hr.q; replace HE := Lib.hid (HE.out.cons hb hc); clear hc hb hr)
      | (go_at_call 66; refine (mtry_nil 1 _).mono ?_; rintro e w11 ⟨ts, E11, rfl, hz, hr⟩; obtain ⟨q11, rfl, hc, hb⟩ := hr.q; replace HE := Lib.hid (HE.out.cons hb hc); have HZ := Lib.hid hz; have HZI := Lib.hid hz.info; clear hc hb hr hz)
      | (refine wpList_alloc_try rfl rfl ?_; intro zs hz; have HZS := Lib.hid hz; clear hz)
      | (refine wpList_store_row rfl 116 (.tmp 25) (.tmp 106) rfl w11.heap.size ts rfl rfl 116 _ (obj_new _ _) HZI.out (by rw [HZ.out.size]; exact HZS.out) HZ.out.one ?_; generalize hX : World.setRow _ _ _ = X; obtain ⟨hq, hb⟩ := stored_new hX; have HQ := Lib.hid hq; replace HE := Lib.hid (HE.out.keep hb); clear hX hq hb; generalize w11.heap.size = nb at *)
      | (go_at_call 52; refine (awake10 _).mono ?_; rintro e w12 ⟨rfl, hb⟩; have HQ2 := Lib.hid ((hb.block _ (lt_of_block HQ.out)).trans HQ.out); replace HE := Lib.hid (HE.out.keep hb); clear hb)
      | (go_at_call 67; refine (tdone HZ.out.c2 _).mono ?_; rintro e w13 ⟨rfl, hb⟩; replace HE := Lib.hid (HE.out.keep hb); clear hb)
      | (go_at_call_of 58 (Value.pointer none); refine (mpub_nil lo hi _).mono ?_; rintro e w14 ⟨E14, rfl, hr⟩; obtain ⟨q14, rfl, hc, hb⟩ := hr.q; replace HE := Lib.hid (HE.out.cons hb hc); clear hc hb hr)
      | (go_at_call_of 16 (Value.iface 164 (.pointer (some ⟨q3, 0, none⟩))); refine (isN_chain 2 _ 1 2 (HE.out.2 ((Value.iface 164 (.pointer (some ⟨q3, 0, none⟩))), 1, 2) (by simp)) (by decide)).mono ?_; rintro e y ⟨rfl, rfl⟩)
      | (go_at_call_of 16 (Value.iface 164 (.pointer (some ⟨q5, 0, none⟩))); refine (isN_chain 1 _ 1 1 (HE.out.2 ((Value.iface 164 (.pointer (some ⟨q5, 0, none⟩))), 1, 1) (by simp)) (by decide)).mono ?_; rintro e y ⟨rfl, rfl⟩)
      | (go_at_call_of 16 (Value.iface 164 (.pointer (some ⟨q6, 0, none⟩))); refine (isN_chain 1 _ 2 1 (HE.out.2 ((Value.iface 164 (.pointer (some ⟨q6, 0, none⟩))), 2, 1) (by simp)) (by decide)).mono ?_; rintro e y ⟨rfl, rfl⟩)
      | (go_at_call_of 16 (Value.iface 164 (.pointer (some ⟨q7, 0, none⟩))); refine (isN_chain 1 _ 2 1 (HE.out.2 ((Value.iface 164 (.pointer (some ⟨q7, 0, none⟩))), 2, 1) (by simp)) (by decide)).mono ?_; rintro e y ⟨rfl, rfl⟩)
      | (go_at_call_of 16 (Value.iface 164 (.pointer (some ⟨q8, 0, none⟩))); refine (isN_chain 2 _ 2 2 (HE.out.2 ((Value.iface 164 (.pointer (some ⟨q8, 0, none⟩))), 2, 2) (by simp)) (by decide)).mono ?_; rintro e y ⟨rfl, rfl⟩)
      | (go_at_call_of 16 (Value.iface 164 (.pointer (some ⟨q9, 0, none⟩))); refine (isN_chain 2 _ 1 2 (HE.out.2 ((Value.iface 164 (.pointer (some ⟨q9, 0, none⟩))), 1, 2) (by simp)) (by decide)).mono ?_; rintro e y ⟨rfl, rfl⟩)
      | (go_at_call_of 16 (Value.iface 164 (.pointer (some ⟨q10, 0, none⟩))); refine (isN_chain 2 _ 1 2 (HE.out.2 ((Value.iface 164 (.pointer (some ⟨q10, 0, none⟩))), 1, 2) (by simp)) (by decide)).mono ?_; rintro e y ⟨rfl, rfl⟩)
      | (go_at_call_of 16 (Value.iface 164 (.pointer (some ⟨q11, 0, none⟩))); refine (isN_chain 2 _ 1 2 (HE.out.2 ((Value.iface 164 (.pointer (some ⟨q11, 0, none⟩))), 1, 2) (by simp)) (by decide)).mono ?_; rintro e y ⟨rfl, rfl⟩)
      | (go_at_call_of 16 (Value.iface 164 (.pointer (some ⟨q14, 0, none⟩))); refine (isN_chain 2 _ 1 2 (HE.out.2 ((Value.iface 164 (.pointer (some ⟨q14, 0, none⟩))), 1, 2) (by simp)) (by decide)).mono ?_; rintro e y ⟨rfl, rfl⟩)
      | (go_at_call 62; refine (mclaimed_nil _).mono ?_; rintro e y ⟨rfl, rfl⟩)
      | (go_at_call 74; refine (mcursor_nil _).mono ?_; rintro e y ⟨rfl, rfl⟩)
      | (go_at_call 73; refine (mcached_nil _).mono ?_; rintro e y ⟨rfl, rfl⟩)
      | (go_at_call 75; refine (mshown_nil _).mono ?_; rintro e y ⟨rfl, rfl⟩)
      | (go_at_call 60; refine (mgate_nil _).mono ?_; rintro e y ⟨rfl, rfl⟩)
      | (go_at_call 76; refine (glen_nil _).mono ?_; rintro e y ⟨rfl, rfl⟩))
  all_goals
    go_ret
    exact ⟨rfl, bthen HL.out.below HE.out.1⟩

theorem walkOf (a0 : Int) (w0 : (Lit.int .i64 a0).wf = true) (a1 : Int) (w1 : (Lit.int .i64 a1).wf = true) (a2 : Int) (w2 : (Lit.int .i64 a2).wf = true) {W0 : World} :
    Calls Try.prog 13 #[.int .i64 a0, .int .i64 a1, .int .i64 a2] W0 fun e w' => e = .returned (.bool true) ∧ Below W0.heap.size W0 w' := by
  have h0 := (i64_wf w0).1
  by_cases e1 : a0 < 1
  · exact walk_low a0 a1 a2 h0 (i64_wf w1) (i64_wf w2) e1 W0
  by_cases e2 : 1048576 < a0
  · exact walk_high a0 a1 a2 h0 (i64_wf w1) (i64_wf w2) e2 W0
  by_cases h : ∃ k, k ≤ 20 ∧ a0 = two k
  · obtain ⟨k, hk, rfl⟩ := h
    exact walk_pow k hk a1 a2 (i64_wf w1) (i64_wf w2) W0
  · exact walk_mid a0 a1 a2 h0 (i64_wf w1) (i64_wf w2) (by omega) (by omega) (fun k hk e => h ⟨k, hk, e⟩) W0

set_option maxRecDepth 100000 in
theorem lifted (os : Os) (started : os.Started) (H : Type) (enc : TypeId × Value → H) :
    ReturnsInHanded {} Try.checked os 13 .any (Rows.multiWrongSpec.pre6 enc Try.prog Try.f13 Rows.multiWrongRow.domain false) (Rows.multiWrongSpec.post enc Try.prog Try.f13 false true false false) := by
  refine returnsInHanded_of_change (C := Try.checked) own started (by kernel_rfl) Try.func13
    (ChangeSpec.witness6 (enc := enc) (C := Try.checked) false ⟨#[], #[.int .i64 0, .int .i64 0, .int .i64 0], []⟩ 8 (by kernel_rfl) (by kernel_rfl) (by kernel_rfl) (by kernel_rfl)) ?_
  intro W base args ds gs before hval0 hW hcnd _
  have hval : ∀ (j : Nat) t v, Try.f13.params[j]? = some t → args[j]? = some v → Value.okWide Try.prog W .any base t v := hval0
  have hW' := hW
  have hlt : ∀ p ∈ before, p.block < W.heap.size := fun p hp => hW.lt p hp
  obtain ⟨p, q, hA0, hV, rfl, hfz, hnd⟩ := hW
  have hA : DataW.TrodAll enc Try.prog W 0 (fun _ => true) true Try.f13.params.toList args.toList ds p := hA0
  rw [Try.params13] at hA hval
  obtain ⟨v0, vs0, d0, ds0, p0, q0, hargs, rfl, rfl, h0, r0⟩ := trodAll_cons hA
  obtain ⟨v1, vs1, d1, ds1, p1, q1, rfl, rfl, rfl, h1, r1⟩ := trodAll_cons r0
  obtain ⟨v2, vs2, d2, ds2, p2, q2, rfl, rfl, rfl, h2, r2⟩ := trodAll_cons r1
  obtain ⟨rfl, rfl, rfl⟩ := trodAll_nil r2
  obtain rfl : args = #[v0, v1, v2] := by cases args; simp_all
  obtain ⟨rfl, rfl⟩ := trodVars_none hV
  have t0 := h0
  obtain ⟨a0, rfl, _, _, w0⟩ := open_int Try.underlying3 (hval 0 3 v0 rfl rfl) h0
  have t1 := h1
  obtain ⟨a1, rfl, _, _, w1⟩ := open_int Try.underlying2 (hval 1 2 v1 rfl rfl) h1
  have t2 := h2
  obtain ⟨a2, rfl, _, _, w2⟩ := open_int Try.underlying2 (hval 2 2 v2 rfl rfl) h2
  clear hA0 hval0
  refine (walkOf a0 w0 a1 w1 a2 w2 (W0 := W)).mono fun e W' ⟨he, hb⟩ => ?_
  subst he
  have lo : laidOutB Try.prog = true := by kernel_rfl
  have tsize : Try.prog.types.size = 221 := by kernel_rfl
  simp only [List.append_nil] at hW'
  refine ⟨_, rfl, shut_same hb hW' (fun _ _ _ => trodAll_cons_mk (shut_bool Try.underlying4 _) trodAll_mk0) ?_ rfl⟩
  have k0 := Below.trod lo (by kernel_rfl) (by rw [tsize]; decide) t0 hb (fun x hx => hlt x (by simp [hx]))
  have k1 := Below.trod lo (by kernel_rfl) (by rw [tsize]; decide) t1 hb (fun x hx => hlt x (by simp [hx]))
  have k2 := Below.trod lo (by kernel_rfl) (by rw [tsize]; decide) t2 hb (fun x hx => hlt x (by simp [hx]))
  have kk := (trodAll_cons_mk k0 (trodAll_cons_mk k1 (trodAll_cons_mk k2 trodAll_mk0)))
  simp only [List.append_nil] at kk ⊢
  exact kk

theorem over : Rows.multiWrongRow.holds Try.pinned (OpenSpec.ofChange Rows.multiWrongSpec) :=
  OpenClaim.holds_of_wide 13 Try.f13 rfl rfl rfl rfl rfl rfl rfl ⟨rfl, rfl, rfl, rfl, rfl⟩ rfl rfl rfl rfl rfl (by kernel_rfl) Try.func13 (by kernel_rfl)
    (of_decide_eq_true (by kernel_rfl)) (by unfold Func.isWrapper; first | (rw [if_pos (by decide +kernel)]; kernel_rfl) | (rw [if_neg (by decide +kernel)]; exact ⟨rfl, rfl⟩))
    (fun os started H enc _ => lifted os started H enc)

theorem proved : Rows.MultiWrongSaid :=
  over
end Go.Proofs.Yteinfkcnengmeaa.multiWrong
