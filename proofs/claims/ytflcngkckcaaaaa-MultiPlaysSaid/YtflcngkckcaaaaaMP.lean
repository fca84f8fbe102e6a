/-
  MultiPlays' walk. Conditions: at most 80 ops.
-/
import Derived.Test.YtflcngkckcaaaaaMp0
import Derived.Test.YtflcngkckcaaaaaShut
import Derived.Deep.DeepCutAuto
import Derived.Deep.CutBlock
import Derived.Deep.RegionHeld3
import Derived.Deep.DrawnRows
import Derived.BigRegion
namespace Go.Proofs.Ytflcngkckcaaaaa
open Go.RowKit
set_option linter.unusedVariables false
/-- The load of those who hold back, as the law's last statement of kind 3 has it. -/
def ldG : Op := .load 38 (.tmp 202)
attribute [local go_sem ↓] Go.wp_at_zero Go.wp_at_succ ldG

set_option maxRecDepth 100000 in
set_option maxHeartbeats 8000000 in
theorem mplays_walk (W : World) (sh0 : Int) (hsh : 0 ≤ sh0) (k : Nat) (hs : sh0 % 7 = k) (hk : k < 7) (v : Value) (n : Nat) (fld : Nat → Nat → Int) (hO : OpsAt W v n 4 fld) (hn : n ≤ 80) (lo : Int) (hlo : lo ≤ 1099511627776) (hlo2 : -9223372036854775808 ≤ lo) :
    Calls Try.prog 8 #[.int .u8 sh0, v, .int .i64 lo] W fun e w' => e = .returned (.bool true) ∧ Below W.heap.size W w' := by
  obtain ⟨p, cap, rfl, hnm, hc⟩ := hO
  have HC := Lib.hid hc
  have ht : sh0.tmod 7 = (k : Int) := by rw [Int.tmod_eq_emod_of_nonneg hsh]; exact hs
  have wt := wrap_two k (by omega)
  have d1 : decide ((80 : Int) < (n : Int)) = false := decide_eq_false (by omega)
  have d2 : decide ((1099511627776 : Int) < lo) = false := decide_eq_false (by omega)
  obtain ⟨N, hN⟩ : ∃ N : Nat, (N : Int) = two k := ⟨(two k).toNat, by have := two_pos k; omega⟩
  have HN := Lib.hid hN
  have hn1 := two_pos k
  have hn2 := two64 hk
  clear hs hsh hc hnm hN
  go_enter Try.func8, Try.ntmps8
  go_upto_region 4 with (go_at_call 25; refine (new_m _).mono ?_; rintro e w1 ⟨rfl, hm⟩; have HM1 := Lib.hid hm; clear hm)
  go_upto_region 5 with fail
  rw [wt]
  clear wt ht
  go_upto_region 8 with (go_at_call 54; refine (mnew_ok (Mv.of_mine HM1.out) k N (by omega) HN.out).mono ?_; rintro e w2 ⟨s, rfl, hb, hsk, hl⟩; have L2 := Lib.hid hl; have HSB := Lib.hid hb; have HSK := Lib.hid hsk; clear hl hb hsk HM1)
  have HI0 := Lib.hid (s10_info (two k) (-1) (.slice none 0 0) (-1) (.slice none 0 0))
  have HE0 := Lib.hid (s10_one (N := two k) (c := -1) (sn := -1) (gv := .slice none 0 0) (sv := .slice none 0 0) rfl rfl)
  go_upto_region 9 with (first
    | (go_at_call 55; refine (rnew10 (two k) _).mono ?_; rintro e w3 ⟨rfl, hb⟩; have L3 := Lib.hid (L2.out.keep hb); clear hb L2)
    | (refine wpList_store_row rfl 89 (.tmp 11) (.tmp 52) rfl w3.heap.size (s10 (two k) (-1) (.slice none 0 0) (-1) (.slice none 0 0)) rfl rfl 89 _ (obj_new w3 _) HI0.out rfl HE0.out ?_))
  have L4 := Lib.hid (lp_row (lp_new L3.out #[.int .i64 0, .int .i64 0, .int .i64 0, .slice none 0 0, .int .i64 0, .int .i64 0, .slice none 0 0]) (s10 (two k) (-1) (.slice none 0 0) (-1) (.slice none 0 0)))
  generalize World.setRow _ _ _ = w4 at *
  generalize w3.heap.size = mb at *
  clear HI0 HE0 L3
  have HS0 : Hid (MPs R0 W w4 s mb (1000 * (0 : Nat)) 0 (.slice none 0 0)) := Lib.hid (by
    have h := L4.out
    rw [← HSK.out] at h
    exact ⟨-1, -1, List.replicate N (-1), [], [], -1, 0, .slice none 0 0, .slice none 0 0, h, MpI.start (by rw [HSK.out]; exact HN.out)⟩)
  have H64 : Hid (1 ≤ two s.k ∧ two s.k ≤ 64) := Lib.hid (by rw [HSK.out]; omega)
  rw [← HSK.out]
  clear L4 hn1 hn2
  go_wp2_with fail
  go_loopw [12, 55] (fun vi i wl => ∃ t : Nat, t ≤ n ∧ i = .int .i64 t ∧ Hid (MPs R0 W wl s mb (1000 * t) t vi)) (fun _ i _ => n - (intOf i).toNat)
  case atStart => exact ⟨0, Nat.zero_le _, rfl, HS0⟩
  case round =>
    clear HS0
    obtain ⟨t, ht, rfl, HP⟩ := hrel
    obtain ⟨c, sn, sh, gv, ss, sw, st, vg, vs, hl, hI⟩ := HP.out
    have HL := Lib.hid hl
    have HI := Lib.hid hI
    obtain ⟨pi, ci, hvi, _⟩ := row_form (lp_i hl)
    rw [idsN_len] at hvi
    subst hvi
    obtain ⟨pg, cg, rfl, _⟩ := row_form (lp_g hl)
    obtain ⟨ps, cs, rfl, _⟩ := row_form (lp_s hl)
    clear hl hI
    by_cases hlt : t < n
    · obtain ⟨b, off, rfl, hcell⟩ := HC.out.resolve_left (by omega)
      have hk4 := hcell t hlt
      have q0 := keepc HL.out.below (hk4 0 (by decide)).1
      have q1 := keepc HL.out.below (hk4 1 (by decide)).1
      have q2 := keepc HL.out.below (hk4 2 (by decide)).1
      have q3 := keepc HL.out.below (hk4 3 (by decide)).1
      have HR1 := Lib.hid (hk4 1 (by decide)).2
      have HR2 := Lib.hid (hk4 2 (by decide)).2
      have HR3 := Lib.hid (hk4 3 (by decide)).2
      generalize fld t 0 = z0 at *
      generalize fld t 1 = z1 at *
      generalize fld t 2 = z2 at *
      generalize fld t 3 = z3 at *
      simp only [Nat.add_zero] at q0
      clear hcell hk4
      go_upto_block 2 with fail
      have HL3 := Lib.hid ((HL.out.of_ms (HL.out.ms.boxNew #[.int .i64 z0, .int .i64 z1, .int .i64 z2, .int .i64 z3] 92)).le RP.push)
      clear HL q0 q1 q2 q3 HP
      generalize wr.alloc (.cells #[.int .i64 z0, .int .i64 z1, .int .i64 z2, .int .i64 z3] 92) = w3 at *
      generalize wr.heap.size = ob at *
      have HB : Hid (-1 ≤ c ∧ c ≤ 5120 ∧ 0 ≤ st ∧ st ≤ 80000 ∧ gv.length ≤ 20 ∧ ss.length ≤ 5120 ∧ st ≤ 1000 * t) := Lib.hid ⟨HI.out.c0, by have := HI.out.c2; omega, HI.out.st0, by have := HI.out.st1; omega, HI.out.gl, by have := HI.out.sl; omega, HI.out.st1⟩
      go_cut [12] (fun vx wx => Hid (MPs R0 W wx s mb (1000 * t + 500) (t + 1) vx))
      case first =>
        by_cases e0 : z0 = 0
        · subst e0
          as_aux_lemma =>
            obtain ⟨x, f, c', sn', hcl⟩ := clP_any (two s.k) c sn z1 gv
            have HCL := Lib.hid hcl
            clear hcl
            have o1 : w3.cell? ⟨ob, 1, none⟩ = some (.int .i64 z1) := (obj_cell (lp_ob HL3.out) 1).trans rfl
            go_upto_region 18 with (go_at_call 56; refine (mclaim_any HL3.out HCL.out (by have := HB.out; omega) HB.out.2.2.1 (by have := HB.out; omega)).mono ?_; rintro e w4 ⟨E, rfl, hE, sw', st', a1, a2, hl⟩; have HE := Lib.hid hE; have HL4 := Lib.hid hl; clear hl hE o1)
            have o1 : w4.cell? ⟨ob, 1, none⟩ = some (.int .i64 z1) := (obj_cell (lp_ob HL4.out) 1).trans rfl
            have HRM : Hid (∀ w, Below w4.heap.size w4 w → Calls Try.prog 57 #[.agg #[.int .i64 (two s.k), .int .i64 c, .int .i64 c, .slice pg gv.length cg, .int .i64 sn, .int .i64 0]] w fun e w' => e = .returned (.int .i64 (remP (two s.k) c gv)) ∧ Below w.heap.size w w') := Lib.hid fun w hb => rremaining9 ((lp_lng HL4.out).keep hb) (by have := HB.out; omega) _ c sn 0 (by have := H64.out; omega) (by have := HB.out; omega) HI.out.least
            obtain ⟨k0, k1, k2, k3, k4, k5⟩ := (lp_box HL4.out).k
            clear HL3
            go_region_held3 (fun w' => w'.cell? ⟨mb, 0, none⟩ = some (.int .i64 (two s.k)) ∧ w'.cell? ⟨mb, 1, none⟩ = some (.int .i64 c) ∧ w'.cell? ⟨mb, 2, none⟩ = some (.int .i64 c) ∧ w'.cell? ⟨mb, 3, none⟩ = some (.slice pg gv.length cg) ∧ w'.cell? ⟨mb, 4, none⟩ = some (.int .i64 sn) ∧ w'.cell? ⟨mb, 5, none⟩ = some (.int .i64 0) ∧ w'.cell? ⟨ob, 1, none⟩ = some (.int .i64 z1)) (first
              | exact ⟨by assumption, by assumption, by assumption, by assumption, by assumption, by assumption, by assumption⟩
              | exact ⟨by go_simp, by go_simp, by go_simp, by go_simp, by go_simp, by go_simp, by go_simp⟩) (first
              | (go_at_call 57; refine (HRM.out _ (Below.drew (Below.refl _ _))).mono ?_; rintro e w5 ⟨rfl, hb⟩; have HB45 := Lib.hid (bthen (Below.drew (Below.refl _ w4)) hb); have HL5 := Lib.hid (HL4.out.keep HB45.out); obtain ⟨j0, j1, j2, j3, j4, j5⟩ := (lp_box HL5.out).k; have jo : w5.cell? ⟨ob, 1, none⟩ = some (.int .i64 z1) := (obj_cell (lp_ob HL5.out) 1).trans rfl; clear hb))
            generalize hsb : decide (remP (two s.k) c gv < z1) = sb
            have HSB2 := Lib.hid hsb
            have hE5 := HE.out.keep HB45.out
            have HE5 := Lib.hid hE5
            clear hsb hE5 k0 k1 k2 k3 k4 k5 o1 HE HL4 HRM
            have HTS : Hid (0 ≤ two s.k ∧ two s.k ≤ 1048576) := Lib.hid (by have := H64.out; omega)
            have HCC : Hid (-1 ≤ c ∧ c ≤ 2305843009213693952) := Lib.hid (by have := HB.out; omega)
            have HGB : Hid (gv.length ≤ 1000000) := Lib.hid (by have := HB.out; omega)
            have HI1 := Lib.hid (s10_info (two s.k) c (.slice pg gv.length cg) sn (.slice ps ss.length cs))
            have HI2 := Lib.hid (s10_info (two s.k) c' (.slice pg gv.length cg) sn' (.slice ps ss.length cs))
            have HE2 := Lib.hid (s10_one (N := two s.k) (c := c') (sn := sn') (gv := .slice pg gv.length cg) (sv := .slice ps ss.length cs) rfl rfl)
            have HM : Hid (MpI s.k c' sn' sh gv ss st' (1000 * t + 500) (t + 1)) := Lib.hid (HI.out.cl HCL.out H64.out.2 a1 (by have := HB.out; omega))
            have HRC := Lib.hid (fun w (hb : Below w5.heap.size w5 w) => rclaim_any ((lp_lng HL5.out).keep hb) HGB.out HCL.out HTS.out HCC.out HR1.out (vg := .slice pg gv.length cg) (vs := .slice ps ss.length cs) rfl rfl HI.out.least)
            have HFB : Hid (f = 1 ∨ (f = 0 ∧ sb = false) ∨ (f = 10 ∧ sb = true)) := Lib.hid (by
              rcases HCL.out with ⟨hn, rfl, rfl, rfl, rfl⟩ | ⟨n1, n2, hok, rfl, rfl, rfl, rfl⟩ | ⟨n1, n2, hok, rfl, rfl, rfl, rfl⟩
              · exact .inl rfl
              · have := (ok_iff HI.out.seen n1).1 hok
                exact .inr (.inl ⟨rfl, by rw [← HSB2.out]; exact decide_eq_false (by omega)⟩)
              · have : ¬ z1 ≤ remP (two s.k) c' gv := fun e => hok ((ok_iff HI.out.seen n1).2 e)
                exact .inr (.inr ⟨rfl, by rw [← HSB2.out]; exact decide_eq_true (by omega)⟩))
            rcases HFB.out with rfl | ⟨rfl, rfl⟩ | ⟨rfl, rfl⟩
            all_goals
              go_wp2_with (first
                | (refine wpList_load_row rfl 89 (.tmp 11) rfl mb rfl 89 (s10 (two s.k) c (.slice pg gv.length cg) sn (.slice ps ss.length cs)) (0, 0) _ (lp_box HL5.out) Try.underlying89 rfl HI1.out ?_)
                | (go_at_call 58; refine (HRC.out _ (Below.refl _ w5)).mono ?_; rintro e w6 ⟨rfl, hb⟩; have HL6 := Lib.hid (HL5.out.keep hb); have HE6 := Lib.hid ((HE5.out.keep hb).row (cs' := s10 (two s.k) c' (.slice pg gv.length cg) sn' (.slice ps ss.length cs)) (lp_box HL6.out) (by decide)); have HL7 := Lib.hid (lp_row HL6.out (s10 (two s.k) c' (.slice pg gv.length cg) sn' (.slice ps ss.length cs))); clear hb)
                | (refine wpList_store_row rfl 89 (.tmp 11) (.tmp 81) rfl mb (s10 (two s.k) c' (.slice pg gv.length cg) sn' (.slice ps ss.length cs)) rfl rfl 89 _ (lp_box HL6.out) HI2.out rfl HE2.out ?_)
                | (go_at_call 17; refine (is_at HE6.out _).mono ?_; rintro e w7 ⟨rfl, rfl⟩))
              go_meet
              exact Lib.hid ⟨c', sn', sh, gv, ss, sw', st', _, _, HL7.out.le (RP.mono Rest.boxLe), HM.out⟩
        by_cases e1 : z0 = 1
        · subst e1
          as_aux_lemma =>
            have o2 : w3.cell? ⟨ob, 2, none⟩ = some (.int .i64 z2) := (obj_cell (lp_ob HL3.out) 2).trans rfl
            have o3 : w3.cell? ⟨ob, 3, none⟩ = some (.int .i64 z3) := (obj_cell (lp_ob HL3.out) 3).trans rfl
            have HTS : Hid (1 ≤ two s.k ∧ two s.k ≤ 1048576) := Lib.hid (by have := H64.out; omega)
            have HCC : Hid (-1 ≤ c ∧ c ≤ 4611686018427387904) := Lib.hid (by have := HB.out; omega)
            have HI1 := Lib.hid (s10_info (two s.k) c (.slice pg gv.length cg) sn (.slice ps ss.length cs))
            by_cases hbad : badP (two s.k) c z2 z3
            · have HBAD := Lib.hid hbad
              have HE2 := Lib.hid (s10_one (N := two s.k) (c := c) (sn := sn) (gv := .slice pg gv.length cg) (sv := .slice ps ss.length cs) rfl rfl)
              have HM : Hid (MpI s.k c sn sh gv ss st (1000 * t + 500) (t + 1)) := Lib.hid (HI.out.mono (by omega) (by omega))
              clear hbad
              go_upto_region 24 with (go_at_call 59; refine (lpub_bad HL3.out z2 z3 HR2.out HR3.out HB.out.2.2.1 (by have := HB.out; omega) (by have := HBAD.out; unfold badP at this; omega)).mono ?_; rintro e w4 ⟨E, rfl, hr⟩; have HE := Lib.hid (ErrAt.of hr (by decide)); have HL4 := Lib.hid (HL3.out.keep hr.below); clear hr o2 o3)
              have o2 : w4.cell? ⟨ob, 2, none⟩ = some (.int .i64 z2) := (obj_cell (lp_ob HL4.out) 2).trans rfl
              have o3 : w4.cell? ⟨ob, 3, none⟩ = some (.int .i64 z3) := (obj_cell (lp_ob HL4.out) 3).trans rfl
              clear HL3
              go_wp2_with (first
                | (refine wpList_load_row rfl 89 (.tmp 11) rfl mb rfl 89 (s10 (two s.k) c (.slice pg gv.length cg) sn (.slice ps ss.length cs)) (0, 0) _ (lp_box HL4.out) Try.underlying89 rfl HI1.out ?_)
                | (go_at_call 60; refine (rpub10_bad (.slice ps ss.length cs) (two s.k) c sn z2 z3 pg gv.length cg HTS.out HCC.out rfl HBAD.out).mono ?_; rintro e w6 ⟨rfl, hb⟩; have HL6 := Lib.hid (HL4.out.keep hb); have HE6 := Lib.hid ((HE.out.keep hb).row (cs' := s10 (two s.k) c (.slice pg gv.length cg) sn (.slice ps ss.length cs)) (lp_box HL6.out) (by decide)); have HL7 := Lib.hid (lp_row HL6.out (s10 (two s.k) c (.slice pg gv.length cg) sn (.slice ps ss.length cs))); clear hb)
                | (refine wpList_store_row rfl 89 (.tmp 11) (.tmp 122) rfl mb (s10 (two s.k) c (.slice pg gv.length cg) sn (.slice ps ss.length cs)) rfl rfl 89 _ (lp_box HL6.out) HI1.out rfl HE2.out ?_)
                | (go_at_call 17; refine (is_at HE6.out _).mono ?_; rintro e w7 ⟨rfl, rfl⟩))
              go_meet
              exact Lib.hid ⟨c, sn, sh, gv, ss, sw, st, _, _, HL7.out.le (RP.mono Rest.boxLe), HM.out⟩
            · have hg : 0 ≤ z2 ∧ z2 ≤ z3 ∧ z3 ≤ c ∧ z3 - z2 < two s.k := by unfold badP at hbad; omega
              obtain ⟨m, hm⟩ : ∃ m : Nat, z3 - z2 + 1 = m := ⟨(z3 - z2 + 1).toNat, by omega⟩
              have hmk : m ≤ 64 := by have := H64.out; omega
              have HM : Hid (MpI s.k c sn (showN sh 0 s.k z2 m) gv (ss ++ spanS z2 m) (st + m) (1000 * t + 500) (t + 1)) := Lib.hid (by
                obtain ⟨i1, i2, i3, i4, i5, i6, i7, i8, i9, i10, i11⟩ := HI.out
                have hb := HB.out
                refine ⟨i1, i2, i3, i4.span z2 m, ?_, by simp [spanS_len]; omega, i7, by omega, by omega, by omega, i11⟩
                intro x hx
                rcases List.mem_append.1 hx with hx | hx
                · exact i5 x hx
                · exact spanS_in z2 m hg.1 (by omega) x hx)
              have HG := Lib.hid hg
              have HMM := Lib.hid hm
              have HSL : Hid (ss.length ≤ 1000000) := Lib.hid (by have := HB.out; omega)
              clear hbad hg hm
              go_upto_region 24 with (go_at_call 59; refine (lpub HL3.out z2 z3 HG.out.1 HG.out.2.1 HG.out.2.2.2 HG.out.2.2.1 HCC.out.2 m HMM.out HB.out.2.2.1 (by have := HB.out; omega)).mono ?_; rintro e w4 ⟨rfl, hl⟩; have HL4 := Lib.hid hl; clear hl o2 o3)
              have o2 : w4.cell? ⟨ob, 2, none⟩ = some (.int .i64 z2) := (obj_cell (lp_ob HL4.out) 2).trans rfl
              have o3 : w4.cell? ⟨ob, 3, none⟩ = some (.int .i64 z3) := (obj_cell (lp_ob HL4.out) 3).trans rfl
              clear HL3
              go_upto_region 24 with fail
              go_upto_region 25 with (first
                | (refine wpList_load_row rfl 89 (.tmp 11) rfl mb rfl 89 (s10 (two s.k) c (.slice pg gv.length cg) sn (.slice ps ss.length cs)) (0, 0) _ (lp_box HL4.out) Try.underlying89 rfl HI1.out ?_)
                | (go_at_call 60; refine (rpub10_ok (lp_lns HL4.out) HSL.out (two s.k) c sn z2 z3 pg gv.length cg HTS.out HCC.out HG.out.1 HG.out.2.1 HG.out.2.2.1 HG.out.2.2.2 m HMM.out).mono ?_; rintro e w6 ⟨v6, rfl, hb, ho⟩; obtain ⟨p6, c6, rfl, _⟩ := row_form ho; have HL6 := Lib.hid (lp_snew HL4.out (ss' := ss ++ spanS z2 m) hb (by simpa [spanS_len] using ho)); have HI6 := Lib.hid (s10_info (two s.k) c (.slice pg gv.length cg) sn (.slice p6 (ss.length + m) c6)); have HE6 := Lib.hid (s10_one (N := two s.k) (c := c) (sn := sn) (gv := .slice pg gv.length cg) (sv := .slice p6 (ss.length + m) c6) rfl rfl); have HL7 := Lib.hid (lp_row HL6.out (s10 (two s.k) c (.slice pg gv.length cg) sn (.slice p6 (ss.length + m) c6))); clear hb ho)
                | (refine wpList_store_row rfl 89 (.tmp 11) (.tmp 122) rfl mb (s10 (two s.k) c (.slice pg gv.length cg) sn (.slice p6 (ss.length + m) c6)) rfl rfl 89 _ (lp_box HL6.out) HI6.out rfl HE6.out ?_))
              go_wp2_with (go_at_call 17; refine (isN_nil 0).mono ?_; rintro e w7 ⟨rfl, rfl⟩)
              go_meet
              exact Lib.hid ⟨c, sn, _, gv, _, sw, st + m, _, _, by rw [showN_len]; exact HL7.out.le (RP.mono Rest.boxLe), HM.out⟩
        by_cases e2 : z0 = 2
        · subst e2
          as_aux_lemma =>
            have o1 : w3.cell? ⟨ob, 1, none⟩ = some (.int .i64 z1) := (obj_cell (lp_ob HL3.out) 1).trans rfl
            have HX : Hid (MPs R0 W w3 s mb (1000 * (t + 1 : Nat)) (t + 1) (.slice pi gv.length ci)) := Lib.hid ⟨c, sn, sh, gv, ss, sw, st, _, _, HL3.out.le (RP.mono Rest.boxLe), HI.out.mono (by omega) (by omega)⟩
            by_cases h0 : gv.length = 0
            · have eg : ((gv.length : Int) == 0) = true := by simp [h0]
              as_aux_lemma =>
                go_wp2_with fail
                exact ⟨⟨t + 1, by omega, by go_num, HX⟩, by simp [intOf]; omega⟩
            · have eg : ((gv.length : Int) == 0) = false := by simp [h0]
              by_cases h1 : z1 < 0
              · have ez : decide (z1 < 0) = true := decide_eq_true h1
                as_aux_lemma =>
                  go_wp2_with fail
                  exact ⟨⟨t + 1, by omega, by go_num, HX⟩, by simp [intOf]; omega⟩
              · have ez : decide (z1 < 0) = false := decide_eq_false h1
                obtain ⟨i, hi⟩ : ∃ i : Nat, z1.tmod (gv.length : Int) = (i : Int) := ⟨(z1.tmod (gv.length : Int)).toNat, by have := Int.tmod_nonneg (gv.length : Int) (show 0 ≤ z1 by omega); omega⟩
                have hil : i < gv.length := by have := Int.tmod_lt_of_pos z1 (show (0 : Int) < (gv.length : Int) by omega); omega
                obtain ⟨r, hr⟩ : ∃ r : Int, z1.tmod 7 = r := ⟨_, rfl⟩
                have hr0 : 0 ≤ r ∧ r < 7 := ⟨hr ▸ Int.tmod_nonneg 7 (show 0 ≤ z1 by omega), hr ▸ Int.tmod_lt_of_pos z1 (by decide)⟩
                obtain ⟨ri, cap1, hs1, -⟩ := row_some (lp_i HL3.out) (by rw [idsN_len]; omega)
                simp only [Value.slice.injEq] at hs1
                obtain ⟨rfl, -, rfl⟩ := hs1
                obtain ⟨rg, cap2, hs2, -⟩ := row_some (lp_g HL3.out) (by omega)
                simp only [Value.slice.injEq, true_and] at hs2
                obtain ⟨rfl, rfl⟩ := hs2
                obtain ⟨gi, hgi⟩ : ∃ gi : Int, gv[i]? = some gi := ⟨_, List.getElem?_eq_getElem hil⟩
                have HGI := Lib.hid hgi
                have hgm : gi ∈ gv := List.mem_of_getElem? hgi
                have HGB : Hid (-1 ≤ gi ∧ gi ≤ c ∧ sn ≤ gi ∧ sn ≤ c) := Lib.hid ⟨HI.out.g1 _ hgm, HI.out.g2 _ hgm, (le_least.1 HI.out.seen).2 _ hgm, (le_least.1 HI.out.seen).1⟩
                have HIL := Lib.hid hil
                have HRR := Lib.hid hr0
                have kg : w3.cell? ⟨rg, i, none⟩ = some (.int .i64 gi) := by
                  rw [(lp_g HL3.out).cellAt i (by omega), List.getElem?_map, hgi]
                  rfl
                have fg := (lp_g HL3.out).frozenAt i
                have k1 := (lp_box HL3.out).k.k1
                have k3 := (lp_box HL3.out).k.k3
                have b0 : (0 : Int) ≤ (i : Int) := by omega
                have b1 : (i : Int) < (gv.length : Int) := by omega
                have ws : -9223372036854775808 ≤ gi + r ∧ gi + r ≤ 9223372036854775807 := by have := HGB.out; have := HB.out; omega
                have HWS := Lib.hid ws
                have bl : (gv.length : Int) ≤ 20 := by have := HB.out; omega
                clear hgi hgm hil hr0 HX ws h0 h1
                go_upto_region 30 with fail
                go_region
                rw [IntWalk.wrap64_in _ HWS.out]
                obtain ⟨x, hx⟩ : ∃ x : Int, x = min c (gi + r) := ⟨_, rfl⟩
                rw [← hx]
                have HXB : Hid (-1 ≤ x ∧ x ≤ c ∧ sn ≤ x) := Lib.hid (by have := HGB.out; have := HRR.out; omega)
                have HL4 := Lib.hid ((lp_gput HL3.out i x).keep (Below.drew (Below.refl _ _)))
                obtain ⟨idv, hidv⟩ : ∃ idv : Int, idv = ((sh.length + 2 + i : Nat) : Int) := ⟨_, rfl⟩
                have HIV := Lib.hid hidv
                clear hx hidv kg fg k1 k3 o1 HL3 hr bl
                generalize World.drew _ = w4 at *
                have HIG : Hid ((idsN sh.length gv.length)[i]? = some idv) := Lib.hid (by rw [HIV.out]; exact idsN_get _ _ HIL.out)
                have HGG : Hid ((gv.set i x)[i]? = some x) := Lib.hid (List.getElem?_set_self HIL.out)
                have ki : w4.cell? ⟨ri, i, none⟩ = some (.int .i64 idv) := lp_iat HL4.out (idsN_len _ _) HIG.out
                have kg : w4.cell? ⟨rg, i, none⟩ = some (.int .i64 x) := lp_gat HL4.out (List.length_set ..) HGG.out
                have k3 := (lp_box HL4.out).k.k3
                have HST : Hid (∀ w, Below w4.heap.size w4 w → Calls Try.prog 31 #[.pointer (some ⟨W.heap.size, 0, none⟩), .int .i64 idv, .int .i64 x] w fun e w' => e = .returned .nilIface ∧ Lv (RP (R0.box W.heap.size ob #[.int .i64 2, .int .i64 z1, .int .i64 z2, .int .i64 z3] 92) W.heap.size mb (s10 (two s.k) c (.slice (some ⟨rg, 0, none⟩) gv.length cg) sn (.slice ps ss.length cs)) (.slice (some ⟨ri, 0, none⟩) gv.length ci) (idsN sh.length gv.length) (.slice (some ⟨rg, 0, none⟩) gv.length cg) (gv.set i x) (.slice ps ss.length cs) ss) W w' s c sn sh (gv.set i x) sw (st + 1)) := Lib.hid fun w hb => by
                  have := lheld (HL4.out.keep hb) i HIL.out x HB.out.2.2.1 (by have := HB.out; omega)
                  rw [HSB.out] at this
                  rw [HIV.out]
                  exact this
                go_wp2_with fail
                go_region_held3 (fun w' => w'.cell? ⟨ri, i, none⟩ = some (.int .i64 idv) ∧ w'.cell? ⟨mb, 3, none⟩ = some (.slice (some ⟨rg, 0, none⟩) gv.length cg) ∧ w'.cell? ⟨rg, i, none⟩ = some (.int .i64 x)) (first
                  | exact ⟨by assumption, by assumption, by assumption⟩
                  | exact ⟨by go_simp, by go_simp, by go_simp⟩) (first
                  | (go_at_call 31; refine (HST.out _ (Below.drew (Below.refl _ _))).mono ?_; rintro e w5 ⟨rfl, hl5⟩; have HL5 := Lib.hid hl5; have j3 := (lp_box hl5).k.k3; have ji : w5.cell? ⟨ri, i, none⟩ = some (.int .i64 idv) := lp_iat hl5 (idsN_len _ _) HIG.out; have jg : w5.cell? ⟨rg, i, none⟩ = some (.int .i64 x) := lp_gat hl5 (List.length_set ..) HGG.out; clear hl5))
                go_wp2_with fail
                go_meet
                refine Lib.hid ⟨c, sn, sh, gv.set i x, ss, sw, st + 1, _, _, by rw [List.length_set]; exact HL5.out.le (RP.mono Rest.boxLe), ?_⟩
                obtain ⟨i1, i2, i3, i4, i5, i6, i7, i8, i9, i10, i11⟩ := HI.out
                have hxb := HXB.out
                refine ⟨i1.raise hxb.2.2, fun y hy => ?_, by rw [List.length_set]; exact i3, i4, i5, by omega, i7, by omega, by omega, by omega, fun y hy => ?_⟩
                · rcases List.mem_or_eq_of_mem_set hy with hy | rfl
                  · exact i2 y hy
                  · exact hxb.1
                · rcases List.mem_or_eq_of_mem_set hy with hy | rfl
                  · exact i11 y hy
                  · exact hxb.2.1
        by_cases e3 : z0 = 3
        · subst e3
          have HX : Hid (MPs R0 W w3 s mb (1000 * (t + 1 : Nat)) (t + 1) (.slice pi gv.length ci)) := Lib.hid ⟨c, sn, sh, gv, ss, sw, st, _, _, HL3.out.le (RP.mono Rest.boxLe), HI.out.mono (by omega) (by omega)⟩
          by_cases h0 : 20 ≤ gv.length
          · have eg : decide ((20 : Int) ≤ (gv.length : Int)) = true := decide_eq_true (by omega)
            as_aux_lemma =>
              go_wp2_with fail
              exact ⟨⟨t + 1, by omega, by go_num, HX⟩, by simp [intOf]; omega⟩
          · have eg : decide ((20 : Int) ≤ (gv.length : Int)) = false := decide_eq_false (by omega)
            have HGL : Hid (gv.length < 20) := Lib.hid (by omega)
            clear h0 HX
            as_aux_lemma =>
              obtain ⟨idv, hidv⟩ : ∃ idv : Int, idv = ((sh.length + 2 + gv.length : Nat) : Int) := ⟨_, rfl⟩
              have HIV := Lib.hid hidv
              have k1 := (lp_box HL3.out).k.k1
              have HAL : Hid (Calls Try.prog 32 #[.pointer (some ⟨W.heap.size, 0, none⟩), .int .i64 c] w3 fun e w' => e = .returned (.tuple #[.int .i64 idv, .nilIface]) ∧ Lh (RP (R0.box W.heap.size ob #[.int .i64 3, .int .i64 z1, .int .i64 z2, .int .i64 z3] 92) W.heap.size mb (s10 (two s.k) c (.slice pg gv.length cg) sn (.slice ps ss.length cs)) (.slice pi gv.length ci) (idsN sh.length gv.length) (.slice pg gv.length cg) gv (.slice ps ss.length cs) ss) W w' s c sn sh gv c sw st) := Lib.hid (by
                have := lalloc HL3.out c
                rw [HSB.out] at this
                rw [HIV.out]
                exact this)
              have HAD : Hid (∀ w, Lh (RP (R0.box W.heap.size ob #[.int .i64 3, .int .i64 z1, .int .i64 z2, .int .i64 z3] 92) W.heap.size mb (s10 (two s.k) c (.slice pg gv.length cg) sn (.slice ps ss.length cs)) (.slice pi gv.length ci) (idsN sh.length gv.length) (.slice pg gv.length cg) gv (.slice ps ss.length cs) ss) W w s c sn sh gv c sw st → Calls Try.prog 43 #[.pointer (some ⟨s.p, 5, none⟩), .int .i64 idv] w fun e w' => e = .returned .nilIface ∧ St (R0.box W.heap.size ob #[.int .i64 3, .int .i64 z1, .int .i64 z2, .int .i64 z3] 92) W w' s mb (s10 (two s.k) c (.slice pg gv.length cg) sn (.slice ps ss.length cs)) c sn sh (gv ++ [c]) sw st (.slice pi gv.length ci) gv.length (idsN sh.length gv.length) (.slice pg gv.length cg) gv.length gv (.slice ps ss.length cs) ss) := Lib.hid fun w h => by
                rw [HIV.out]
                exact (ladd h (by have := HGL.out; omega)).mono fun e w' ⟨he, hl⟩ => ⟨he, hl, idsN_len _ _, rfl⟩
              clear hidv HL3
              go_upto_region 38 with (first
                | (go_at_call 32; refine HAL.out.mono ?_; rintro e w4 ⟨rfl, hl⟩; have HL4 := Lib.hid hl; clear hl k1)
                | (go_at_call 61; refine (mgate_some _ _).mono ?_; rintro e w5 ⟨rfl, rfl⟩)
                | (go_at_call 43; refine (HAD.out _ HL4.out).mono ?_; rintro e w5 ⟨rfl, hl⟩; have HL5 := Lib.hid hl; clear hl HL4))
              have HS := Lib.hid (HL5.out.keep (Below.drew (Below.refl _ w5)))
              have k1 := (lp_box HL5.out.1).k.k1
              have k3 := (lp_box HL5.out.1).k.k3
              have nn : ∀ o, (w5.alloc o).cell? ⟨mb, 3, none⟩ = _ := fun o => keepc (balloc (Below.refl _ _) o) k3
              have nn1 : ∀ o o', ((w5.alloc o).alloc o').cell? ⟨mb, 3, none⟩ = _ := fun o o' => keepc (balloc (balloc (Below.refl _ _) o) o') k3
              have kd1 : w5.drew.cell? ⟨mb, 1, none⟩ = some (.int .i64 c) := k1
              have kd3 : w5.drew.cell? ⟨mb, 3, none⟩ = some (.slice pg gv.length cg) := k3
              obtain ⟨i0, ji, jz0, jz1, jz2⟩ := info_parts infoI64
              obtain ⟨n0, ki, kz0, kz1, kz2⟩ := info_parts infoN
              have hb20 : gv.length ≤ 20 := by have := HGL.out; omega
              have HM : Hid (MpI s.k c sn sh (gv ++ [c]) ss st (1000 * t + 500) (t + 1)) := Lib.hid (by
                obtain ⟨i1, i2, i3, i4, i5, i6, i7, i8, i9, i10, i11⟩ := HI.out
                have hgl := HGL.out
                refine ⟨i1.more, fun y hy => ?_, by simp; omega, i4, i5, by omega, i7, by omega, by omega, by omega, fun y hy => ?_⟩
                · rcases List.mem_append.1 hy with hy | hy
                  · exact i2 y hy
                  · simp at hy
                    omega
                · rcases List.mem_append.1 hy with hy | hy
                  · exact i11 y hy
                  · simp at hy
                    omega)
              have HLEN : Hid (idsN sh.length (gv ++ [c]).length = idsN sh.length gv.length ++ [idv]) := Lib.hid (by
                rw [HIV.out, List.length_append, List.length_singleton]
                exact idsN_succ _ _)
              rw [show (Op.load 38 (.tmp 202) : Op) = ldG from rfl]
              go_region_held3 (fun w' => w'.cell? ⟨mb, 1, none⟩ = some (.int .i64 c)) (first | assumption | exact kd1 | exact keepc (balloc (Below.refl _ _) _) kd1 | exact keepc (balloc (balloc (Below.refl _ _) _) _) kd1 | exact keepc (balloc (Below.refl _ _) _) j1 | go_simp) (first
                | (refine step_append_row (by rfl) (.tmp 197) (.tmp 199) 68 (by rfl) 3 n0 (.int .i64 0) 1 8 Try.underlying68 ki kz0 kz1 kz2 (by rfl) (by decide) (.slice pi gv.length ci) gv.length _ (by rfl) (HS.out.keep (by first | exact balloc (Below.refl _ _) _ | exact balloc (balloc (Below.refl _ _) _) _ | exact Below.refl _ _)).rowI ⟨_, 0, none⟩ 1 1 [.int .i64 idv] (by rfl) (by rfl) (news1 (by first | exact newcell (by simp) | exact newcell2 (by simp) | exact hp _ _ (by simp) (newcell (by simp)) | exact hp _ _ (by simp) (newcell2 (by simp)))) (fun x hx => by simp at hx; subst hx; rfl) (by unfold maxLen; omega) (by omega) ?_; intro v' w6 hown hf hv; have hp : ∀ g u, w5.heap.size ≤ g → World.cell? _ ⟨g, 0, none⟩ = some u → w6.cell? ⟨g, 0, none⟩ = some u := (fun g u hg h => hf.cell h fun e => by have := (HL5.out.rowI.lt g e).2; omega); replace HS := Lib.hid ((HS.out.keep (by first | exact balloc (Below.refl _ _) _ | exact balloc (balloc (Below.refl _ _) _) _ | exact Below.refl _ _)).appI idv hown hf hv); obtain ⟨pI, cI, rfl, -⟩ := row_form hown; have j1 := (lp_box HS.out.1).k.k1; have j3 := (lp_box HS.out.1).k.k3; have fr := obj_free (lp_box HS.out.1) 3; have n6 : ∀ o, (w6.alloc o).cell? ⟨mb, 3, none⟩ = _ := (fun o => keepc (balloc (Below.refl _ _) o) j3); clear hown hf hv)
                | (refine step_append_row (by rfl) (.tmp 203) (.tmp 207) 38 (by rfl) 2 i0 (.int .i64 0) 1 8 Try.underlying38 ji jz0 jz1 jz2 (by rfl) (by decide) (.slice pg gv.length cg) gv.length _ (by rfl) (HS.out.keep (by first | exact balloc (Below.refl _ _) _ | exact balloc (balloc (Below.refl _ _) _) _ | exact Below.refl _ _)).rowG ⟨_, 0, none⟩ 1 1 [.int .i64 c] (by rfl) (by rfl) (news1 (by first | exact newcell (by simp) | exact newcell2 (by simp) | exact hp _ _ (by simp) (newcell (by simp)) | exact hp _ _ (by simp) (newcell2 (by simp)))) (fun x hx => by simp at hx; subst hx; rfl) (by unfold maxLen; omega) (by omega) ?_; intro v' w6 hown hf hv; have hp : ∀ g u, w5.heap.size ≤ g → World.cell? _ ⟨g, 0, none⟩ = some u → w6.cell? ⟨g, 0, none⟩ = some u := (fun g u hg h => hf.cell h fun e => by have := (HL5.out.rowG.lt g e).2; omega); replace HS := Lib.hid ((HS.out.keep (by first | exact balloc (Below.refl _ _) _ | exact balloc (balloc (Below.refl _ _) _) _ | exact Below.refl _ _)).appG c hown hf hv); obtain ⟨pG, cG, rfl, -⟩ := row_form hown; have j1 := (lp_box HS.out.1).k.k1; have j3 := (lp_box HS.out.1).k.k3; have fr := obj_free (lp_box HS.out.1) 3; have n6 : ∀ o, (w6.alloc o).cell? ⟨mb, 3, none⟩ = _ := (fun o => keepc (balloc (Below.refl _ _) o) j3); clear hown hf hv))
              all_goals
                have HF := Lib.hid (lp_set HS.out.1 3 (.slice pG (gv.length + 1) cG))
                rw [show (s10 (two s.k) c (.slice pg gv.length cg) sn (.slice ps ss.length cs)).setIfInBounds 3 (.slice pG (gv.length + 1) cG) = s10 (two s.k) c (.slice pG (gv.length + 1) cG) sn (.slice ps ss.length cs) from rfl] at HF
                rw [← HLEN.out] at HF
                generalize World.setCell _ _ _ = w9 at *
                clear HS
                go_wp2_with fail
                go_meet
                exact Lib.hid ⟨c, sn, sh, gv ++ [c], ss, sw, st, .slice pG (gv.length + 1) cG, .slice ps ss.length cs, HF.out.le (RP.mono Rest.boxLe), HM.out⟩
        have f0 : (z0 == 0) = false := by simpa using e0
        have f1 : (z0 == 1) = false := by simpa using e1
        have f2 : (z0 == 2) = false := by simpa using e2
        have f3 : (z0 == 3) = false := by simpa using e3
        go_wp2_with fail
        go_meet
        exact Lib.hid ⟨c, sn, sh, gv, ss, sw, st, _, _, HL3.out.le (RP.mono Rest.boxLe), HI.out.mono (by omega) (by omega)⟩
      case rest =>
        clear HL3 HI HB HR1 HR2 HR3
        obtain ⟨c, sn, sh, gv, ss, sw, st, vg, vs, hl, hI⟩ := hcut.out
        have HL := Lib.hid hl
        have HI := Lib.hid hI
        obtain ⟨pg, cg, rfl, _⟩ := row_form (lp_g hl)
        obtain ⟨ps, cs, rfl, _⟩ := row_form (lp_s hl)
        have HB : Hid (-1 ≤ c ∧ c ≤ 5120 ∧ 0 ≤ st ∧ st ≤ 90000 ∧ gv.length ≤ 20 ∧ ss.length ≤ 5120 ∧ st ≤ 1000 * t + 500) := Lib.hid ⟨HI.out.c0, by have := HI.out.c2; omega, HI.out.st0, by have := HI.out.st1; omega, HI.out.gl, by have := HI.out.sl; omega, HI.out.st1⟩
        clear hl hI hcut
        go_upto_region 40 with (go_at_call 62; refine (lremaining HL.out (by have := HB.out; omega) HB.out.2.2.1 (by have := HB.out; omega)).mono ?_; rintro e w4 ⟨rfl, st4, a1, a2, hl⟩; have HL4 := Lib.hid hl; clear hl)
        have HRM : Hid (∀ w, Below w4.heap.size w4 w → Calls Try.prog 57 #[.agg #[.int .i64 (two s.k), .int .i64 c, .int .i64 c, .slice pg gv.length cg, .int .i64 sn, .int .i64 0]] w fun e w' => e = .returned (.int .i64 (remP (two s.k) c gv)) ∧ Below w.heap.size w w') := Lib.hid fun w hb => rremaining9 ((lp_lng HL4.out).keep hb) (by have := HB.out; omega) _ c sn 0 (by have := H64.out; omega) (by have := HB.out; omega) HI.out.least
        obtain ⟨k0, k1, k2, k3, k4, k5⟩ := (lp_box HL4.out).k
        generalize remP (two s.k) c gv = rem at *
        clear HL
        go_region_held3 (fun w' => w'.cell? ⟨mb, 0, none⟩ = some (.int .i64 (two s.k)) ∧ w'.cell? ⟨mb, 1, none⟩ = some (.int .i64 c) ∧ w'.cell? ⟨mb, 2, none⟩ = some (.int .i64 c) ∧ w'.cell? ⟨mb, 3, none⟩ = some (.slice pg gv.length cg) ∧ w'.cell? ⟨mb, 4, none⟩ = some (.int .i64 sn) ∧ w'.cell? ⟨mb, 5, none⟩ = some (.int .i64 0)) (first
          | exact ⟨by assumption, by assumption, by assumption, by assumption, by assumption, by assumption⟩
          | exact ⟨by go_simp, by go_simp, by go_simp, by go_simp, by go_simp, by go_simp⟩) (first
          | (go_at_call 57; refine (HRM.out _ (Below.drew (Below.refl _ _))).mono ?_; rintro e w5 ⟨rfl, hb⟩; have HL5 := Lib.hid (HL4.out.keep (bthen (Below.drew (Below.refl _ w4)) hb)); obtain ⟨j0, j1, j2, j3, j4, j5⟩ := (lp_box HL5.out).k; clear hb)
          | (go_at_call 63; refine (lclaimed HL5.out (by have := HB.out; omega) (by have := HB.out; omega)).mono ?_; rintro e w6 ⟨rfl, hl6⟩; have HL6 := Lib.hid hl6; obtain ⟨i0, i1, i2, i3, i4, i5⟩ := (lp_box HL6.out).k; clear hl6))
        go_wp2_with fail
        exact ⟨⟨t + 1, by omega, by go_num, Lib.hid ⟨c, sn, sh, gv, ss, sw, st4 + 1, _, _, HL6.out, ⟨HI.out.seen, HI.out.g1, HI.out.gl, HI.out.apr, HI.out.sb, HI.out.sl, HI.out.c0, HI.out.c2, by have := HB.out; omega, by have := HB.out; omega, HI.out.g2⟩⟩⟩, by simp [intOf]; omega⟩
    · obtain rfl : t = n := by omega
      clear hlt
      have HB : Hid (-1 ≤ c ∧ c ≤ 5120 ∧ 0 ≤ st ∧ st ≤ 80000) := Lib.hid ⟨HI.out.c0, by have := HI.out.c2; omega, HI.out.st0, by have := HI.out.st1; omega⟩
      clear HC HP
      by_cases h0 : lo < 0
      · have dl : decide (lo < 0) = true := decide_eq_true h0
        as_aux_lemma =>
          go_wp2_with (first
            | (go_at_call 64; refine (mhigh_bad HL.out.ms lo h0).mono ?_; rintro e w4 ⟨E, rfl, hr⟩; have HR := Lib.hid hr; clear hr)
            | (go_at_call 53; refine (awake10 _).mono ?_; rintro e w5 ⟨rfl, hb⟩; have HB5 := Lib.hid hb; clear hb)
            | (go_at_call 17; refine (is_at ((ErrAt.of HR.out (by decide)).keep HB5.out) 5).mono ?_; rintro e w7 ⟨rfl, rfl⟩))
          go_ret
          exact ⟨rfl, bthen HL.out.below (bthen HR.out.below HB5.out)⟩
      · have dl : decide (lo < 0) = false := decide_eq_false h0
        have HTS : Hid (1 ≤ two s.k ∧ two s.k ≤ 1048576) := Lib.hid (by have := H64.out; omega)
        have HLO : Hid (0 ≤ lo ∧ lo ≤ 4611686018427387904) := Lib.hid (by omega)
        have HAPR := Lib.hid HI.out.apr
        have HSB2 := Lib.hid HI.out.sb
        as_aux_lemma =>
          go_upto_region 46 with (go_at_call 64; refine (lhigh HL.out lo HLO.out.1 HLO.out.2 (by have := HB.out; omega) HB.out.2.2.1 (by have := HB.out; omega)).mono ?_; rintro e w4 ⟨j, hr, rfl, st4, a1, a2, hl4⟩; have HR := Lib.hid hr; have HL4 := Lib.hid hl4; clear hr hl4)
          have HJ : Hid (∀ j', RunTo (isL ss (two s.k)) lo c j' → j = j') := Lib.hid fun j' h' => HR.out.unique h' fun x hx _ => shown_eq HAPR.out x (by have := HLO.out; omega)
          go_wp2_with (first
            | (go_at_call 53; refine (awake10 _).mono ?_; rintro e w5 ⟨rfl, hb⟩; have HL5 := Lib.hid (HL4.out.keep hb); obtain ⟨k0, k1, k2, k3, k4, k5⟩ := (lp_box HL5.out).k; have k6 : w5.cell? ⟨mb, 6, none⟩ = some (.slice ps ss.length cs) := (obj_cell (lp_box HL5.out) 6).trans rfl; clear hb)
            | (go_at_call 65; refine (refHi_any _ _ ss (lp_srow HL5.out HSB2.out) (two s.k) lo c HTS.out.1 HTS.out.2 HLO.out.1 HLO.out.2 (by have := HB.out; omega) (by have := HB.out; omega)).mono ?_; rintro e w6 ⟨j', hj, rfl, hb⟩; obtain rfl := HJ.out j' hj; have HL6 := Lib.hid (HL5.out.keep hb); clear hb hj))
          go_ret
          exact ⟨rfl, HL6.out.below⟩
end Go.Proofs.Ytflcngkckcaaaaa
