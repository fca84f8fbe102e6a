/-
  GraphPlays, walked: the loop over things done. Conditions: as the statement has them.
-/
import Derived.Test.YtggjimeligbmcabGr35
import Derived.Deep.DeepCutAuto
import Derived.Deep.CutBlock
namespace Go.Proofs.Ytggjimeligbmcab
open Go.RowKit
set_option linter.unusedVariables false

theorem rchL_all {G : List Nd} (hG : GOk G) (n : Nat) : rchL G n G.length = rchL G n 64 := by
  have h : ∀ d, rchL G n (G.length + d) = rchL G n G.length := by
    intro d
    induction d with
    | zero => rfl
    | succ d ih =>
      have hb : rchB G n (G.length + d) = false := by
        rw [Bool.eq_false_iff]
        intro e
        have := has_lt (hG.rch_has (rchB_iff.1 e))
        omega
      rw [← ih]
      unfold rchL
      rw [show G.length + (d + 1) = (G.length + d) + 1 from rfl, range_filter, hb]
      simp
  have := h (64 - G.length)
  rw [← this, show G.length + (64 - G.length) = 64 by have := hG.len; omega]
theorem behI_all {G : List Nd} (hG : GOk G) (x : Nat) : behI G (x : Int) = behL G (x : Int) G.length := by
  unfold behI
  by_cases h : hasI G (x : Int) = true
  · rw [if_pos h]
  · rw [if_neg h]
    symm
    unfold behL
    rw [List.filter_eq_nil_iff]
    intro i _ hi
    rw [inI_nat, decide_eq_true_eq] at hi
    exact h (by rw [hasI_nat]; exact hG.inn _ _ hi)
theorem IntsN.atI {w : World} {v : Value} {l : List Nat} (h : IntsN w v l) : IntsAt w v (l.map fun (n : Nat) => (n : Int)) := by
  obtain ⟨p, c, rfl, hc⟩ := h
  refine ⟨p, c, by rw [List.length_map], hc.imp (fun e => by rw [List.length_map]; exact e) ?_⟩
  rintro ⟨b, off, rfl, h2⟩
  refine ⟨b, off, rfl, fun j hj => ?_⟩
  rw [List.length_map] at hj
  rw [map_getD hj]
  exact h2 j hj
theorem dep_at {G : List Nd} {w : World} {c i : Nat} {p : Option Addr} (h : IntsN w (.slice p G.length c) ((List.range G.length).map (dpt G))) (hi : i < G.length) : ∃ b off, p = some ⟨b, off, none⟩ ∧ w.cell? ⟨b, off + i, none⟩ = some (.int .i64 ((dpt G i : Nat) : Int)) := by
  have e : ((List.range G.length).map (dpt G)).length = G.length := by simp
  have h1 : IntsN w (.slice p ((List.range G.length).map (dpt G)).length c) ((List.range G.length).map (dpt G)) := by rw [e]; exact h
  obtain ⟨b, off, hp, h2⟩ := h1.at_ (j := i) (by omega)
  refine ⟨b, off, hp, ?_⟩
  rw [h2]
  simp [hi]
section
variable {W : World} {v : Value} {n : Nat} {z : Nat → OpD}
set_option maxRecDepth 100000 in
set_option maxHeartbeats 8000000 in
theorem gplays_walk (hO : OpsG W v n z) : Calls Try.prog 3 #[v] W fun e w' => e = .returned (.bool true) ∧ Below W.heap.size W w' := by
  have HO := Lib.hid hO
  obtain ⟨p, cap, rfl, hnm, hc0⟩ := hO
  have HC := Lib.hid hc0
  clear hc0 hnm
  cases hs : smB n z with
  | false =>
    have HS := Lib.hid hs
    clear hs
    go_enter Try.func3, Try.ntmps3
    go_wp2_with (first
      | (go_at_call 9; refine (gsmallB HO.out).mono ?_; rintro e w1 ⟨rfl, hb⟩; rw [HS.out]; have HB := Lib.hid hb; clear hb)
      | (go_at_call 10; refine (awake13 _).mono ?_; rintro e w2 ⟨rfl, hb⟩; have HB2 := Lib.hid hb; clear hb))
    go_ret
    exact ⟨rfl, bthen HB.out HB2.out⟩
  | true =>
    obtain ⟨h80, h20⟩ := smB_yes hs
    have H20 := Lib.hid h20
    have HS := Lib.hid hs
    clear hs h20
    go_enter Try.func3, Try.ntmps3
    go_upto_region 5 with (first
      | (go_at_call 9; refine (gsmallB HO.out).mono ?_; rintro e w1 ⟨rfl, hb⟩; rw [HS.out]; have HB1 := Lib.hid hb; clear hb)
      | (go_at_call 11; refine (gnew _).mono ?_; rintro e w2 ⟨rfl, hg, hb⟩; have HN2 := Lib.hid hg; have HB2 := Lib.hid hb; clear hg hb))
    have HE0 : Hid (∃ g mb, g = w1.heap.size ∧ mb = w2.heap.size ∧ Ge w1 (w2.alloc (.cells #[.slice none 0 0, .slice none 0 0] 30)) g mb (runG z 0)) := Lib.hid ⟨_, _, rfl, rfl, _, _, nilS, nilS, _, (HN2.out.keep (balloc (Below.refl _ _) _)), .start _ _, fun k _ hk => (by rcases hk with hk | hk | ⟨i, hi, _⟩ <;> first | (simp [nilS, Value.ownBlock] at hk) | (simp at hi)), obj_new _ _, HB2.out.size, balloc HB2.out _⟩
    obtain ⟨g, mb, eg, em, hge⟩ := HE0.out
    have HE0 := Lib.hid hge
    rw [← eg, ← em]
    clear hge eg em HN2 HB2
    generalize w2.alloc (.cells #[.slice none 0 0, .slice none 0 0] 30) = w3 at *
    go_wp2_with fail
    go_loopw [28] (fun iv wl => ∃ k : Nat, k ≤ n ∧ iv = .int .i64 k ∧ Hid (Ge w1 wl g mb (runG z k))) (fun iv _ => n - (intOf iv).toNat)
    case atStart => exact ⟨0, Nat.zero_le _, rfl, HE0⟩
    case round =>
      clear HE0
      obtain ⟨k, hk, rfl, HK⟩ := hrel
      by_cases hlt : k < n
      · obtain ⟨b, off, rfl, hc⟩ := HC.out.resolve_left (by omega)
        obtain ⟨q0, q1, q2, vl, q3, hl, hlm, hcap⟩ := hc k hlt
        have HWL : Hid (Below W.heap.size W wr) := Lib.hid (by
          obtain ⟨N, vn, va, vg, M, h⟩ := HK.out
          exact bthen HB1.out h.lo)
        have HL := Lib.hid hl
        have HCAP := Lib.hid hcap
        have HS2 : Hid (runG z (k + 1) = opN (runG z k) (z k)) := Lib.hid rfl
        have q0 := keepc HWL.out q0
        have q1 := keepc HWL.out q1
        have q2 := keepc HWL.out q2
        have q3 := keepc HWL.out q3
        obtain ⟨lp, lc, rfl, hlc⟩ := hl
        have H2 := Lib.hid (H20.out k hlt)
        have HOK := Lib.hid (runG_ok z k)
        have HOK2 := Lib.hid (runG_ok z (k + 1))
        rw [HS2.out] at HOK2
        clear hc hlc hlm hcap
        generalize hzk : z k = o at *
        obtain ⟨x0, x1, x2, xl⟩ := o
        simp only at q0 q1 q2 q3
        clear hzk
        generalize runG z k = G at *
        go_upto_block 2 with fail
        have HKA := Lib.hid (HK.out.keep (balloc (Below.refl _ _) (.cells #[.int .i64 x0, .int .i64 x1, .int .i64 x2, .slice lp xl.length lc] 33)))
        have HBX : Hid (∃ ob, ob = wr.heap.size ∧ (wr.alloc (.cells #[.int .i64 x0, .int .i64 x1, .int .i64 x2, .slice lp xl.length lc] 33)).heap[ob]? = some (.cells #[.int .i64 x0, .int .i64 x1, .int .i64 x2, .slice lp xl.length lc] 33 (0, 0))) := Lib.hid ⟨_, rfl, obj_new _ _⟩
        generalize wr.alloc (.cells #[.int .i64 x0, .int .i64 x1, .int .i64 x2, .slice lp xl.length lc] 33) = w3 at *
        obtain ⟨ob, eob, hob⟩ := HBX.out
        rw [← eob]
        have HOB := Lib.hid hob
        clear HBX eob hob HK q0 q1 q2 q3
        have HIL : Hid (Below W.heap.size W w3) := Lib.hid (by
          obtain ⟨N, vn, va, vg, M, h⟩ := HKA.out
          exact bthen HB1.out h.lo)
        have HXL := Lib.hid (HL.out.keep HIL.out)
        go_cut [] (fun wx => Hid (Ge w1 wx g mb (opN G ⟨x0, x1, x2, xl⟩)))
        case first =>
          obtain ⟨N, vn, va, vg, M, hgb⟩ := HKA.out
          have HGB := Lib.hid hgb
          have hB1 := hgb.lo.size
          clear hgb
          have o1 : w3.cell? ⟨ob, 1, none⟩ = some (.int .i64 x1) := (obj_cell HOB.out 1).trans rfl
          have o2 : w3.cell? ⟨ob, 2, none⟩ = some (.int .i64 x2) := (obj_cell HOB.out 2).trans rfl
          have o3 : w3.cell? ⟨ob, 3, none⟩ = some (.slice lp xl.length lc) := (obj_cell HOB.out 3).trans rfl
          by_cases e0 : x0 = 0
          · subst e0
            as_aux_lemma =>
              go_upto_region 12 with (first
                | (go_at_call 12; refine (gadd HGB.out.gw HOK.out hB1 HXL.out (by have := H2.out; omega)).mono ?_; rintro e w4 ⟨E, rfl, hE, hs⟩; have HE := Lib.hid hE; have HGS := Lib.hid hs; clear hE hs))
              obtain ⟨N', vn', hgc⟩ := HGB.out.opG HGS.out
              obtain ⟨pa, ca, pg, cg, rfl, rfl⟩ := hgc.rw.form
              have HGC := Lib.hid hgc
              have hB4 := hgc.lo.size
              have m0 : w4.cell? ⟨mb, 0, none⟩ = some (.slice pa G.length ca) := (obj_cell hgc.box 0).trans rfl
              have m1 : w4.cell? ⟨mb, 1, none⟩ = some (.slice pg G.length cg) := (obj_cell hgc.box 1).trans rfl
              have hob4 := HGS.out.fr.obj HOB.out fun e => HGB.out.opNot HOB.out (.inl e) rfl
              clear hgc HGB HGS o1 o2
              have o3 : w4.cell? ⟨ob, 3, none⟩ = some (.slice lp xl.length lc) := (obj_cell hob4 3).trans rfl
              have HX4 : Hid (IntsAt w4 (.slice lp xl.length lc) xl) := Lib.hid (HL.out.keep (bthen HB1.out HGC.out.lo))
              clear hob4
              go_upto_region 13 with (first
                | (go_at_call 13; refine (radd HGC.out.rw HOK.out hB4 HX4.out HCAP.out (by have := H2.out; omega)).mono ?_; rintro e w5 ⟨va', vg', rfl, hz⟩; obtain ⟨pa', ca', pg', cg', rfl, rfl⟩ := hz.form; have HRZ := Lib.hid hz; clear hz; obtain ⟨k1, k2, k3⟩ := HGC.out.opR HRZ.out; have HK1 := Lib.hid k1; have HK2 := Lib.hid k2; have b0 : w5.cell? ⟨mb, 0, none⟩ = some (.slice pa G.length ca) := (obj_cell k3 0).trans rfl; have b1 : w5.cell? ⟨mb, 1, none⟩ = some (.slice pg G.length cg) := (obj_cell k3 1).trans rfl; have f0 := obj_free k3 0; have f1 := obj_free k3 1; clear k1 k2 k3 m0 m1 o3))
              have hm0 : ((w5.setCell ⟨mb, 0, none⟩ (.slice pa' (addN G xl).length ca')).setCell ⟨mb, 1, none⟩ (.slice pg' (addN G xl).length cg')).cell? ⟨mb, 0, none⟩ = some (.slice pa' (addN G xl).length ca') := (obj_cell HK1.out.box 0).trans rfl
              have HE5 := Lib.hid (HE.out.held HK2.out)
              have HGE : Hid (Ge w1 ((w5.setCell ⟨mb, 0, none⟩ (.slice pa' (addN G xl).length ca')).setCell ⟨mb, 1, none⟩ (.slice pg' (addN G xl).length cg')) g mb (addN G xl)) := Lib.hid ⟨_, _, _, _, _, HK1.out⟩
              clear HK1 HK2 HE HGC HRZ b0 b1 f0 f1
              generalize (w5.setCell ⟨mb, 0, none⟩ (.slice pa' (addN G xl).length ca')).setCell ⟨mb, 1, none⟩ (.slice pg' (addN G xl).length cg') = w6 at *
              by_cases hbad : addBadG G xl = 0
              · obtain ⟨L1, hL1⟩ : ∃ L : Nat, L = (addN G xl).length := ⟨_, rfl⟩
                have hln : (addN G xl).length = G.length + 1 := by simp [addN, hbad, addG]
                have hno : addNo G xl = (L1 : Int) - 1 := by simp [addNo, hbad]; omega
                have hL2 : 1 ≤ L1 := by omega
                have hL3 : L1 ≤ 65 := by have := HOK.out.len; omega
                rw [hbad] at HE5
                rw [hbad, hno]
                rw [← hL1] at hm0
                clear hbad hno hln hL1
                go_upto_region 14 with (first
                  | (go_at_call 14; refine (is_err HE5.out _).mono ?_; rintro e w7 ⟨rfl, rfl⟩))
                go_meet
                rw [show opN G ⟨0, x1, x2, xl⟩ = addN G xl from rfl]
                exact HGE
              · have hno : addNo G xl = 0 := by simp [addNo, hbad]
                rw [hno]
                clear hno
                generalize addBadG G xl = bd at *
                go_upto_region 14 with (first
                  | (go_at_call 14; refine (is_err HE5.out _).mono ?_; rintro e w7 ⟨rfl, rfl⟩))
                go_meet
                rw [show opN G ⟨0, x1, x2, xl⟩ = addN G xl from rfl]
                exact HGE
          · by_cases e1 : x0 = 1
            · subst e1
              as_aux_lemma =>
                go_upto_region 17 with (first
                  | (go_at_call 15; refine (glink HGB.out.gw HOK.out hB1 x1 x2).mono ?_; rintro e w4 ⟨E, rfl, hE, hs⟩; have HE := Lib.hid hE; have HGS := Lib.hid hs; clear hE hs))
                obtain ⟨N', vn', hgc⟩ := HGB.out.opG HGS.out
                obtain ⟨pa, ca, pg, cg, rfl, rfl⟩ := hgc.rw.form
                have HGC := Lib.hid hgc
                have hB4 := hgc.lo.size
                have m0 : w4.cell? ⟨mb, 0, none⟩ = some (.slice pa G.length ca) := (obj_cell hgc.box 0).trans rfl
                have m1 : w4.cell? ⟨mb, 1, none⟩ = some (.slice pg G.length cg) := (obj_cell hgc.box 1).trans rfl
                have hob4 := HGS.out.fr.obj HOB.out fun e => HGB.out.opNot HOB.out (.inl e) rfl
                clear hgc HGB HGS o1 o2 o3
                have o1 : w4.cell? ⟨ob, 1, none⟩ = some (.int .i64 x1) := (obj_cell hob4 1).trans rfl
                have o2 : w4.cell? ⟨ob, 2, none⟩ = some (.int .i64 x2) := (obj_cell hob4 2).trans rfl
                clear hob4
                go_upto_region 18 with (first
                  | (go_at_call 16; refine (rlink HGC.out.rw HOK.out hB4 x1 x2).mono ?_; rintro e w5 ⟨rfl, hz⟩; have HRZ := Lib.hid hz; clear hz; obtain ⟨k1, k2, k3⟩ := HGC.out.opR HRZ.out; have HK1 := Lib.hid k1; have HK2 := Lib.hid k2; have b0 : w5.cell? ⟨mb, 0, none⟩ = some (.slice pa G.length ca) := (obj_cell k3 0).trans rfl; have b1 : w5.cell? ⟨mb, 1, none⟩ = some (.slice pg G.length cg) := (obj_cell k3 1).trans rfl; have f0 := obj_free k3 0; have f1 := obj_free k3 1; clear k1 k2 k3 m0 m1 o1 o2))
                have HE5 := Lib.hid (HE.out.held HK2.out)
                have HGE : Hid (Ge w1 ((w5.setCell ⟨mb, 0, none⟩ (.slice pa G.length ca)).setCell ⟨mb, 1, none⟩ (.slice pg G.length cg)) g mb (linkN G x1 x2)) := Lib.hid ⟨_, _, _, _, _, HK1.out⟩
                clear HK1 HK2 HE HGC HRZ b0 b1 f0 f1
                generalize (w5.setCell ⟨mb, 0, none⟩ (.slice pa G.length ca)).setCell ⟨mb, 1, none⟩ (.slice pg G.length cg) = w6 at *
                generalize linkBad G x1 x2 = bd at *
                go_upto_region 19 with (first
                  | (go_at_call 14; refine (is_err HE5.out _).mono ?_; rintro e w7 ⟨rfl, rfl⟩))
                go_meet
                rw [show opN G ⟨1, x1, x2, xl⟩ = linkN G x1 x2 from rfl]
                exact HGE
            · by_cases e2 : x0 = 2
              · subst e2
                as_aux_lemma =>
                  go_upto_region 22 with (first
                    | (go_at_call 17; refine (gdrop HGB.out.gw HOK.out x1).mono ?_; rintro e w4 ⟨E, rfl, hE, hs⟩; have HE := Lib.hid hE; have HGS := Lib.hid hs; clear hE hs))
                  obtain ⟨N', vn', hgc⟩ := HGB.out.opG HGS.out
                  obtain ⟨pa, ca, pg, cg, rfl, rfl⟩ := hgc.rw.form
                  have HGC := Lib.hid hgc
                  have hB4 := hgc.lo.size
                  have m0 : w4.cell? ⟨mb, 0, none⟩ = some (.slice pa G.length ca) := (obj_cell hgc.box 0).trans rfl
                  have m1 : w4.cell? ⟨mb, 1, none⟩ = some (.slice pg G.length cg) := (obj_cell hgc.box 1).trans rfl
                  have hob4 := HGS.out.fr.obj HOB.out fun e => HGB.out.opNot HOB.out (.inl e) rfl
                  clear hgc HGB HGS o1 o2 o3
                  have o1 : w4.cell? ⟨ob, 1, none⟩ = some (.int .i64 x1) := (obj_cell hob4 1).trans rfl
                  have o2 : w4.cell? ⟨ob, 2, none⟩ = some (.int .i64 x2) := (obj_cell hob4 2).trans rfl
                  clear hob4
                  go_upto_region 23 with (first
                    | (go_at_call 18; refine (rdrop HGC.out.rw HOK.out x1).mono ?_; rintro e w5 ⟨rfl, hz⟩; have HRZ := Lib.hid hz; clear hz; obtain ⟨k1, k2, k3⟩ := HGC.out.opR HRZ.out; have HK1 := Lib.hid k1; have HK2 := Lib.hid k2; have b0 : w5.cell? ⟨mb, 0, none⟩ = some (.slice pa G.length ca) := (obj_cell k3 0).trans rfl; have b1 : w5.cell? ⟨mb, 1, none⟩ = some (.slice pg G.length cg) := (obj_cell k3 1).trans rfl; have f0 := obj_free k3 0; have f1 := obj_free k3 1; clear k1 k2 k3 m0 m1 o1 o2))
                  have HE5 := Lib.hid (HE.out.held HK2.out)
                  have HGE : Hid (Ge w1 ((w5.setCell ⟨mb, 0, none⟩ (.slice pa G.length ca)).setCell ⟨mb, 1, none⟩ (.slice pg G.length cg)) g mb (dropN G x1)) := Lib.hid ⟨_, _, _, _, _, HK1.out⟩
                  clear HK1 HK2 HE HGC HRZ b0 b1 f0 f1
                  generalize (w5.setCell ⟨mb, 0, none⟩ (.slice pa G.length ca)).setCell ⟨mb, 1, none⟩ (.slice pg G.length cg) = w6 at *
                  generalize dropBadG G x1 = bd at *
                  go_upto_region 24 with (first
                    | (go_at_call 14; refine (is_err HE5.out _).mono ?_; rintro e w7 ⟨rfl, rfl⟩))
                  go_meet
                  rw [show opN G ⟨2, x1, x2, xl⟩ = dropN G x1 from rfl]
                  exact HGE
              · go_wp2_with fail
                go_meet
                rw [show opN G ⟨x0, x1, x2, xl⟩ = G by simp [opN, e0, e1, e2]]
                exact HKA
        case rest =>
          clear HKA HOB HIL HXL HOK HCAP H2 HL HWL
          rw [← HS2.out] at hcut HOK2
          clear HS2
          have hlen := HOK2.out.len
          generalize hG2 : runG z (k + 1) = G2 at *
          have HG2 := Lib.hid hG2
          clear hG2
          have HCUT := hcut
          obtain ⟨N, vn, va, vg, M, hgb⟩ := hcut.out
          clear hcut
          obtain ⟨pa, ca, pg, cg, rfl, rfl⟩ := hgb.rw.form
          have m0 : wc.cell? ⟨mb, 0, none⟩ = some (.slice pa G2.length ca) := (obj_cell hgb.box 0).trans rfl
          have HM : Hid (Gm w1 wc g G2) := Lib.hid ⟨⟨N, vn, hgb.gw⟩, hgb.lo⟩
          clear hgb
          have kd : wc.drew.cell? ⟨mb, 0, none⟩ = some (.slice pa G2.length ca) := m0
          go_wp2_with fail
          go_region_held3 (fun w' => w'.cell? ⟨mb, 0, none⟩ = some (.slice pa G2.length ca)) (first | assumption | exact kd | exact keepc (by assumption) kd | go_simp) (first
            | (go_at_call 19; refine (gm_len (HM.out.keep (Below.drew (Below.refl _ _)))).mono ?_; rintro e w3 ⟨rfl, rfl⟩))
          go_wp2_with fail
          exact ⟨⟨k + 1, by omega, by go_num, by rw [HG2.out]; exact Lib.hid (HCUT.out.keep (Below.drew (Below.refl _ _)))⟩, by simp [intOf]; omega⟩
      · obtain rfl : k = n := by omega
        have HOK := Lib.hid (runG_ok z k)
        generalize runG z k = G at *
        clear HC HO H20 HS
        obtain ⟨N, vn, va, vg, M, hgb⟩ := HK.out
        clear HK
        obtain ⟨pa, ca, pg, cg, rfl, rfl⟩ := hgb.rw.form
        obtain ⟨qa, qg, hrr⟩ := hgb.rw.rr
        have HR0 := Lib.hid hrr
        have HM0 : Hid (Gm w1 wr g G) := Lib.hid ⟨⟨N, vn, hgb.gw⟩, hgb.lo⟩
        have HBX0 := Lib.hid hgb.box
        have HW0 := Lib.hid (bthen HB1.out hgb.lo)
        have hlen := HOK.out.len
        clear hgb hrr
        have kd0 : wr.drew.cell? ⟨mb, 0, none⟩ = some (.slice pa G.length ca) := (obj_cell HBX0.out 0).trans rfl
        have kd1 : wr.drew.cell? ⟨mb, 1, none⟩ = some (.slice pg G.length cg) := (obj_cell HBX0.out 1).trans rfl
        have HDR := Lib.hid (Below.drew (Below.refl wr.heap.size wr))
        have HDL : Hid (((List.range G.length).map (dpt G)).length = G.length) := Lib.hid (by simp)
        go_upto_region 28 with fail
        go_region_held3 (fun w' => w'.cell? ⟨mb, 0, none⟩ = some (.slice pa G.length ca) ∧ w'.cell? ⟨mb, 1, none⟩ = some (.slice pg G.length cg)) (first | exact ⟨by assumption, by assumption⟩ | exact ⟨kd0, kd1⟩ | exact ⟨keepc (by assumption) kd0, keepc (by assumption) kd1⟩ | go_simp) (first
          | (go_at_call 20; refine (rahead (HR0.out.keep HDR.out) HOK.out).mono ?_; rintro e w3 ⟨vt, rb, gb, rfl, ht⟩; have HT3 := Lib.hid ht; have c30 := keepc ht.lo kd0; have c31 := keepc ht.lo kd1; obtain ⟨pt, ct, rfl, -⟩ := row_form ht.row; clear ht)
          | (go_at_call 21; refine (rdepths (HR0.out.keep (bthen HDR.out HT3.out.lo)) HOK.out).mono ?_; rintro e w4 ⟨vd, rfl, hd⟩; have HD4 := Lib.hid hd; have c40 := keepc hd.2 c30; have c41 := keepc hd.2 c31; obtain ⟨pd, cd, rfl, -⟩ := row_form hd.1; rw [HDL.out]; clear hd))
        have HX : Hid (Below W.heap.size W w4) := Lib.hid (bthen HW0.out (bthen HDR.out (bthen HT3.out.lo HD4.out.2)))
        have HX0 : Hid (Below wr.heap.size wr w4) := Lib.hid (bthen HDR.out (bthen HT3.out.lo HD4.out.2))
        have HM := Lib.hid (HM0.out.keep HX0.out)
        have HR := Lib.hid (HR0.out.keep HX0.out)
        have HT := Lib.hid (HT3.out.keep HD4.out.2)
        have HDI : Hid (IntsN w4 (.slice pd G.length cd) ((List.range G.length).map (dpt G))) := Lib.hid (by have := HD4.out.ints; rw [HDL.out] at this; exact this)
        clear HM0 HR0 HT3 HD4 HBX0 HW0 HDR HX0 kd0 kd1 c30 c31 HE0 HB1 h80 hk hlt
        have C0 := Lib.hid c40
        have C1 := Lib.hid c41
        obtain ⟨i0, hi, hz0, hz1, hz2⟩ := info_parts infoN
        have HF0 : Hid (FL w4 w4 (.slice none 0 0) ((List.range 0).filter (endB G))) := Lib.hid (FL.nil _)
        go_wp2_with fail
        clear c40 c41
        go_loopw [14, 126] (fun ev iv wl => ∃ i : Nat, i ≤ G.length ∧ iv = .int .i64 i ∧ Hid (FL w4 wl ev ((List.range i).filter (endB G)))) (fun _ iv _ => G.length - (intOf iv).toNat)
        case atStart => exact ⟨0, by omega, rfl, HF0⟩
        case round =>
          clear HF0
          obtain ⟨i, hi2, rfl, HJ⟩ := hrel
          obtain ⟨pe, ce, rfl, -⟩ := row_form HJ.out.1
          have hfl : ((List.range i).filter (endB G)).length ≤ i := filter_len _ i
          by_cases hlt : i < G.length
          · obtain ⟨qt, ct', ept⟩ := row_slice HT.out.row (by omega)
            simp only [Value.slice.injEq] at ept
            obtain ⟨rfl, -, rfl⟩ := ept
            have ht := (HT.out.keep HJ.out.2).rowAt rfl hlt
            unfold rowV at ht
            have HTI : Hid (∀ w, Below w4.heap.size w4 w → ∀ j, j < G.length → w.cell? ⟨rb.getD i 0, j, none⟩ = some (.bool (rchB G i j))) := Lib.hid fun w hb j hj => (HT.out.keep hb).cell hlt hj
            generalize rb.getD i 0 = rbi at *
            generalize hle : (List.range i).filter (endB G) = le at *
            have HLE := Lib.hid hle
            clear hle
            have HG0 : Hid (FL wr wr (.slice none 0 0) ((List.range 0).filter (rchB G i))) := Lib.hid (FL.nil _)
            go_wp2_with fail
            clear ht
            go_loopw [16, 134] (fun rv jv wl => ∃ j : Nat, j ≤ G.length ∧ jv = .int .i64 j ∧ Hid (FL wr wl rv ((List.range j).filter (rchB G i)))) (fun _ jv _ => G.length - (intOf jv).toNat)
            case atStart => exact ⟨0, by omega, rfl, HG0⟩
            case round =>
              clear HG0
              rename World => wi
              obtain ⟨j, hj, rfl, HI⟩ := hrel
              obtain ⟨pr, cr, rfl, -⟩ := row_form HI.out.1
              have hrl : ((List.range j).filter (rchB G i)).length ≤ j := filter_len _ j
              by_cases hjl : j < G.length
              · have hcell := HTI.out _ (bthen HJ.out.2 HI.out.2) j hjl
                have HS : Hid ((List.range (j + 1)).filter (rchB G i) = (List.range j).filter (rchB G i) ++ (if rchB G i j then [j] else [])) := Lib.hid (range_filter _ j)
                generalize hlk : (List.range j).filter (rchB G i) = lk at *
                clear hlk
                cases hb : rchB G i j with
                | false =>
                  rw [hb] at hcell HS
                  clear hb
                  go_wp2_with fail
                  exact ⟨⟨j + 1, by omega, by go_num, by rw [HS.out]; exact Lib.hid (by rw [show ((if false = true then [j] else []) : List Nat) = [] from rfl, List.append_nil]; exact HI.out)⟩, by simp [intOf]; omega⟩
                | true =>
                  rw [hb] at hcell HS
                  clear hb
                  go_wp2_with (at_builtin; refine wpList_append_row rfl _ _ 31 rfl 3 i0 (.int .i64 0) 1 8 Try.underlying31 hi hz0 hz1 hz2 rfl (by decide) (.slice pr lk.length cr) _ _ rfl (row_base ((HI.out.keep (balloc (Below.refl _ _) _)).1) (Nat.zero_le _)) ⟨wi.heap.size, 0, none⟩ 1 1 [.int .i64 j] rfl rfl (one_cell _ _ _) (fun x hx => by simp at hx; subst hx; rfl) (by unfold maxLen; omega) (by omega) ?_; intro v' w5 hown hf hv; have HE := Lib.hid ((HI.out.keep (balloc (Below.refl _ _) _)).app hown hf hv); obtain ⟨p', c', rfl, -⟩ := row_form hown; clear hown hf hv)
                  exact ⟨⟨j + 1, by omega, by go_num, by rw [HS.out]; exact HE⟩, by simp [intOf]; omega⟩
              · obtain rfl : j = G.length := by omega
                have hre : (List.range G.length).filter (rchB G i) = rchL G i 64 := rchL_all HOK.out i
                rw [hre] at HI hrl ⊢
                have H16a := Lib.hid HI.out.ints
                have HBW := Lib.hid (bthen HJ.out.2 HI.out.2)
                have HJ2 := Lib.hid (HJ.out.keep HI.out.2)
                have HRI : Hid (rchI G (i : Int) = rchL G i 64) := Lib.hid (rchI_nat HOK.out i)
                have HRL : Hid ((rchL G i 64).length ≤ 1000) := Lib.hid (by omega)
                clear hre HI HJ hjl hj
                have hal : (aft G i).length ≤ 64 := by have := aft_len HOK.out i; omega
                have HAI := Lib.hid (aftI_nat HOK.out i)
                have HAL : Hid ((aft G i).length ≤ 1000) := Lib.hid (by omega)
                have HBI := Lib.hid (behI_all HOK.out i)
                have HBL : Hid ((behL G (i : Int) G.length).length ≤ 1000) := Lib.hid (by have := beh_len G (i : Int); omega)
                have HDE : Hid (((depI G (i : Int) : Nat) : Int) = ((dpt G i : Nat) : Int)) := Lib.hid (by rw [depI_nat HOK.out])
                obtain ⟨pa2, ca2, ea, hpa⟩ := HR.out.a
                simp only [Value.slice.injEq] at ea
                obtain ⟨rfl, -, rfl⟩ := ea
                have hpa2 := hpa (by omega)
                subst hpa2
                obtain ⟨pm, cm, hm⟩ : ∃ pm cm, M.getD i (.slice none 0 0) = .slice pm (aft G i).length cm := by
                  obtain ⟨p, c, h, _⟩ := HR.out.ns i hlt
                  exact ⟨p, c, h⟩
                have hca := keepc HBW.out (HR.out.af i hlt)
                rw [hm] at hca
                have HNS : Hid (IntsN wi (.slice pm (aft G i).length cm) (aft G i)) := Lib.hid (by
                  have := (HR.out.ns i hlt).keep HBW.out
                  rw [hm] at this
                  exact this)
                have HIE : Hid (((aft G i).map fun (n : Nat) => (n : Int)).map (Value.int .i64) = ints (aft G i)) := Lib.hid (by simp [ints])
                have c0 := keepc HBW.out C0.out
                clear hpa hm
                obtain ⟨hb, ehb⟩ : ∃ hb, hasI G (i : Int) = hb := ⟨_, rfl⟩
                have HHB := Lib.hid ehb
                clear ehb
                go_upto_region 41 with (at_builtin; refine wpList_append_ints rfl _ _ 31 rfl 3 i0 (.int .i64 0) 8 Try.underlying31 hi hz0 hz1 hz2 rfl (.slice none 0 0) 0 [] rfl (World.ownsRow_nil _ _ _ _) (.slice pm (aft G i).length cm) _ rfl HNS.out.atI (by rw [List.length_map]; unfold maxLen; omega) (by rw [List.length_map]; omega) ?_; intro v4 wA hown hf hv; rw [List.length_map, Nat.zero_add, List.nil_append, HIE.out] at hown; have H17 := Lib.hid (IntsN.of_row hown); have HB2 : Hid (Below wi.heap.size wi wA) := Lib.hid (hf.below (Nat.le_refl _) fun k hk => by simp [Value.ownBlock] at hk); obtain ⟨pf, cf, rfl, -⟩ := row_form hown; clear hown hf hv)
                have HBA := Lib.hid (bthen HBW.out HB2.out)
                have HJA := Lib.hid (HJ2.out.keep HB2.out)
                have H16 := Lib.hid (H16a.out.keep HB2.out)
                have HMA := Lib.hid (HM.out.keep HBA.out)
                have HRA := Lib.hid (HR.out.keep HBA.out)
                obtain ⟨bd, od, rfl, hd⟩ := dep_at HDI.out hlt
                have HSK : Hid (∀ w', Below wA.heap.size wA w' → (w'.cell? ⟨mb, 0, none⟩ = some (.slice (some ⟨qa, 0, none⟩) G.length ca) ∧ w'.cell? ⟨mb, 1, none⟩ = some (.slice pg G.length cg) ∧ w'.cell? ⟨bd, od + i, none⟩ = some (.int .i64 ((dpt G i : Nat) : Int)))) := Lib.hid fun w' hb => ⟨keepc hb (keepc HBA.out C0.out), keepc hb (keepc HBA.out C1.out), keepc hb (keepc HBA.out hd)⟩
                have B0 := Lib.hid (Below.drew (Below.refl wA.heap.size wA))
                have ks := HSK.out _ B0.out
                clear c0 hca hd HNS HIE HBW HJ2 H16a HB2
                go_region_held3 (fun w' => w'.cell? ⟨mb, 0, none⟩ = some (.slice (some ⟨qa, 0, none⟩) G.length ca) ∧ w'.cell? ⟨mb, 1, none⟩ = some (.slice pg G.length cg) ∧ w'.cell? ⟨bd, od + i, none⟩ = some (.int .i64 ((dpt G i : Nat) : Int))) (first | assumption | go_simp) (first
                  | (go_at_call 22; refine (gm_has (HMA.out.keep B0.out) _).mono ?_; rintro e x0 ⟨rfl, rfl⟩; rw [HHB.out])
                  | (go_at_call 23; refine (rhas (HRA.out.keep B0.out) _ hlen).mono ?_; rintro e x1 ⟨rfl, hb⟩; rw [HHB.out]; have B1 := Lib.hid (bthen B0.out hb); have d1 := HSK.out _ B1.out; clear ks; clear hb)
                  | (go_at_call 25; refine (gm_reach (HMA.out.keep B1.out) HOK.out _).mono ?_; rintro e x2 ⟨v2, rfl, hf⟩; rw [HRI.out] at hf; have F2 := Lib.hid hf; have B2 := Lib.hid (bthen B1.out hf.2); have d2 := HSK.out _ B2.out; clear d1; obtain ⟨p2, k2, rfl, -⟩ := row_form hf.1; clear hf)
                  | (go_at_call_of 24 (Value.slice p2 (rchL G i 64).length k2); refine (gsame_yes F2.out.ints (H16.out.keep B2.out) HRL.out).mono ?_; rintro e x3 ⟨rfl, hb⟩; have B3 := Lib.hid (bthen B2.out hb); have d3 := HSK.out _ B3.out; clear d2; clear hb)
                  | (go_at_call 26; refine (gm_after (HMA.out.keep B3.out) HOK.out _).mono ?_; rintro e x4 ⟨v4, rfl, hf⟩; rw [HAI.out] at hf; have F4 := Lib.hid hf; have B4 := Lib.hid (bthen B3.out hf.2); have d4 := HSK.out _ B4.out; clear d3; obtain ⟨p4, k4, rfl, -⟩ := row_form hf.1; clear hf)
                  | (go_at_call_of 24 (Value.slice p4 (aft G i).length k4); refine (gsame_yes F4.out.ints (H17.out.keep B4.out) HAL.out).mono ?_; rintro e x5 ⟨rfl, hb⟩; have B5 := Lib.hid (bthen B4.out hb); have d5 := HSK.out _ B5.out; clear d4; clear hb)
                  | (go_at_call 27; refine (gm_behind (HMA.out.keep B5.out) HOK.out _).mono ?_; rintro e x6 ⟨v6, rfl, hf⟩; rw [HBI.out] at hf; have F6 := Lib.hid hf; have B6 := Lib.hid (bthen B5.out hf.2); have d6 := HSK.out _ B6.out; clear d5; obtain ⟨p6, k6, rfl, -⟩ := row_form hf.1; clear hf)
                  | (go_at_call 28; refine (rbehind (HRA.out.keep B6.out) HOK.out _).mono ?_; rintro e x7 ⟨v7, rfl, hf⟩; have F7 := Lib.hid hf; have B7 := Lib.hid (bthen B6.out hf.2); have d7 := HSK.out _ B7.out; clear d6; obtain ⟨p7, k7, rfl, -⟩ := row_form hf.1; clear hf)
                  | (go_at_call_of 24 (Value.slice p6 (behL G (i : Int) G.length).length k6); refine (gsame_yes (F6.out.keep F7.out.2).ints F7.out.ints HBL.out).mono ?_; rintro e x8 ⟨rfl, hb⟩; have B8 := Lib.hid (bthen B7.out hb); have d8 := HSK.out _ B8.out; clear d7; clear hb)
                  | (go_at_call 29; refine (gm_depth (HMA.out.keep B8.out) HOK.out _).mono ?_; rintro e x9 ⟨rfl, hb⟩; rw [HDE.out]; have B9 := Lib.hid (bthen B8.out hb); have d9 := HSK.out _ B9.out; clear d8; clear hb))
                have HS : Hid ((List.range (i + 1)).filter (endB G) = le ++ (if endB G i then [i] else [])) := Lib.hid (by rw [range_filter, HLE.out])
                have e0 := d9.1
                have e1 := d9.2.1
                have HR9 := Lib.hid (HRA.out.keep B9.out)
                have HJ9 := Lib.hid (HJA.out.keep B9.out)
                clear d9 B0 B1 B2 B3 B4 B5 B6 B7 B8 F2 F4 F6 F7 HSK HRA HJA HMA H16 H17 HRI HAI HBI HAL HRL HDE hal hrl
                cases hb with
                | false =>
                  have HE : Hid (endB G i = false) := Lib.hid (by
                    have := HHB.out
                    rw [hasI_nat] at this
                    simp [endB, this])
                  go_wp2_with (go_at_call 23; refine (rhas HR9.out _ hlen).mono ?_; rintro e x10 ⟨rfl, hb⟩; rw [HHB.out]; have HJ10 := Lib.hid (HJ9.out.keep hb); clear hb)
                  exact ⟨⟨i + 1, by omega, by go_num, by rw [HS.out, HE.out]; exact Lib.hid (by rw [show ((if false = true then [i] else []) : List Nat) = [] from rfl, List.append_nil]; exact HJ10.out)⟩, by simp [intOf]; omega⟩
                | true =>
                  have HE : Hid (endB G i = (behL G (i : Int) G.length).isEmpty) := Lib.hid (by
                    have := HHB.out
                    rw [hasI_nat] at this
                    simp [endB, this])
                  have hbl : (behL G (i : Int) G.length).length ≤ G.length := filter_len _ _
                  cases hem : behL G (i : Int) G.length with
                  | nil =>
                    have HEM := Lib.hid hem
                    clear hem hbl HBL
                    go_wp2_with (first
                      | (go_at_call 23; refine (rhas HR9.out _ hlen).mono ?_; rintro e x10 ⟨rfl, hb⟩; rw [HHB.out]; have HJ10 := Lib.hid (HJ9.out.keep hb); have HR10 := Lib.hid (HR9.out.keep hb); have g0 := keepc hb e0; have g1 := keepc hb e1; clear hb)
                      | (go_at_call 28; refine (rbehind HR10.out HOK.out _).mono ?_; rintro e x11 ⟨v11, rfl, hf2⟩; rw [HEM.out] at hf2; obtain ⟨p11, c11, rfl, -⟩ := row_form hf2.1; have HJ11 := Lib.hid (HJ10.out.keep hf2.2); clear hf2)
                      | (at_builtin; refine wpList_append_row rfl _ _ 31 rfl 3 i0 (.int .i64 0) 1 8 Try.underlying31 hi hz0 hz1 hz2 rfl (by decide) (.slice pe le.length ce) _ _ rfl (row_base ((HJ11.out.keep (balloc (Below.refl _ _) _)).1) (Nat.zero_le _)) ⟨x11.heap.size, 0, none⟩ 1 1 [.int .i64 i] rfl rfl (one_cell _ _ _) (fun x hx => by simp at hx; subst hx; rfl) (by unfold maxLen; omega) (by omega) ?_; intro v' x12 hown hf hv; have HE12 := Lib.hid ((HJ11.out.keep (balloc (Below.refl _ _) _)).app hown hf hv); obtain ⟨p', c', rfl, -⟩ := row_form hown; clear hown hf hv))
                    exact ⟨⟨i + 1, by omega, by go_num, by rw [HS.out, HE.out, HEM.out]; exact HE12⟩, by simp [intOf]; omega⟩
                  | cons y ys =>
                    have HEM := Lib.hid hem
                    rw [hem] at hbl
                    have HYL : Hid ((y :: ys).length = ys.length + 1) := Lib.hid rfl
                    clear hem HBL
                    go_wp2_with (first
                      | (go_at_call 23; refine (rhas HR9.out _ hlen).mono ?_; rintro e x10 ⟨rfl, hb⟩; rw [HHB.out]; have HJ10 := Lib.hid (HJ9.out.keep hb); have HR10 := Lib.hid (HR9.out.keep hb); have g0 := keepc hb e0; have g1 := keepc hb e1; clear hb)
                      | (go_at_call 28; refine (rbehind HR10.out HOK.out _).mono ?_; rintro e x11 ⟨v11, rfl, hf2⟩; rw [HEM.out] at hf2; obtain ⟨p11, c11, rfl, -⟩ := row_form hf2.1; have HJ11 := Lib.hid (HJ10.out.keep hf2.2); clear hf2; rw [HYL.out]))
                    exact ⟨⟨i + 1, by omega, by go_num, by rw [HS.out, HE.out, HEM.out]; exact Lib.hid (by rw [show ((if (y :: ys).isEmpty = true then [i] else []) : List Nat) = [] from rfl, List.append_nil]; exact HJ11.out)⟩, by simp [intOf]; omega⟩
          · obtain rfl : i = G.length := by omega
            have HEL : Hid (((List.range G.length).filter (endB G)).length ≤ 1000) := Lib.hid (by omega)
            have HOL : Hid ((ordG G).length ≤ 1000) := Lib.hid (by have := (ordG_ok G).len; omega)
            have HBW := Lib.hid HJ.out.2
            have HSK : Hid (∀ w', Below wr.heap.size wr w' → (w'.cell? ⟨mb, 0, none⟩ = some (.slice pa G.length ca) ∧ w'.cell? ⟨mb, 1, none⟩ = some (.slice pg G.length cg))) := Lib.hid fun w' hb => ⟨keepc hb (keepc HBW.out C0.out), keepc hb (keepc HBW.out C1.out)⟩
            have HME := Lib.hid (HM.out.keep HBW.out)
            have HRE := Lib.hid (HR.out.keep HBW.out)
            have B0 := Lib.hid (Below.drew (Below.refl wr.heap.size wr))
            generalize hle : (List.range G.length).filter (endB G) = le at *
            have HLE := Lib.hid hle
            clear hle hlt hi2
            go_upto_region 46 with fail
            have ks := HSK.out _ B0.out
            go_region_held3 (fun w' => w'.cell? ⟨mb, 0, none⟩ = some (.slice pa G.length ca) ∧ w'.cell? ⟨mb, 1, none⟩ = some (.slice pg G.length cg)) (first | assumption | go_simp) (first
              | (go_at_call 10; refine (awake13 _).mono ?_; rintro e x1 ⟨rfl, hb⟩; have B1 := Lib.hid (bthen B0.out hb); have d1 := HSK.out _ B1.out; clear ks hb)
              | (go_at_call 30; refine (gm_ends (HME.out.keep B1.out) HOK.out).mono ?_; rintro e x2 ⟨v2, rfl, hf⟩; rw [HLE.out] at hf; have F2 := Lib.hid hf; have B2 := Lib.hid (bthen B1.out hf.2); have d2 := HSK.out _ B2.out; clear d1; obtain ⟨p2, k2, rfl, -⟩ := row_form hf.1; clear hf)
              | (go_at_call_of 24 (Value.slice p2 le.length k2); refine (gsame_yes F2.out.ints (HJ.out.keep B2.out).ints HEL.out).mono ?_; rintro e x3 ⟨rfl, hb⟩; have B3 := Lib.hid (bthen B2.out hb); have d3 := HSK.out _ B3.out; clear d2 hb)
              | (go_at_call 31; refine (gm_order (HME.out.keep B3.out) HOK.out).mono ?_; rintro e x4 ⟨v4, rfl, hf⟩; have F4 := Lib.hid hf; have B4 := Lib.hid (bthen B3.out hf.2); have d4 := HSK.out _ B4.out; clear d3; obtain ⟨p4, k4, rfl, -⟩ := row_form hf.1; clear hf)
              | (go_at_call 32; refine (rorder (HRE.out.keep B4.out) HOK.out).mono ?_; rintro e x5 ⟨v5, rfl, hf⟩; have F5 := Lib.hid hf; have B5 := Lib.hid (bthen B4.out hf.2); have d5 := HSK.out _ B5.out; clear d4; obtain ⟨p5, k5, rfl, -⟩ := row_form hf.1; clear hf)
              | (go_at_call_of 24 (Value.slice p4 (ordG G).length k4); refine (gsame_yes (F4.out.keep F5.out.2).ints F5.out.ints HOL.out).mono ?_; rintro e x6 ⟨rfl, hb⟩; have B6 := Lib.hid (bthen B5.out hb); have d6 := HSK.out _ B6.out; clear d5 hb))
            go_wp2_with fail
            go_ret
            exact ⟨rfl, bthen HX.out (bthen HBW.out B6.out)⟩
end
end Go.Proofs.Ytggjimeligbmcab
