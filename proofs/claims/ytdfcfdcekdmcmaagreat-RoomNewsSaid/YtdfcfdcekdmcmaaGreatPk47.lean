/-
  A claim on both sides, from its beginning to its end: the law's own claim, by contract. Conditions: BoN's.
-/
import Derived.Test.YtdfcfdcekdmcmaaGreatPk46
set_option linter.unusedVariables false
set_option linter.unusedSimpArgs false
namespace Go.Proofs.YtdfcfdcekdmcmaaGreat
open Go.RowKit
set_option linter.unusedVariables false
set_option linter.unusedSimpArgs false
theorem cl_info82 {u : Array Value} (h : u.size = 82) : (Tryz.prog.info? 66).map (·.size) = some u.size := by
  rw [h]
  kernel_rfl
theorem is_same {w : World} {E : Value} {f : Int} (h : ErrAt w E f) : Calls Tryz.prog 44 #[E, .int .i64 f] w fun e w' => e = .returned (.bool true) ∧ w = w' := (is_at h f).mono fun e w' ⟨h1, h2⟩ => ⟨by rw [h1, beq_self_eq_true], h2⟩
section
variable {R : Rest} {W0 W w : World} {a : Nat} {q r wb : Nat} {c t : Array Value} {z n f ds : Int} {far : Nat}
theorem nw_cases (h : Mid W0 a (NwP a q r wb c t f) R w) : (f ≠ 0 ∧ c = clA false tsZ tyz ∧ Mid W0 a (PlP a (q + 1) r wb) R w) ∨ (f = 0 ∧ ∃ ds far, Mid W0 a (ClP a q r wb c t ds far) R w) := by
  obtain ⟨cs, st, C, d, h | ⟨h, ds, far, h1⟩, hm⟩ := h
  · exact .inl ⟨h.1, h.2.2.1, cs, st, C, d, h.2.2.2, hm⟩
  · exact .inr ⟨h, ds, far, cs, st, C, d, h1, hm⟩
theorem nw_t (h : Mid W0 a (NwP a q r wb c t f) R w) : t.size = 7 ∧ t.all (·.oneCell') = true ∧ (Tryz.prog.info? 193).map (·.size) = some t.size := by
  obtain ⟨cs, st, C, d, ⟨_, rfl, _⟩ | ⟨_, ds, far, h1⟩, hm⟩ := h
  · exact ⟨rfl, t14_one _ _ _ _ _ _, t14_info _ _ _ _ _ _ _⟩
  · obtain ⟨_, ⟨i, n, c0, h, l, rfl⟩, _⟩ := cl_c (R := R) ⟨cs, st, C, d, h1, hm⟩
    exact ⟨rfl, t14_one _ _ _ _ _ _, t14_info _ _ _ _ _ _ _⟩
theorem cl_t (h : Mid W0 a (ClP a q r wb c t ds far) R w) : t.size = 7 ∧ t.all (·.oneCell') = true ∧ (Tryz.prog.info? 193).map (·.size) = some t.size ∧ t[2]? = some (.int .i64 ds) := by
  obtain ⟨_, ⟨i, n, c0, h, l, rfl⟩, _⟩ := cl_c h
  exact ⟨rfl, t14_one _ _ _ _ _ _, t14_info _ _ _ _ _ _ _, rfl⟩
theorem ms_t (h : Mid W0 a (MsP a q r wb c t ds far) R w) : t.size = 7 ∧ t.all (·.oneCell') = true ∧ (Tryz.prog.info? 193).map (·.size) = some t.size := by
  obtain ⟨cs, st, C, d, ⟨d0, i, x, y, y', n, _, _, _, _, _, _, _, _, hr⟩, _⟩ := h
  rcases hr with ⟨_, ⟨_, _, _, _, _, ⟨_, _, _, rfl⟩, _⟩ | ⟨_, _, _, _, _, ⟨_, _, rfl⟩, _⟩ | ⟨_, u, tr, _, _, _, ⟨_, _, _, _, ⟨_, rfl⟩⟩ | ⟨_, _, _, _, _, ⟨_, rfl⟩⟩ | ⟨_, _, _, _, _, rfl⟩ | ⟨_, _, _, _, ⟨_, rfl⟩⟩ | ⟨_, _, _, _, ⟨_, _, rfl⟩⟩⟩⟩ <;> exact ⟨rfl, t14_one _ _ _ _ _ _, t14_info _ _ _ _ _ _ _⟩
set_option maxHeartbeats 4000000 in
set_option maxRecDepth 100000 in
theorem pair_claim (h : Mid W0 a (PlP a q r wb) R W) (hq : q ≤ 1000) (z n : Int) :
    Calls Tryz.prog 64 #[.pointer (some ⟨r, 0, none⟩), .pointer (some ⟨wb, 0, none⟩), .int .i64 z, .int .i64 n] W fun e w' => e = .returned (.bool true) ∧ Mid W0 a (PlP a (q + 1) r wb) R w' := by
  have HCL : Hid (Calls Tryz.prog 24 #[.pointer (some ⟨r, 0, none⟩), .int .i64 z, .int .i64 n] W fun e w1 => ∃ c E f, e = .returned (.tuple #[.agg c, E]) ∧ ErrAt w1 E f ∧ Mid W0 a (MnP a q r wb z n c f) R w1) := by
    obtain ⟨cs, st, C, d, ⟨rfl, rfl, pl⟩, hmv⟩ := h
    exact Lib.hid (cl_new ⟨hmv, pl⟩ hq z n)
  have HQ := Lib.hid hq
  clear h hq
  go_enter Tryz.func64, Tryz.ntmps64
  go_upto_region 2 with (first
    | (go_at_call 24; refine HCL.out.mono ?_; rintro e w1 ⟨c, E, f, rfl, hE, hm⟩; have HE1 := Lib.hid hE; have HC := Lib.hid (mn_size hm); have HCI := Lib.hid (cl_info82 HC.out.1); have HM1 := Lib.hid hm; clear hE hm)
    | (refine wpList_alloc_cl rfl rfl ?_; intro zs hz; have HZ := Lib.hid hz; have HM2 := Lib.hid ((mid_bx _ _ _).new zs 66 HM1.out); have HE2 := Lib.hid (HE1.out.keep (balloc (Below.refl _ w1) (.cells zs 66))); generalize w1.alloc (.cells zs 66) = w2 at *; generalize w1.heap.size = b9 at *; clear hz)
    | (refine wpList_store_row rfl 66 (.tmp 9) (.tmp 21) rfl b9 c rfl rfl 66 _ ((mid_bx _ _ _).is HM2.out) HCI.out (by rw [HC.out.1]; exact HZ.out) HC.out.2 ?_; have HM3 := Lib.hid ((mid_bx _ _ _).row HM2.out c); have HE3 := Lib.hid (HE2.out.frmG ((Frm.refl (fun k => k = b9) w2).setRow rfl c) (not_fault ((mid_bx _ _ _).is HM2.out) (by decide))); generalize World.setRow w2 _ _ = w3 at *))
  clear HM1 HM2 HE1 HE2 HCL HZ
  go_upto_region 3 with (first
    | (go_at_call 110; refine (cl_dnew HM3.out HQ.out).mono ?_; rintro e w4 ⟨t, rfl, hb, hm⟩; have HE4 : Hid (ErrAt w4 E f) := Lib.hid (by rcases Decidable.em (f = 0) with h0 | h0; exact (by rcases HE3.out with h1 | h1; exact .inl h1; exact absurd h0 h1.1); exact HE3.out.keep (hb h0)); have HT := Lib.hid (nw_t hm); have HM4 := Lib.hid hm; clear hb hm)
    | (refine wpList_alloc_t14 rfl rfl ?_; intro ys hy; have HY := Lib.hid hy; have HM5 := Lib.hid ((mid_bx _ _ _).new ys 193 HM4.out); have HE5 := Lib.hid (HE4.out.keep (balloc (Below.refl _ w4) (.cells ys 193))); generalize w4.alloc (.cells ys 193) = w5 at *; generalize w4.heap.size = b11 at *; clear hy)
    | (refine wpList_store_row rfl 193 (.tmp 11) (.tmp 28) rfl b11 t rfl rfl 193 _ ((mid_bx _ _ _).is HM5.out) HT.out.2.2 (by rw [HT.out.1]; exact HY.out) HT.out.2.1 ?_; have HM6 := Lib.hid ((mid_bx _ _ _).row HM5.out t); have HE6 := Lib.hid (HE5.out.frmG ((Frm.refl (fun k => k = b11) w5).setRow rfl t) (not_fault ((mid_bx _ _ _).is HM5.out) (by decide))); generalize World.setRow w5 _ _ = w6 at *))
  clear HM3 HM4 HM5 HE3 HE4 HE5 HY HT
  rcases nw_cases HM6.out with ⟨hf, rfl, hm⟩ | ⟨rfl, ds, far, hm⟩
  · have HM := Lib.hid hm
    have d0 : (f != 0) = true := by simpa using hf
    have d1 : (f == 0) = false := by simpa using hf
    clear hm hf HM6
    have HZD := Lib.hid clz_done
    have HZL := Lib.hid clz_last
    generalize clA false tsZ tyz = cz at *
    go_upto_region 5 with (first
      | (go_at_call 44; refine (is_same HE6.out).mono ?_; rintro e y1 ⟨rfl, rfl⟩)
      | (refine wpList_load_row_g rfl 66 (.tmp 9) rfl b9 rfl 66 _ (0, 0) _ (by first | exact ((mid_bx _ _ _).inv HN.out).1.2.1 | exact ((mid_bx _ _ _).inv HM.out).1.2.1) Tryz.underlying66 rfl HCI.out ?_)
      | (go_at_call 25; refine (HZD.out _).mono ?_; rintro e y2 ⟨rfl, hb⟩; have HN := Lib.hid ((mid_bx _ _ _).keep HM.out hb); clear hb)
      | (go_at_call 28; refine (HZL.out _).mono ?_; rintro e y3 ⟨rfl, hb⟩; have HN2 := Lib.hid ((mid_bx _ _ _).keep HN.out hb); clear hb))
    clear HN HM HE6
    go_wp2_with fail
    go_loopw [12, 13] (fun fv iv wl => fv = .int .i64 f ∧ iv = .int .i64 0 ∧ Hid (Mid W0 a (PlP a (q + 1) r wb) ((R.box W0.heap.size b9 cz 66).box W0.heap.size b11 t 193) wl)) (fun _ _ _ => 0)
    case atStart => exact ⟨rfl, rfl, HN2⟩
    case round =>
      obtain ⟨rfl, rfl, HN3⟩ := hrel
      clear HN2
      go_wp2_with fail
      refine wp_region_later (by kernel_rfl) (by kernel_rfl) ?_
      repeat (go_big_quiet_step (fail))
      refine wpQuiet_nil ?_
      intro w7 hw'
      obtain ⟨⟨w7', hb7⟩, hw7⟩ := hw'
      obtain rfl : w7 = w7' := hw7
      go_wp2_with fail
      go_ret
      exact ⟨rfl, (mid_bx _ _ _).drop ((mid_bx _ _ _).drop ((mid_bx _ _ _).keep HN3.out hb7))⟩
  · have HI : Hid (∃ c t ds far, far + (0 : Nat) ≤ 4 ∧ Mid W0 a (ClP a q r wb c t ds far) ((R.box W0.heap.size b9 c 66).box W0.heap.size b11 t 193) w6) := Lib.hid ⟨c, t, ds, far, by have := (cl_c hm).2.2.2.1; omega, hm⟩
    clear hm HM6
    go_upto_region 5 with (first
      | (go_at_call 44; refine (is_same HE6.out).mono ?_; rintro e y1 ⟨rfl, rfl⟩))
    clear HE6
    go_wp2_with fail
    go_loopw [12, 13] (fun fv iv wl => fv = .int .i64 0 ∧ ∃ s : Nat, iv = .int .i64 s ∧ Hid (∃ c t ds far, far + s ≤ 4 ∧ Mid W0 a (ClP a q r wb c t ds far) ((R.box W0.heap.size b9 c 66).box W0.heap.size b11 t 193) wl)) (fun _ i _ => 20 - (intOf i).toNat)
    case atStart => exact ⟨rfl, 0, rfl, HI⟩
    case round =>
      obtain ⟨rfl, s, rfl, HJ⟩ := hrel
      clear HI HCI HC
      obtain ⟨c1, t1, ds1, far1, hs, hm⟩ := HJ.out
      obtain ⟨hc, _, hfd, hf4, hdn, hfu, z1, hz, hla, hdl⟩ := cl_c hm
      have HC := Lib.hid hc
      have HCI := Lib.hid (cl_info82 hc.1)
      have HTT := Lib.hid (cl_t hm)
      have HM := Lib.hid hm
      have k2 : wr.cell? ⟨b11, 2, none⟩ = some (.int .i64 ds1) := (obj_cell ((mid_bx _ _ _).is hm) 2).trans HTT.out.2.2.2
      have HDN := Lib.hid hdn
      have HFU := Lib.hid hfu
      have HLA := Lib.hid hla
      have HDL := Lib.hid hdl
      clear hm hc hdn hfu hla hdl HJ
      by_cases hlt : ds1 < 5
      · have hfp : 0 < far1 := by
          rcases Nat.eq_zero_or_pos far1 with e | e
          · exact absurd hlt (hfd.1 e)
          · exact e
        have dlt : decide (ds1 < 5) = true := decide_eq_true hlt
        have d200 : decide ((200 : Int) < (s : Int)) = false := decide_eq_false (by omega)
        rw [decide_eq_false (by omega)] at HDN
        rw [decide_eq_false (by omega)] at HFU
        obtain rfl := hz hfp
        have HFP := Lib.hid hfp
        have HS := Lib.hid hs
        have hs4 : s ≤ 4 := by omega
        clear hfd hf4 hz hlt hfp hs HDL
        go_upto_region 10 with (first
          | (refine wpList_load_row_g rfl 66 (.tmp 9) rfl b9 rfl 66 _ (0, 0) _ (by first | exact ((mid_bx _ _ _).inv HM2.out).1.2.1 | exact ((mid_bx _ _ _).inv HM1.out).1.2.1 | exact ((mid_bx _ _ _).inv HM.out).1.2.1) Tryz.underlying66 rfl HCI.out ?_)
          | (go_at_call 25; refine (HDN.out _).mono ?_; rintro e y1 ⟨rfl, hb⟩; have HM1 := Lib.hid ((mid_bx _ _ _).keep HM.out hb); clear hb)
          | (go_at_call 27; refine (HFU.out _).mono ?_; rintro e y2 ⟨rfl, hb⟩; have HM2 := Lib.hid ((mid_bx _ _ _).keep HM1.out hb); clear hb)
          | (go_at_call 28; refine (HLA.out _).mono ?_; rintro e y3 ⟨rfl, hb⟩; have HM3 := Lib.hid ((mid_bx _ _ _).keep HM2.out hb); clear hb))
        clear k2 HM HM1 HM2 HDN HFU HLA
        go_upto_region 11 with (first
          | (refine wpList_load_row rfl 193 (.tmp 11) rfl b11 rfl 193 _ (0, 0) _ ((mid_bx _ _ _).is HM3.out) Tryz.underlying193 rfl HTT.out.2.2.1 ?_)
          | (go_at_call 111; refine (cl_dstep HM3.out HQ.out HFP.out).mono ?_; rintro e y4 ⟨t2, ds2, far2, hf2, rfl, hm⟩; have HF2 := Lib.hid hf2; have HT2 := Lib.hid (ms_t hm); have HM4 := Lib.hid hm; clear hf2 hm)
          | (refine wpList_store_row rfl 193 (.tmp 11) (.tmp 72) rfl b11 t2 rfl rfl 193 _ ((mid_bx _ _ _).is HM4.out) HT2.out.2.2 (by rw [HTT.out.1, HT2.out.1]) HT2.out.2.1 ?_; have HM5 := Lib.hid ((mid_bx _ _ _).row HM4.out t2); generalize World.setRow _ _ _ = y5 at *))
        clear HM3 HM4 HTT
        go_upto_region 12 with (first
          | (refine wpList_load_row rfl 66 (.tmp 9) rfl b9 rfl 66 _ (0, 0) _ ((mid_bx _ _ _).inv HM5.out).1.2.1 Tryz.underlying66 rfl HCI.out ?_)
          | (go_at_call 26; refine (cl_cstep HM5.out HQ.out).mono ?_; rintro e y6 ⟨c2, rfl, hm⟩; have HC2 := Lib.hid (cl_c hm).1; have HCI2 := Lib.hid (cl_info82 HC2.out.1); have HM6 := Lib.hid hm; clear hm)
          | (refine wpList_alloc_cl rfl rfl ?_; intro zs hz; have HZ := Lib.hid hz; have HM7 := Lib.hid ((mid_bx _ _ _).new zs 66 HM6.out); generalize y6.alloc (.cells zs 66) = y7 at *; generalize y6.heap.size = b14 at *; clear hz)
          | (refine wpList_store_row rfl 66 (.tmp 14) (.tmp 77) rfl b14 c2 rfl rfl 66 _ ((mid_bx _ _ _).is HM7.out) HCI2.out (by rw [HC2.out.1]; exact HZ.out) HC2.out.2 ?_; have HM8 := Lib.hid ((mid_bx _ _ _).row HM7.out c2); generalize World.setRow _ _ _ = y8 at *))
        clear HM5 HM6 HM7
        go_wp2_with (first
          | (go_at_call 44; refine (is_same (ErrAt.none _)).mono ?_; rintro e y9 ⟨rfl, rfl⟩)
          | (refine wpList_load_row rfl 66 (.tmp 14) rfl b14 rfl 66 _ (0, 0) _ ((mid_bx _ _ _).is HM8.out) Tryz.underlying66 rfl HCI2.out ?_)
          | (refine wpList_store_row rfl 66 (.tmp 9) (.tmp 87) rfl b9 c2 rfl rfl 66 _ ((mid_bx _ _ _).inv HM8.out).1.1.2.1 HCI2.out (by rw [HC.out.1, HC2.out.1]) HC2.out.2 ?_; have HM9 := Lib.hid ((mid_bx _ _ _).swap ((mid_bx _ _ _).row ((mid_bx _ _ _).swap ((mid_bx _ _ _).drop HM8.out)) c2)); generalize World.setRow _ _ _ = y10 at *))
        exact ⟨⟨rfl, s + 1, by go_num, Lib.hid ⟨c2, t2, ds2, far2, by have := HS.out; have := HF2.out; omega, HM9.out⟩⟩, by have := HS.out; have := HFP.out; simp [intOf]; omega⟩
      · have hf0 : far1 = 0 := hfd.2 hlt
        have dlt : decide (ds1 < 5) = false := decide_eq_false hlt
        rw [decide_eq_true hf0] at HDN
        have e6 : decide (ds1 = 6) = (ds1 == 6) := by rw [Bool.eq_iff_iff]; simp
        rw [e6] at HFU
        clear hfd hf4 hz hlt hs e6
        go_wp2_with fail
        have n2 : ∀ x : Later wr, x.to.cell? ⟨b11, 2, none⟩ = some (.int .i64 ds1) := fun x => keepc x.below k2
        have L9 : Hid (∀ w, (∃ x : Later wr, w = x.to) → w.heap[b9]? = some (.cells c1 66 (0, 0))) := Lib.hid fun w ⟨x, hx⟩ => hx ▸ ((mid_bx _ _ _).inv ((mid_bx _ _ _).keep HM.out x.below)).1.2.1
        have L11 : Hid (∀ w, (∃ x : Later wr, w = x.to) → w.heap[b11]? = some (.cells t1 193 (0, 0))) := Lib.hid fun w ⟨x, hx⟩ => hx ▸ (mid_bx _ _ _).is ((mid_bx _ _ _).keep HM.out x.below)
        have QD : Hid (∀ x : Later wr, Calls Tryz.prog 25 #[.agg c1] x.to fun e w'' => e = .returned (.bool true) ∧ ∃ y : Later wr, w'' = y.to) := Lib.hid fun x => (HDN.out x.to).mono fun e w h => ⟨h.1, ⟨w, bthen x.below h.2⟩, rfl⟩
        have QF : Hid (∀ x : Later wr, Calls Tryz.prog 27 #[.agg c1] x.to fun e w'' => e = .returned (.bool (ds1 == 6)) ∧ ∃ y : Later wr, w'' = y.to) := Lib.hid fun x => (HFU.out x.to).mono fun e w h => ⟨h.1, ⟨w, bthen x.below h.2⟩, rfl⟩
        have QL : Hid (∀ x : Later wr, Calls Tryz.prog 28 #[.agg c1] x.to fun e w'' => e = .returned (.int .i64 z1) ∧ ∃ y : Later wr, w'' = y.to) := Lib.hid fun x => (HLA.out x.to).mono fun e w h => ⟨h.1, ⟨w, bthen x.below h.2⟩, rfl⟩
        have QR : Hid (∀ x : Later wr, Calls Tryz.prog 112 #[.agg t1] x.to fun e w'' => e = .returned (.int .i64 z1) ∧ ∃ y : Later wr, w'' = y.to) := Lib.hid fun x => (HDL.out x.to).mono fun e w h => ⟨h.1, ⟨w, bthen x.below h.2⟩, rfl⟩
        clear HDN HFU HLA HDL
        refine wp_region_later (by kernel_rfl) (by kernel_rfl) ?_
        repeat (first
          | (go_big_quiet_want; refine quiet_load_rowG 66 (.tmp 9) rfl b9 rfl 66 c1 (0, 0) _ L9.out Tryz.underlying66 rfl HCI.out ?_; go_big_quiet_on; go_frame)
          | (go_big_quiet_want; refine quiet_load_rowG 193 (.tmp 11) rfl b11 rfl 193 t1 (0, 0) _ L11.out Tryz.underlying193 rfl HTT.out.2.2.1 ?_; go_big_quiet_on; go_frame)
          | go_big_quiet_step ((first
            | (go_at_call 25; exact QD.out _)
            | (go_at_call 27; exact QF.out _)
            | (go_at_call 28; exact QL.out _)
            | (go_at_call 112; exact QR.out _))))
        refine wpQuiet_nil ?_
        intro w7 hw'
        obtain ⟨⟨w7', hb7⟩, hw7⟩ := hw'
        obtain rfl : w7 = w7' := hw7
        go_wp2_with fail
        go_ret
        exact ⟨by simp, (mid_bx _ _ _).drop ((mid_bx _ _ _).drop ((mid_bx _ _ _).keep (cl_over HM.out) hb7))⟩
end
end Go.Proofs.YtdfcfdcekdmcmaaGreat
