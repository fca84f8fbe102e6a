/-
  A step of a claim of package multi: what was seen last is read; by contract. Conditions: the cells are there; fewer than 2^62 steps.
-/
import Derived.Test.YtdfcfdcekdmcmaaGreatPk08
set_option linter.unusedVariables false
set_option linter.unusedSimpArgs false
namespace Go.Proofs.YtdfcfdcekdmcmaaGreat
open Go.RowKit
set_option maxHeartbeats 2000000 in
set_option maxRecDepth 100000 in
theorem trecall_yes {ts : Array Value} {R : Rest} {W0 W : World} {s : Sh} {ids xs : List Int} {sw st c : Int} {t : Tr} (h : TyF ts s.p t) (hm : Ms R W0 W s ids sw xs st) (hx : xs[s.cch]? = some c) (hl1 : -4611686018427387905 ≤ t.last) (hl2 : t.last ≤ 4611686018427387904) (h0 : 0 ≤ st) (h1 : st < 4611686018427387904) (hy : c ≤ t.had) (he : t.last - two s.k ≤ c) :
    Calls Tryz.prog 150 #[.agg ts] W fun e w' => ∃ ts', e = .returned (.tuple #[.agg ts', .nilIface]) ∧ TyF ts' s.p ({ t with stg := 5 }) ∧ Ms R W0 w' s ids sw xs (st + 1) := by
  have HT := Lib.hid h
  have HX := Lib.hid hx
  have HS := Lib.hid (M2.start hm ts)
  have hk := hm.k20
  have HF := Lib.hid (h.stg 5)
  have HFI := Lib.hid HF.out.info
  have d1 : decide (c ≤ t.had) = true := decide_eq_true hy
  have hde : decide (t.last - two s.k ≤ c) = true := decide_eq_true he
  clear he hy
  clear h hm hx
  go_enter Tryz.func150, Tryz.ntmps150
  go_wp2_with (refine wpList_alloc_try rfl rfl ?_; intro zs hz; have H1 := Lib.hid (HS.out zs hz); generalize (W.alloc (.cells ts 64)).alloc (.cells zs 64) = w1 at *)
  have k0 : w1.cell? ⟨W.heap.size, 0, none⟩ = some (.pointer (some ⟨s.p, 0, none⟩)) := (H1.out.cell 0).trans HT.out.c0
  have k1 := H1.out.ms.c.c0
  have k2 := H1.out.ms.c.c3
  generalize W.heap.size = b at *
  clear HS
  go_region_held3 (fun w' => w'.cell? ⟨b, 0, none⟩ = some (.pointer (some ⟨s.p, 0, none⟩)) ∧ w'.cell? ⟨s.p, 0, none⟩ = some (.pointer (some ⟨s.b, 0, none⟩)) ∧ w'.cell? ⟨s.p, 3, none⟩ = some (.int .i64 s.cch)) (first
      | exact ⟨by assumption, by assumption, by assumption⟩
      | exact ⟨by go_simp, by go_simp, by go_simp⟩) (first
      | (go_at_call 35; refine (load_s (H1.out.keep (Below.drew (Below.refl _ _))).ms s.cch c HX.out h0 h1).mono ?_; rintro e w2 ⟨rfl, hm2⟩; have H2 := Lib.hid (M2.mk hm2 H1.out.z H1.out.low H1.out.np); have j0 := (H2.out.cell 0).trans HT.out.c0; have j1 := hm2.c.c0; have j2 := hm2.c.c3; clear hm2))
  clear k0 k1 k2 j0 j1 j2
  have c0 := (H2.out.cell 0).trans HT.out.c0
  have c2 := (H2.out.cell 2).trans HT.out.c2
  have c3 := (H2.out.cell 3).trans HT.out.c3
  have c4 := (H2.out.cell 4).trans HT.out.c4
  have f2 := H2.out.free 2
  go_wp2_with (first
    | (go_at_call 165; refine (menough H2.out.ms.c hk c t.last hl1 hl2).mono ?_; rintro e w3 ⟨rfl, hb⟩; rw [hde]; have H3 := Lib.hid (H2.out.keep hb); have g2 := (H3.out.cell 2).trans HT.out.c2; have e2 := H3.out.free 2; have H4 := Lib.hid (H3.out.set 2 (.int .i64 5)); clear hb)
    | (refine wpList_load_row rfl 64 (.tmp 1) rfl b rfl 64 _ (0, 0) _ H4.out.t Tryz.underlying64 rfl HFI.out ?_)
    | (refine wpList_store_row rfl 64 (.tmp 2) (.tmp 37) rfl (b + 1) _ rfl rfl 64 _ H4.out.r HFI.out (by rw [HF.out.size]; exact H4.out.z) HF.out.one ?_))
  exact bodyPost_ret (results_row_fault (p := 2) (u := 3) (by kernel_rfl) _ _ (b + 1) 64 _ (0, 0) _ _ rfl rfl (H4.out.out _).1 Tryz.underlying64 rfl HFI.out) rfl ⟨_, rfl, HF.out, (H4.out.out _).2⟩
set_option maxHeartbeats 2000000 in
set_option maxRecDepth 100000 in
theorem trecall_far {ts : Array Value} {R : Rest} {W0 W : World} {s : Sh} {ids xs : List Int} {sw st c : Int} {t : Tr} (h : TyF ts s.p t) (hm : Ms R W0 W s ids sw xs st) (hx : xs[s.cch]? = some c) (hl1 : -4611686018427387905 ≤ t.last) (hl2 : t.last ≤ 4611686018427387904) (h0 : 0 ≤ st) (h1 : st < 4611686018427387904) (hy : t.had < c) :
    Calls Tryz.prog 150 #[.agg ts] W fun e w' => ∃ ts', e = .returned (.tuple #[.agg ts', .nilIface]) ∧ TyF ts' s.p (judgeT (two s.k) { t with ids := ids, seen := 0, least := t.had }) ∧ Ms R W0 w' s ids sw xs (st + 1) := by
  have HT := Lib.hid h
  have HX := Lib.hid hx
  have HS := Lib.hid (M2.start hm ts)
  have hk := hm.k20
  have d1 : decide (c ≤ t.had) = false := decide_eq_false (by omega)
  clear hy
  clear h hm hx
  go_enter Tryz.func150, Tryz.ntmps150
  go_wp2_with (refine wpList_alloc_try rfl rfl ?_; intro zs hz; have H1 := Lib.hid (HS.out zs hz); generalize (W.alloc (.cells ts 64)).alloc (.cells zs 64) = w1 at *)
  have k0 : w1.cell? ⟨W.heap.size, 0, none⟩ = some (.pointer (some ⟨s.p, 0, none⟩)) := (H1.out.cell 0).trans HT.out.c0
  have k1 := H1.out.ms.c.c0
  have k2 := H1.out.ms.c.c3
  generalize W.heap.size = b at *
  clear HS
  go_region_held3 (fun w' => w'.cell? ⟨b, 0, none⟩ = some (.pointer (some ⟨s.p, 0, none⟩)) ∧ w'.cell? ⟨s.p, 0, none⟩ = some (.pointer (some ⟨s.b, 0, none⟩)) ∧ w'.cell? ⟨s.p, 3, none⟩ = some (.int .i64 s.cch)) (first
      | exact ⟨by assumption, by assumption, by assumption⟩
      | exact ⟨by go_simp, by go_simp, by go_simp⟩) (first
      | (go_at_call 35; refine (load_s (H1.out.keep (Below.drew (Below.refl _ _))).ms s.cch c HX.out h0 h1).mono ?_; rintro e w2 ⟨rfl, hm2⟩; have H2 := Lib.hid (M2.mk hm2 H1.out.z H1.out.low H1.out.np); have j0 := (H2.out.cell 0).trans HT.out.c0; have j1 := hm2.c.c0; have j2 := hm2.c.c3; clear hm2))
  clear k0 k1 k2 j0 j1 j2
  have c0 := (H2.out.cell 0).trans HT.out.c0
  have c2 := (H2.out.cell 2).trans HT.out.c2
  have c3 := (H2.out.cell 3).trans HT.out.c3
  have c4 := (H2.out.cell 4).trans HT.out.c4
  have f2 := H2.out.free 2
  go_wp2
  have H3 := Lib.hid H2.out
  generalize w2 = w3 at *
  clear c0 c2 c3 c4 f2 d1
  have n0 : ∀ x : Later w3, x.to.cell? ⟨b, 0, none⟩ = some (.pointer (some ⟨s.p, 0, none⟩)) := fun x => ((H3.out.keep x.below).cell 0).trans HT.out.c0
  have n3 : ∀ x : Later w3, x.to.cell? ⟨b, 3, none⟩ = some (.int .i64 t.had) := fun x => ((H3.out.keep x.below).cell 3).trans HT.out.c3
  have HSC : Hid (∀ x : Later w3, Calls Tryz.prog 155 #[.pointer (some ⟨s.p, 5, none⟩), .int .i64 t.had] x.to fun e w'' => e = .returned (.agg (scC ids 0 t.had)) ∧ ∃ y : Later w3, w'' = y.to) := fun x => by
    obtain ⟨cs, q1, q2⟩ := (H3.out.keep x.below).ms.blk
    exact (gscan_q q2 q1.gr t.had).mono fun e w h => ⟨h.1, ⟨w, bthen x.below h.2⟩, rfl⟩
  have HSF : Hid (Sc (scC ids 0 t.had) ids 0 t.had) := by
    obtain ⟨cs, q1, q2⟩ := H3.out.ms.blk
    exact sc_of q1.gr.len 0 t.had
  generalize scC ids 0 t.had = cs at *
  have HSI := Lib.hid HSF.out.info
  have HF := Lib.hid (HT.out.scan HSF.out)
  have HFI := Lib.hid HF.out.info
  refine wp_region_later_tail 8 (by kernel_rfl) (by kernel_rfl) ?_
  simp only [List.take_succ_cons, List.take_zero, List.drop_succ_cons, List.drop_zero]
  repeat (go_big_quiet_step ((go_at_call 155; exact HSC.out _)))
  refine wpQuiet_nil ?_
  intro w4 hw'
  obtain ⟨⟨w4', hb4⟩, hw4⟩ := hw'
  obtain rfl : w4 = w4' := hw4
  have H4 := Lib.hid (H3.out.keep hb4)
  have HTH := Lib.hid (H4.out.there HT.out.size)
  clear n0 n3 hb4
  go_wp2_with (first
    | (refine wpList_store_mid rfl 58 (.tmp 45) (.tmp 44) rfl b 5 cs rfl rfl (by rw [HSF.out.size]; exact HTH.out) HSI.out HSF.out.one ?_; have H5 := Lib.hid (H4.out.scan HT.out.size HSF.out.size); generalize w4.setCells b 5 _ = w5 at *)
    | (refine wpList_load_row rfl 64 (.tmp 1) rfl b rfl 64 _ (0, 0) _ H5.out.t Tryz.underlying64 rfl HFI.out ?_)
    | (go_at_call 166; refine (tjudge HF.out H5.out.ms.c hk hl1 hl2).mono ?_; rintro e w6 ⟨ts', rfl, hj, hb⟩; have HJ := Lib.hid hj; have HJI := Lib.hid hj.info; have H6 := Lib.hid (H5.out.keep hb); clear hj hb)
    | (refine wpList_store_row rfl 64 (.tmp 2) (.tmp 47) rfl (b + 1) _ rfl rfl 64 _ H6.out.r HJI.out (by rw [HJ.out.size]; exact H6.out.z) HJ.out.one ?_))
  exact bodyPost_ret (results_row_fault (p := 2) (u := 3) (by kernel_rfl) _ _ (b + 1) 64 _ (0, 0) _ _ rfl rfl (H6.out.out _).1 Tryz.underlying64 rfl HJI.out) rfl ⟨_, rfl, HJ.out, (H6.out.out _).2⟩
set_option maxHeartbeats 2000000 in
set_option maxRecDepth 100000 in
theorem trecall_few {ts : Array Value} {R : Rest} {W0 W : World} {s : Sh} {ids xs : List Int} {sw st c : Int} {t : Tr} (h : TyF ts s.p t) (hm : Ms R W0 W s ids sw xs st) (hx : xs[s.cch]? = some c) (hl1 : -4611686018427387905 ≤ t.last) (hl2 : t.last ≤ 4611686018427387904) (h0 : 0 ≤ st) (h1 : st < 4611686018427387904) (hy : c ≤ t.had) (he : c < t.last - two s.k) :
    Calls Tryz.prog 150 #[.agg ts] W fun e w' => ∃ ts', e = .returned (.tuple #[.agg ts', .nilIface]) ∧ TyF ts' s.p (judgeT (two s.k) { t with ids := ids, seen := 0, least := t.had }) ∧ Ms R W0 w' s ids sw xs (st + 1) := by
  have HT := Lib.hid h
  have HX := Lib.hid hx
  have HS := Lib.hid (M2.start hm ts)
  have hk := hm.k20
  have d1 : decide (c ≤ t.had) = true := decide_eq_true hy
  have hde : decide (t.last - two s.k ≤ c) = false := decide_eq_false (by omega)
  clear he hy
  clear h hm hx
  go_enter Tryz.func150, Tryz.ntmps150
  go_wp2_with (refine wpList_alloc_try rfl rfl ?_; intro zs hz; have H1 := Lib.hid (HS.out zs hz); generalize (W.alloc (.cells ts 64)).alloc (.cells zs 64) = w1 at *)
  have k0 : w1.cell? ⟨W.heap.size, 0, none⟩ = some (.pointer (some ⟨s.p, 0, none⟩)) := (H1.out.cell 0).trans HT.out.c0
  have k1 := H1.out.ms.c.c0
  have k2 := H1.out.ms.c.c3
  generalize W.heap.size = b at *
  clear HS
  go_region_held3 (fun w' => w'.cell? ⟨b, 0, none⟩ = some (.pointer (some ⟨s.p, 0, none⟩)) ∧ w'.cell? ⟨s.p, 0, none⟩ = some (.pointer (some ⟨s.b, 0, none⟩)) ∧ w'.cell? ⟨s.p, 3, none⟩ = some (.int .i64 s.cch)) (first
      | exact ⟨by assumption, by assumption, by assumption⟩
      | exact ⟨by go_simp, by go_simp, by go_simp⟩) (first
      | (go_at_call 35; refine (load_s (H1.out.keep (Below.drew (Below.refl _ _))).ms s.cch c HX.out h0 h1).mono ?_; rintro e w2 ⟨rfl, hm2⟩; have H2 := Lib.hid (M2.mk hm2 H1.out.z H1.out.low H1.out.np); have j0 := (H2.out.cell 0).trans HT.out.c0; have j1 := hm2.c.c0; have j2 := hm2.c.c3; clear hm2))
  clear k0 k1 k2 j0 j1 j2
  have c0 := (H2.out.cell 0).trans HT.out.c0
  have c2 := (H2.out.cell 2).trans HT.out.c2
  have c3 := (H2.out.cell 3).trans HT.out.c3
  have c4 := (H2.out.cell 4).trans HT.out.c4
  have f2 := H2.out.free 2
  go_wp2_with (first
    | (go_at_call 165; refine (menough H2.out.ms.c hk c t.last hl1 hl2).mono ?_; rintro e w3 ⟨rfl, hb⟩; rw [hde]; have H3 := Lib.hid (H2.out.keep hb); clear hb))
  clear c0 c2 c3 c4 f2 d1 hde
  have n0 : ∀ x : Later w3, x.to.cell? ⟨b, 0, none⟩ = some (.pointer (some ⟨s.p, 0, none⟩)) := fun x => ((H3.out.keep x.below).cell 0).trans HT.out.c0
  have n3 : ∀ x : Later w3, x.to.cell? ⟨b, 3, none⟩ = some (.int .i64 t.had) := fun x => ((H3.out.keep x.below).cell 3).trans HT.out.c3
  have HSC : Hid (∀ x : Later w3, Calls Tryz.prog 155 #[.pointer (some ⟨s.p, 5, none⟩), .int .i64 t.had] x.to fun e w'' => e = .returned (.agg (scC ids 0 t.had)) ∧ ∃ y : Later w3, w'' = y.to) := fun x => by
    obtain ⟨cs, q1, q2⟩ := (H3.out.keep x.below).ms.blk
    exact (gscan_q q2 q1.gr t.had).mono fun e w h => ⟨h.1, ⟨w, bthen x.below h.2⟩, rfl⟩
  have HSF : Hid (Sc (scC ids 0 t.had) ids 0 t.had) := by
    obtain ⟨cs, q1, q2⟩ := H3.out.ms.blk
    exact sc_of q1.gr.len 0 t.had
  generalize scC ids 0 t.had = cs at *
  have HSI := Lib.hid HSF.out.info
  have HF := Lib.hid (HT.out.scan HSF.out)
  have HFI := Lib.hid HF.out.info
  refine wp_region_later_tail 8 (by kernel_rfl) (by kernel_rfl) ?_
  simp only [List.take_succ_cons, List.take_zero, List.drop_succ_cons, List.drop_zero]
  repeat (go_big_quiet_step ((go_at_call 155; exact HSC.out _)))
  refine wpQuiet_nil ?_
  intro w4 hw'
  obtain ⟨⟨w4', hb4⟩, hw4⟩ := hw'
  obtain rfl : w4 = w4' := hw4
  have H4 := Lib.hid (H3.out.keep hb4)
  have HTH := Lib.hid (H4.out.there HT.out.size)
  clear n0 n3 hb4
  go_wp2_with (first
    | (refine wpList_store_mid rfl 58 (.tmp 45) (.tmp 44) rfl b 5 cs rfl rfl (by rw [HSF.out.size]; exact HTH.out) HSI.out HSF.out.one ?_; have H5 := Lib.hid (H4.out.scan HT.out.size HSF.out.size); generalize w4.setCells b 5 _ = w5 at *)
    | (refine wpList_load_row rfl 64 (.tmp 1) rfl b rfl 64 _ (0, 0) _ H5.out.t Tryz.underlying64 rfl HFI.out ?_)
    | (go_at_call 166; refine (tjudge HF.out H5.out.ms.c hk hl1 hl2).mono ?_; rintro e w6 ⟨ts', rfl, hj, hb⟩; have HJ := Lib.hid hj; have HJI := Lib.hid hj.info; have H6 := Lib.hid (H5.out.keep hb); clear hj hb)
    | (refine wpList_store_row rfl 64 (.tmp 2) (.tmp 47) rfl (b + 1) _ rfl rfl 64 _ H6.out.r HJI.out (by rw [HJ.out.size]; exact H6.out.z) HJ.out.one ?_))
  exact bodyPost_ret (results_row_fault (p := 2) (u := 3) (by kernel_rfl) _ _ (b + 1) 64 _ (0, 0) _ _ rfl rfl (H6.out.out _).1 Tryz.underlying64 rfl HJI.out) rfl ⟨_, rfl, HJ.out, (H6.out.out _).2⟩
end Go.Proofs.YtdfcfdcekdmcmaaGreat
