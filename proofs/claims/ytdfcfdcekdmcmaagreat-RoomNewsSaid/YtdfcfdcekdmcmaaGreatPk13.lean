/-
  A step of a claim of package multi: the cursor's cell is swapped; by contract. Conditions: the cell is there; fewer than 2^62 steps.
-/
import Derived.Test.YtdfcfdcekdmcmaaGreatPk08
set_option linter.unusedVariables false
set_option linter.unusedSimpArgs false
namespace Go.Proofs.YtdfcfdcekdmcmaaGreat
open Go.RowKit
theorem M2.swapped {R : Rest} {W0 w : World} {s : Sh} {ids xs : List Int} {sw st : Int} {b : Nat} {ts zs : Array Value} (h : M2 R W0 w s ids sw xs st b ts zs) (x : Int) : M2 R W0 (w.setCell ⟨s.p, 38, none⟩ (.int .i64 x)) s ids x xs st b ts zs := by
  obtain ⟨cs, h1, h2⟩ := h.ms.blk
  exact ⟨h.ms.own ((Frm.refl (fun k => k = s.p) w).setCell (p := ⟨s.p, 38, none⟩) rfl _) (obj_setCell _ h2) (h1.swapped x), h.z, h.low, h.np⟩
set_option maxHeartbeats 2000000 in
set_option maxRecDepth 100000 in
theorem tswap_yes {ts : Array Value} {R : Rest} {W0 W : World} {s : Sh} {ids xs : List Int} {sw st : Int} {t : Tr} (h : TyF ts s.p t) (hm : Ms R W0 W s ids sw xs st) (hx : xs[s.cur]? = some t.had) (h0 : 0 ≤ st) (h1 : st < 4611686018427387904) :
    Calls Tryz.prog 153 #[.agg ts] W fun e w' => ∃ ts', e = .returned (.tuple #[.agg ts', .nilIface]) ∧ TyF ts' s.p { t with stg := 6 } ∧ Ms R W0 w' s ids t.last (xs.set s.cur t.last) (st + 1) := by
  have HT := Lib.hid h
  have HX := Lib.hid hx
  have HS := Lib.hid (M2.start hm ts)
  have HF := Lib.hid (h.stg 6)
  have HFI := Lib.hid HF.out.info
  clear h hm hx
  go_enter Tryz.func153, Tryz.ntmps153
  go_wp2_with (refine wpList_alloc_try rfl rfl ?_; intro zs hz; have H1 := Lib.hid (HS.out zs hz); generalize (W.alloc (.cells ts 64)).alloc (.cells zs 64) = w1 at *)
  have k0 : w1.cell? ⟨W.heap.size, 0, none⟩ = some (.pointer (some ⟨s.p, 0, none⟩)) := (H1.out.cell 0).trans HT.out.c0
  have k1 := H1.out.ms.c.c0
  have k2 := H1.out.ms.c.c2
  have k3 : w1.cell? ⟨W.heap.size, 3, none⟩ = some (.int .i64 t.had) := (H1.out.cell 3).trans HT.out.c3
  have k4 : w1.cell? ⟨W.heap.size, 4, none⟩ = some (.int .i64 t.last) := (H1.out.cell 4).trans HT.out.c4
  generalize W.heap.size = b at *
  clear HS
  go_region_held3 (fun w' => w'.cell? ⟨b, 0, none⟩ = some (.pointer (some ⟨s.p, 0, none⟩)) ∧ w'.cell? ⟨s.p, 0, none⟩ = some (.pointer (some ⟨s.b, 0, none⟩)) ∧ w'.cell? ⟨s.p, 2, none⟩ = some (.int .i64 s.cur) ∧ w'.cell? ⟨b, 3, none⟩ = some (.int .i64 t.had) ∧ w'.cell? ⟨b, 4, none⟩ = some (.int .i64 t.last)) (first
      | exact ⟨by assumption, by assumption, by assumption, by assumption, by assumption⟩
      | exact ⟨by go_simp, by go_simp, by go_simp, by go_simp, by go_simp⟩) (first
      | (go_at_call 168; refine (swapy_s (H1.out.keep (Below.drew (Below.refl _ _))).ms s.cur t.had t.last HX.out h0 h1).mono ?_; rintro e w2 ⟨rfl, hm2⟩; have H2 := Lib.hid (M2.mk hm2 H1.out.z H1.out.low H1.out.np); have j0 := (H2.out.cell 0).trans HT.out.c0; have j1 := hm2.c.c0; have j2 := hm2.c.c2; have j3 := (H2.out.cell 3).trans HT.out.c3; have j4 := (H2.out.cell 4).trans HT.out.c4; clear hm2))
  clear k0 k1 k2 k3 k4 j0 j1 j2 j3 j4
  have c0 := (H2.out.cell 0).trans HT.out.c0
  have c4 := (H2.out.cell 4).trans HT.out.c4
  have p38 := H2.out.ms.c.c38
  have q38 := H2.out.ms.f 38
  have H3 := Lib.hid (H2.out.swapped t.last)
  have c2 := (H3.out.cell 2).trans HT.out.c2
  have f2 := H3.out.free 2
  have H4 := Lib.hid (H3.out.set 2 (.int .i64 6))
  go_wp2_with (first
    | (refine wpList_load_row rfl 64 (.tmp 1) rfl b rfl 64 _ (0, 0) _ H4.out.t Tryz.underlying64 rfl HFI.out ?_)
    | (refine wpList_store_row rfl 64 (.tmp 2) (.tmp 42) rfl (b + 1) _ rfl rfl 64 _ H4.out.r HFI.out (by rw [HF.out.size]; exact H4.out.z) HF.out.one ?_))
  exact bodyPost_ret (results_row_fault (p := 2) (u := 3) (by kernel_rfl) _ _ (b + 1) 64 _ (0, 0) _ _ rfl rfl (H4.out.out _).1 Tryz.underlying64 rfl HFI.out) rfl ⟨_, rfl, HF.out, (H4.out.out _).2⟩
set_option maxHeartbeats 2000000 in
set_option maxRecDepth 100000 in
theorem tswap_no {ts : Array Value} {R : Rest} {W0 W : World} {s : Sh} {ids xs : List Int} {sw st c : Int} {t : Tr} (h : TyF ts s.p t) (hm : Ms R W0 W s ids sw xs st) (hx : xs[s.cur]? = some c) (hne : (c == t.had) = false) (h0 : 0 ≤ st) (h1 : st < 4611686018427387904) :
    Calls Tryz.prog 153 #[.agg ts] W fun e w' => ∃ ts', e = .returned (.tuple #[.agg ts', .nilIface]) ∧ TyF ts' s.p (tr0 t.n) ∧ Ms R W0 w' s ids sw xs (st + 1) := by
  have HT := Lib.hid h
  have HX := Lib.hid hx
  have HNE := Lib.hid hne
  clear hne
  have HS := Lib.hid (M2.start hm ts)
  clear h hm hx
  go_enter Tryz.func153, Tryz.ntmps153
  go_wp2_with (refine wpList_alloc_try rfl rfl ?_; intro zs hz; have H1 := Lib.hid (HS.out zs hz); generalize (W.alloc (.cells ts 64)).alloc (.cells zs 64) = w1 at *)
  have k0 : w1.cell? ⟨W.heap.size, 0, none⟩ = some (.pointer (some ⟨s.p, 0, none⟩)) := (H1.out.cell 0).trans HT.out.c0
  have k1 := H1.out.ms.c.c0
  have k2 := H1.out.ms.c.c2
  have k3 : w1.cell? ⟨W.heap.size, 3, none⟩ = some (.int .i64 t.had) := (H1.out.cell 3).trans HT.out.c3
  have k4 : w1.cell? ⟨W.heap.size, 4, none⟩ = some (.int .i64 t.last) := (H1.out.cell 4).trans HT.out.c4
  generalize W.heap.size = b at *
  clear HS
  go_region_held3 (fun w' => w'.cell? ⟨b, 0, none⟩ = some (.pointer (some ⟨s.p, 0, none⟩)) ∧ w'.cell? ⟨s.p, 0, none⟩ = some (.pointer (some ⟨s.b, 0, none⟩)) ∧ w'.cell? ⟨s.p, 2, none⟩ = some (.int .i64 s.cur) ∧ w'.cell? ⟨b, 3, none⟩ = some (.int .i64 t.had) ∧ w'.cell? ⟨b, 4, none⟩ = some (.int .i64 t.last)) (first
      | exact ⟨by assumption, by assumption, by assumption, by assumption, by assumption⟩
      | exact ⟨by go_simp, by go_simp, by go_simp, by go_simp, by go_simp⟩) (first
      | (go_at_call 168; refine (swapn_s (H1.out.keep (Below.drew (Below.refl _ _))).ms s.cur t.had c t.last HX.out HNE.out h0 h1).mono ?_; rintro e w2 ⟨rfl, hm2⟩; have H2 := Lib.hid (M2.mk hm2 H1.out.z H1.out.low H1.out.np); have j0 := (H2.out.cell 0).trans HT.out.c0; have j1 := hm2.c.c0; have j2 := hm2.c.c2; have j3 := (H2.out.cell 3).trans HT.out.c3; have j4 := (H2.out.cell 4).trans HT.out.c4; clear hm2))
  clear k0 k1 k2 k3 k4 j0 j1 j2 j3 j4
  have c0 := (H2.out.cell 0).trans HT.out.c0
  have c1 := (H2.out.cell 1).trans HT.out.c1
  go_wp2_with (first
    | (go_at_call 124; refine (manew _ _ _).mono ?_; rintro e w3 ⟨ts', rfl, hn, hb⟩; have H3 := Lib.hid (H2.out.keep hb); have HF := Lib.hid hn; have HFI := Lib.hid hn.info; clear hn hb)
    | (refine wpList_store_row rfl 64 (.tmp 2) (.tmp 34) rfl (b + 1) _ rfl rfl 64 _ H3.out.r HFI.out (by rw [HF.out.size]; exact H3.out.z) HF.out.one ?_))
  exact bodyPost_ret (results_row_fault (p := 2) (u := 3) (by kernel_rfl) _ _ (b + 1) 64 _ (0, 0) _ _ rfl rfl (H3.out.out _).1 Tryz.underlying64 rfl HFI.out) rfl ⟨_, rfl, HF.out, (H3.out.out _).2⟩
end Go.Proofs.YtdfcfdcekdmcmaaGreat
