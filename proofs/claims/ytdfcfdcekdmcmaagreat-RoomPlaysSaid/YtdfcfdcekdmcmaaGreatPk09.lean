/-
  A step of a claim of package multi: the cursor's cell is read; by contract. Conditions: the cells are there; fewer than 2^62 steps.
-/
import Derived.Test.YtdfcfdcekdmcmaaGreatPk08
set_option linter.unusedVariables false
set_option linter.unusedSimpArgs false
namespace Go.Proofs.YtdfcfdcekdmcmaaGreat
open Go.RowKit
set_option maxHeartbeats 2000000 in
set_option maxRecDepth 100000 in
theorem tbegin {ts : Array Value} {R : Rest} {W0 W : World} {s : Sh} {ids xs : List Int} {sw st c : Int} {t : Tr} (h : TyF ts s.p t) (hm : Ms R W0 W s ids sw xs st) (hx : xs[s.cur]? = some c) (hn1 : 1 ≤ t.n) (hn2 : t.n ≤ 1048576) (hc1 : -1 ≤ c) (hc2 : c ≤ 4611686018427387904 - t.n) (h0 : 0 ≤ st) (h1 : st < 4611686018427387904) :
    Calls Tryz.prog 149 #[.agg ts] W fun e w' => ∃ ts', e = .returned (.tuple #[.agg ts', .nilIface]) ∧ TyF ts' s.p { t with had := c, last := c + t.n, stg := 2 } ∧ Ms R W0 w' s ids sw xs (st + 1) := by
  have HT := Lib.hid h
  have HX := Lib.hid hx
  have HS := Lib.hid (M2.start hm ts)
  have HF := Lib.hid (((h.had c).last (c + t.n)).stg 2)
  have HFI := Lib.hid HF.out.info
  clear h hm hx
  go_enter Tryz.func149, Tryz.ntmps149
  go_wp2_with (refine wpList_alloc_try rfl rfl ?_; intro zs hz; have H1 := Lib.hid (HS.out zs hz); generalize (W.alloc (.cells ts 64)).alloc (.cells zs 64) = w1 at *)
  have k0 : w1.cell? ⟨W.heap.size, 0, none⟩ = some (.pointer (some ⟨s.p, 0, none⟩)) := (H1.out.cell 0).trans HT.out.c0
  have k1 := H1.out.ms.c.c0
  have k2 := H1.out.ms.c.c2
  generalize W.heap.size = b at *
  clear HS
  go_region_held3 (fun w' => w'.cell? ⟨b, 0, none⟩ = some (.pointer (some ⟨s.p, 0, none⟩)) ∧ w'.cell? ⟨s.p, 0, none⟩ = some (.pointer (some ⟨s.b, 0, none⟩)) ∧ w'.cell? ⟨s.p, 2, none⟩ = some (.int .i64 s.cur)) (first
      | exact ⟨by assumption, by assumption, by assumption⟩
      | exact ⟨by go_simp, by go_simp, by go_simp⟩) (first
      | (go_at_call 35; refine (load_s (H1.out.keep (Below.drew (Below.refl _ _))).ms s.cur c HX.out h0 h1).mono ?_; rintro e w2 ⟨rfl, hm2⟩; have H2 := Lib.hid (M2.mk hm2 H1.out.z H1.out.low H1.out.np); have j0 := (H2.out.cell 0).trans HT.out.c0; have j1 := hm2.c.c0; have j2 := hm2.c.c2; clear hm2))
  clear k0 k1 k2 j0 j1 j2
  have c1 := (H2.out.cell 1).trans HT.out.c1
  have c2 := (H2.out.cell 2).trans HT.out.c2
  have c3 := (H2.out.cell 3).trans HT.out.c3
  have c4 := (H2.out.cell 4).trans HT.out.c4
  have f2 := H2.out.free 2
  have f3 := H2.out.free 3
  have f4 := H2.out.free 4
  have H3 := Lib.hid (((H2.out.set 3 (.int .i64 c)).set 4 (.int .i64 (c + t.n))).set 2 (.int .i64 2))
  go_wp2_with (first
    | (go_at_call 148; refine (next_yes c t.n hn1 hn2 hc1 hc2 _).mono ?_; rintro e w' ⟨rfl, rfl⟩)
    | (refine wpList_load_row rfl 64 (.tmp 1) rfl b rfl 64 _ (0, 0) _ H3.out.t Tryz.underlying64 rfl HFI.out ?_)
    | (refine wpList_store_row rfl 64 (.tmp 2) (.tmp 37) rfl (b + 1) _ rfl rfl 64 _ H3.out.r HFI.out (by rw [HF.out.size]; exact H3.out.z) HF.out.one ?_))
  exact bodyPost_ret (results_row_fault (p := 2) (u := 3) (by kernel_rfl) _ _ (b + 1) 64 _ (0, 0) _ _ rfl rfl (H3.out.out _).1 Tryz.underlying64 rfl HFI.out) rfl ⟨_, rfl, HF.out, (H3.out.out _).2⟩
end Go.Proofs.YtdfcfdcekdmcmaaGreat
