/-
  A step of a claim of package multi, whatever is next, by contract. Conditions: what each step's own text names.
-/
import Derived.Test.YtdfcfdcekdmcmaaGreatPk09
import Derived.Test.YtdfcfdcekdmcmaaGreatPk10
import Derived.Test.YtdfcfdcekdmcmaaGreatPk11
import Derived.Test.YtdfcfdcekdmcmaaGreatPk12
import Derived.Test.YtdfcfdcekdmcmaaGreatPk13
set_option linter.unusedVariables false
set_option linter.unusedSimpArgs false
namespace Go.Proofs.YtdfcfdcekdmcmaaGreat
open Go.RowKit
def Did (R : Rest) (W0 : World) (s : Sh) (ids xs : List Int) (sw st : Int) (t : Tr) (e : Ending) (w : World) : Prop :=
  ∃ ts', e = .returned (.tuple #[.agg ts', .nilIface]) ∧ TyF ts' s.p t ∧ Ms R W0 w s ids sw xs st
set_option maxHeartbeats 2000000 in
set_option maxRecDepth 100000 in
theorem tnext_1 {ts : Array Value} {R : Rest} {W0 W : World} {s : Sh} {ids xs xs' : List Int} {sw sw' st st' : Int} {t t' : Tr} (h : TyF ts s.p t) (hk : t.stg = 1) (hm : Ms R W0 W s ids sw xs st)
    (hc : ∀ (R : Rest) (W : World), Ms R W0 W s ids sw xs st → Calls Tryz.prog 149 #[.agg ts] W (Did R W0 s ids xs' sw' st' t')) :
    Calls Tryz.prog 128 #[.agg ts] W (Did R W0 s ids xs' sw' st' t') := by
  have HT := Lib.hid h
  have HTI := Lib.hid h.info
  have HS := Lib.hid (M2.start hm ts)
  have HC := Lib.hid hc
  have c2' := h.c2
  rw [hk] at c2'
  have HC2 := Lib.hid c2'
  clear h hm hc hk c2'
  go_enter Tryz.func128, Tryz.ntmps128
  go_wp2_with (first
    | (refine wpList_alloc_try rfl rfl ?_; intro zs hz; have H1 := Lib.hid (HS.out zs hz); have c2 := (H1.out.cell 2).trans HC2.out; generalize (W.alloc (.cells ts 64)).alloc (.cells zs 64) = w1 at *)
    | (refine wpList_load_row rfl 64 (.tmp 1) rfl W.heap.size rfl 64 _ (0, 0) _ H1.out.t Tryz.underlying64 rfl HTI.out ?_)
    | (go_at_call 149; refine (HC.out _ _ H1.out.ms).mono ?_; rintro e w2 ⟨ts', rfl, hf, hm2⟩; have H2 := Lib.hid (M2.mk hm2 H1.out.z H1.out.low H1.out.np); have HF := Lib.hid hf; have HFI := Lib.hid hf.info; clear hm2 hf)
    | (refine wpList_store_row rfl 64 (.tmp 2) (.tmp 11) rfl (W.heap.size + 1) _ rfl rfl 64 _ H2.out.r HFI.out (by rw [HF.out.size]; exact H2.out.z) HF.out.one ?_))
  exact bodyPost_ret (results_row_fault (p := 2) (u := 3) (by kernel_rfl) _ _ (W.heap.size + 1) 64 _ (0, 0) _ _ rfl rfl (H2.out.out _).1 Tryz.underlying64 rfl HFI.out) rfl ⟨_, rfl, HF.out, (H2.out.out _).2⟩
set_option maxHeartbeats 2000000 in
set_option maxRecDepth 100000 in
theorem tnext_2 {ts : Array Value} {R : Rest} {W0 W : World} {s : Sh} {ids xs xs' : List Int} {sw sw' st st' : Int} {t t' : Tr} (h : TyF ts s.p t) (hk : t.stg = 2) (hm : Ms R W0 W s ids sw xs st)
    (hc : ∀ (R : Rest) (W : World), Ms R W0 W s ids sw xs st → Calls Tryz.prog 150 #[.agg ts] W (Did R W0 s ids xs' sw' st' t')) :
    Calls Tryz.prog 128 #[.agg ts] W (Did R W0 s ids xs' sw' st' t') := by
  have HT := Lib.hid h
  have HTI := Lib.hid h.info
  have HS := Lib.hid (M2.start hm ts)
  have HC := Lib.hid hc
  have c2' := h.c2
  rw [hk] at c2'
  have HC2 := Lib.hid c2'
  clear h hm hc hk c2'
  go_enter Tryz.func128, Tryz.ntmps128
  go_wp2_with (first
    | (refine wpList_alloc_try rfl rfl ?_; intro zs hz; have H1 := Lib.hid (HS.out zs hz); have c2 := (H1.out.cell 2).trans HC2.out; generalize (W.alloc (.cells ts 64)).alloc (.cells zs 64) = w1 at *)
    | (refine wpList_load_row rfl 64 (.tmp 1) rfl W.heap.size rfl 64 _ (0, 0) _ H1.out.t Tryz.underlying64 rfl HTI.out ?_)
    | (go_at_call 150; refine (HC.out _ _ H1.out.ms).mono ?_; rintro e w2 ⟨ts', rfl, hf, hm2⟩; have H2 := Lib.hid (M2.mk hm2 H1.out.z H1.out.low H1.out.np); have HF := Lib.hid hf; have HFI := Lib.hid hf.info; clear hm2 hf)
    | (refine wpList_store_row rfl 64 (.tmp 2) (.tmp 17) rfl (W.heap.size + 1) _ rfl rfl 64 _ H2.out.r HFI.out (by rw [HF.out.size]; exact H2.out.z) HF.out.one ?_))
  exact bodyPost_ret (results_row_fault (p := 2) (u := 3) (by kernel_rfl) _ _ (W.heap.size + 1) 64 _ (0, 0) _ _ rfl rfl (H2.out.out _).1 Tryz.underlying64 rfl HFI.out) rfl ⟨_, rfl, HF.out, (H2.out.out _).2⟩
set_option maxHeartbeats 2000000 in
set_option maxRecDepth 100000 in
theorem tnext_3 {ts : Array Value} {R : Rest} {W0 W : World} {s : Sh} {ids xs xs' : List Int} {sw sw' st st' : Int} {t t' : Tr} (h : TyF ts s.p t) (hk : t.stg = 3) (hm : Ms R W0 W s ids sw xs st)
    (hc : ∀ (R : Rest) (W : World), Ms R W0 W s ids sw xs st → Calls Tryz.prog 151 #[.agg ts] W (Did R W0 s ids xs' sw' st' t')) :
    Calls Tryz.prog 128 #[.agg ts] W (Did R W0 s ids xs' sw' st' t') := by
  have HT := Lib.hid h
  have HTI := Lib.hid h.info
  have HS := Lib.hid (M2.start hm ts)
  have HC := Lib.hid hc
  have c2' := h.c2
  rw [hk] at c2'
  have HC2 := Lib.hid c2'
  clear h hm hc hk c2'
  go_enter Tryz.func128, Tryz.ntmps128
  go_wp2_with (first
    | (refine wpList_alloc_try rfl rfl ?_; intro zs hz; have H1 := Lib.hid (HS.out zs hz); have c2 := (H1.out.cell 2).trans HC2.out; generalize (W.alloc (.cells ts 64)).alloc (.cells zs 64) = w1 at *)
    | (refine wpList_load_row rfl 64 (.tmp 1) rfl W.heap.size rfl 64 _ (0, 0) _ H1.out.t Tryz.underlying64 rfl HTI.out ?_)
    | (go_at_call 151; refine (HC.out _ _ H1.out.ms).mono ?_; rintro e w2 ⟨ts', rfl, hf, hm2⟩; have H2 := Lib.hid (M2.mk hm2 H1.out.z H1.out.low H1.out.np); have HF := Lib.hid hf; have HFI := Lib.hid hf.info; clear hm2 hf)
    | (refine wpList_store_row rfl 64 (.tmp 2) (.tmp 23) rfl (W.heap.size + 1) _ rfl rfl 64 _ H2.out.r HFI.out (by rw [HF.out.size]; exact H2.out.z) HF.out.one ?_))
  exact bodyPost_ret (results_row_fault (p := 2) (u := 3) (by kernel_rfl) _ _ (W.heap.size + 1) 64 _ (0, 0) _ _ rfl rfl (H2.out.out _).1 Tryz.underlying64 rfl HFI.out) rfl ⟨_, rfl, HF.out, (H2.out.out _).2⟩
set_option maxHeartbeats 2000000 in
set_option maxRecDepth 100000 in
theorem tnext_4 {ts : Array Value} {R : Rest} {W0 W : World} {s : Sh} {ids xs xs' : List Int} {sw sw' st st' : Int} {t t' : Tr} (h : TyF ts s.p t) (hk : t.stg = 4) (hm : Ms R W0 W s ids sw xs st)
    (hc : ∀ (R : Rest) (W : World), Ms R W0 W s ids sw xs st → Calls Tryz.prog 152 #[.agg ts] W (Did R W0 s ids xs' sw' st' t')) :
    Calls Tryz.prog 128 #[.agg ts] W (Did R W0 s ids xs' sw' st' t') := by
  have HT := Lib.hid h
  have HTI := Lib.hid h.info
  have HS := Lib.hid (M2.start hm ts)
  have HC := Lib.hid hc
  have c2' := h.c2
  rw [hk] at c2'
  have HC2 := Lib.hid c2'
  clear h hm hc hk c2'
  go_enter Tryz.func128, Tryz.ntmps128
  go_wp2_with (first
    | (refine wpList_alloc_try rfl rfl ?_; intro zs hz; have H1 := Lib.hid (HS.out zs hz); have c2 := (H1.out.cell 2).trans HC2.out; generalize (W.alloc (.cells ts 64)).alloc (.cells zs 64) = w1 at *)
    | (refine wpList_load_row rfl 64 (.tmp 1) rfl W.heap.size rfl 64 _ (0, 0) _ H1.out.t Tryz.underlying64 rfl HTI.out ?_)
    | (go_at_call 152; refine (HC.out _ _ H1.out.ms).mono ?_; rintro e w2 ⟨ts', rfl, hf, hm2⟩; have H2 := Lib.hid (M2.mk hm2 H1.out.z H1.out.low H1.out.np); have HF := Lib.hid hf; have HFI := Lib.hid hf.info; clear hm2 hf)
    | (refine wpList_store_row rfl 64 (.tmp 2) (.tmp 29) rfl (W.heap.size + 1) _ rfl rfl 64 _ H2.out.r HFI.out (by rw [HF.out.size]; exact H2.out.z) HF.out.one ?_))
  exact bodyPost_ret (results_row_fault (p := 2) (u := 3) (by kernel_rfl) _ _ (W.heap.size + 1) 64 _ (0, 0) _ _ rfl rfl (H2.out.out _).1 Tryz.underlying64 rfl HFI.out) rfl ⟨_, rfl, HF.out, (H2.out.out _).2⟩
set_option maxHeartbeats 2000000 in
set_option maxRecDepth 100000 in
theorem tnext_5 {ts : Array Value} {R : Rest} {W0 W : World} {s : Sh} {ids xs xs' : List Int} {sw sw' st st' : Int} {t t' : Tr} (h : TyF ts s.p t) (hk : t.stg = 5) (hm : Ms R W0 W s ids sw xs st)
    (hc : ∀ (R : Rest) (W : World), Ms R W0 W s ids sw xs st → Calls Tryz.prog 153 #[.agg ts] W (Did R W0 s ids xs' sw' st' t')) :
    Calls Tryz.prog 128 #[.agg ts] W (Did R W0 s ids xs' sw' st' t') := by
  have HT := Lib.hid h
  have HTI := Lib.hid h.info
  have HS := Lib.hid (M2.start hm ts)
  have HC := Lib.hid hc
  have c2' := h.c2
  rw [hk] at c2'
  have HC2 := Lib.hid c2'
  clear h hm hc hk c2'
  go_enter Tryz.func128, Tryz.ntmps128
  go_wp2_with (first
    | (refine wpList_alloc_try rfl rfl ?_; intro zs hz; have H1 := Lib.hid (HS.out zs hz); have c2 := (H1.out.cell 2).trans HC2.out; generalize (W.alloc (.cells ts 64)).alloc (.cells zs 64) = w1 at *)
    | (refine wpList_load_row rfl 64 (.tmp 1) rfl W.heap.size rfl 64 _ (0, 0) _ H1.out.t Tryz.underlying64 rfl HTI.out ?_)
    | (go_at_call 153; refine (HC.out _ _ H1.out.ms).mono ?_; rintro e w2 ⟨ts', rfl, hf, hm2⟩; have H2 := Lib.hid (M2.mk hm2 H1.out.z H1.out.low H1.out.np); have HF := Lib.hid hf; have HFI := Lib.hid hf.info; clear hm2 hf)
    | (refine wpList_store_row rfl 64 (.tmp 2) (.tmp 35) rfl (W.heap.size + 1) _ rfl rfl 64 _ H2.out.r HFI.out (by rw [HF.out.size]; exact H2.out.z) HF.out.one ?_))
  exact bodyPost_ret (results_row_fault (p := 2) (u := 3) (by kernel_rfl) _ _ (W.heap.size + 1) 64 _ (0, 0) _ _ rfl rfl (H2.out.out _).1 Tryz.underlying64 rfl HFI.out) rfl ⟨_, rfl, HF.out, (H2.out.out _).2⟩
set_option maxHeartbeats 2000000 in
set_option maxRecDepth 100000 in
theorem tnext_done {ts : Array Value} {R : Rest} {W0 W : World} {s : Sh} {ids xs : List Int} {sw st : Int} {t : Tr} (h : TyF ts s.p t) (hk : t.stg = 6 ∨ t.stg = 7) (hm : Ms R W0 W s ids sw xs st) :
    Calls Tryz.prog 128 #[.agg ts] W (Did R W0 s ids xs sw st t) := by
  have HT := Lib.hid h
  have HTI := Lib.hid h.info
  have HS := Lib.hid (M2.start hm ts)
  obtain ⟨x, hx, hx2⟩ : ∃ x, ts[2]? = some (.int .i64 x) ∧ (x = 6 ∨ x = 7) := ⟨_, h.c2, hk⟩
  have HC2 := Lib.hid hx
  clear h hm hk hx
  rcases hx2 with rfl | rfl
  all_goals
    go_enter Tryz.func128, Tryz.ntmps128
    go_wp2_with (first
      | (refine wpList_alloc_try rfl rfl ?_; intro zs hz; have H1 := Lib.hid (HS.out zs hz); have c2 := (H1.out.cell 2).trans HC2.out; generalize (W.alloc (.cells ts 64)).alloc (.cells zs 64) = w1 at *)
      | (refine wpList_load_row rfl 64 (.tmp 1) rfl W.heap.size rfl 64 _ (0, 0) _ H1.out.t Tryz.underlying64 rfl HTI.out ?_)
      | (refine wpList_store_row rfl 64 (.tmp 2) (.tmp 6) rfl (W.heap.size + 1) _ rfl rfl 64 _ H1.out.r HTI.out (by rw [HT.out.size]; exact H1.out.z) HT.out.one ?_))
    exact bodyPost_ret (results_row_fault (p := 2) (u := 3) (by kernel_rfl) _ _ (W.heap.size + 1) 64 _ (0, 0) _ _ rfl rfl (H1.out.out _).1 Tryz.underlying64 rfl HTI.out) rfl ⟨_, rfl, HT.out, (H1.out.out _).2⟩
section
variable {R : Rest} {W0 W w w' : World} {s : Sh} {ids xs : List Int} {sw st : Int} {b : Nat} {ts zs : Array Value}
theorem M2.third {nb : Nat} {cs : Array Value} (h : M2 R W0 w s ids sw xs st b ts zs) (hn : w.heap[nb]? = some (.cells cs 64 (0, 0))) (hb : b + 1 < nb) (hf : Frm (fun k => k = nb) w w') : M2 R W0 w' s ids sw xs st b ts zs := by
  have ht := h.t
  have hr := h.r
  refine ⟨h.ms.turn hf (fun g o ho e => ?_) (fun g hg => .inl hg) ⟨⟨?_, hf.obj ht (by omega)⟩, hf.obj hr (by omega)⟩, h.z, h.low, h.np⟩
  · subst e
    rw [hn] at ho
    cases ho
    exact ⟨by have := h.low; omega, _, _, _, rfl, by decide, by decide, by decide, by decide⟩
  · exact R.ok _ _ h.ms.inv.1.1 fun k hk => hf.block k (Nat.lt_trans (h.np k hk) (lt_of_block ht)) (by have := h.np k hk; omega)
end
set_option maxHeartbeats 2000000 in
set_option maxRecDepth 100000 in
theorem tstep_of {ts : Array Value} {R : Rest} {W0 W : World} {s : Sh} {ids xs xs' : List Int} {sw sw' st st' : Int} {t t' : Tr} (h : TyF ts s.p t) (hm : Ms R W0 W s ids sw xs st)
    (hc : ∀ (R : Rest) (W : World), Ms R W0 W s ids sw xs st → Calls Tryz.prog 128 #[.agg ts] W (Did R W0 s ids xs' sw' st' t')) :
    Calls Tryz.prog 85 #[.agg ts] W (Did R W0 s ids xs' sw' st' t') := by
  have HT := Lib.hid h
  have HTI := Lib.hid h.info
  have HS := Lib.hid (M2.start hm ts)
  have HC := Lib.hid hc
  clear h hm hc
  go_enter Tryz.func85, Tryz.ntmps85
  go_wp2_with (first
    | (refine wpList_alloc_try (o := ⟨some 2, _, _, _, _, _⟩) rfl rfl ?_; intro zs hz; have H1 := Lib.hid (HS.out zs hz); generalize (W.alloc (.cells ts 64)).alloc (.cells zs 64) = w1 at *)
    | (refine wpList_load_row rfl 64 (.tmp 1) rfl W.heap.size rfl 64 _ (0, 0) _ H1.out.t Tryz.underlying64 rfl HTI.out ?_)
    | (go_at_call 128; refine (HC.out _ _ H1.out.ms).mono ?_; rintro e w2 ⟨ts', rfl, hf, hm2⟩; have H2 := Lib.hid (M2.mk hm2 H1.out.z H1.out.low H1.out.np); have HF := Lib.hid hf; have HFI := Lib.hid hf.info; clear hm2 hf)
    | (refine wpList_alloc_try (o := ⟨some 4, _, _, _, _, _⟩) rfl rfl ?_; intro zs2 hz2; have H3 := Lib.hid (H2.out.keep (balloc (Below.refl _ _) (.cells zs2 64))); have HN3 := Lib.hid (obj_new w2 (.cells zs2 64)); have HB3 := Lib.hid (M2.newer H2.out); generalize w2.heap.size = nb at *; generalize w2.alloc (.cells zs2 64) = w3 at *)
    | (refine wpList_store_row rfl 64 (.tmp 4) (.tmp 9) rfl nb _ rfl rfl 64 _ HN3.out HFI.out (by rw [HF.out.size]; exact hz2) HF.out.one ?_; have H4 := Lib.hid (H3.out.third HN3.out HB3.out ((Frm.refl (fun k => k = nb) _).setRow rfl ts')); have HN4 := Lib.hid (setRow_heap _ nb _ ts' _ _ HN3.out); generalize w3.setRow nb ts' = w4 at *)
    | (refine wpList_load_row rfl 64 (.tmp 4) rfl nb rfl 64 _ (0, 0) _ HN4.out Tryz.underlying64 rfl HFI.out ?_)
    | (refine wpList_store_row rfl 64 (.tmp 2) (.tmp 18) rfl (W.heap.size + 1) _ rfl rfl 64 _ H4.out.r HFI.out (by rw [HF.out.size]; exact H4.out.z) HF.out.one ?_))
  exact bodyPost_ret (results_row_fault (p := 2) (u := 3) (by kernel_rfl) _ _ (W.heap.size + 1) 64 _ (0, 0) _ _ rfl rfl (H4.out.out _).1 Tryz.underlying64 rfl HFI.out) rfl ⟨_, rfl, HF.out, (H4.out.out _).2⟩
end Go.Proofs.YtdfcfdcekdmcmaaGreat
