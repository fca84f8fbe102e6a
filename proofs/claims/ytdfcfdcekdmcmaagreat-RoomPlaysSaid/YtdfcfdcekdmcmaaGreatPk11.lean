/-
  A step of a claim of package multi: one more who holds back is read; by contract. Conditions: the cell is there; fewer than 2^62 steps.
-/
import Derived.Test.YtdfcfdcekdmcmaaGreatPk08
set_option linter.unusedVariables false
set_option linter.unusedSimpArgs false
namespace Go.Proofs.YtdfcfdcekdmcmaaGreat
open Go.RowKit
set_option linter.unusedSimpArgs false
theorem oth_loaded {W w : World} {b : Nat} {v : Value} {xs : List Int} {st st' : Int} (ha : Ar W b v xs st) (h : Loaded W w b v xs st') {g : Nat} {c : Array Value} {T : TypeId} {m : Nat × Nat} (hg : W.heap[g]? = some (.cells c T m)) (hT : T ≠ 171) : w.heap[g]? = some (.cells c T m) :=
  h.2.obj hg (obj_ne hg ha.1 hT)
theorem sstep_s {R : Rest} {W0 W : World} {s : Sh} {ids xs : List Int} {sw st : Int} (hm : Ms R W0 W s ids sw xs st) {cs : Array Value} {js : List Int} {seen z : Nat} {least x : Int} (h : Sc cs js seen least) (hl : js.length ≤ 32) (hs : seen < js.length) (hz : js.getD seen 0 = z) (hx : xs[z]? = some x) (h0 : 0 ≤ st) (h1 : st < 4611686018427387904) :
    Calls Tryz.prog 154 #[.agg cs, .pointer (some ⟨s.b, 0, none⟩)] W fun e w' => ∃ cs', e = .returned (.tuple #[.agg cs', .nilIface]) ∧ Sc cs' js (seen + 1) (min least x) ∧ Ms R W0 w' s ids sw xs (st + 1) ∧ ∀ (g : Nat) (c : Array Value) (T : TypeId) (m : Nat × Nat), W.heap[g]? = some (.cells c T m) → T ≠ 171 → w'.heap[g]? = some (.cells c T m) := by
  obtain ⟨cc, k1, k2, k3, v, ha, hq, h3, h4, h5, h6⟩ := hm
  refine (sstep_ok h hl hs ha hz hx h0 h1).mono ?_
  rintro e w' ⟨cs', he, hc, hld⟩
  exact ⟨cs', he, hc, ⟨cc, k1, k2, k3, Av.step ha hq h3 h4 h5 h6 ⟨v, hld.1, hld.2.mono fun _ _ e => .inl e, .inl rfl⟩⟩, fun g c T m hg hT => oth_loaded ha hld hg hT⟩
theorem run_alloc_scan (w : World) : (Instr.alloc 58 true (.tuple #[])).run Tryz.prog w = .ok (.pointer (some ⟨w.heap.size, 0, none⟩)) (w.alloc (.cells (scC [] 0 0) 58)) := by kernel_rfl
theorem wp_alloc_scan {o : Oper} {a : Act} {w : World} {K : Act → World → Prop} {Q : Exit → Act → World → Prop} (ho : o.op = .alloc 58)
    (h : ∀ zs : Array Value, zs.size = 35 → K (a.put o.dst (.pointer (some ⟨w.heap.size, 0, none⟩))) (w.alloc (.cells zs 58))) : o.wp Tryz.prog a w K Q := by
  unfold Oper.wp execOp
  simp only [ho, Sem.run_bind, run_alloc_scan, Result.andThen_ok, Sem.run_pure]
  exact h _ (sc_of (ids := []) (by simp) 0 0).size
section
variable {R : Rest} {W0 W w w' : World} {s : Sh} {ids xs : List Int} {sw st : Int} {b : Nat} {ts zs : Array Value}
theorem M2.newer (h : M2 R W0 w s ids sw xs st b ts zs) : b + 1 < w.heap.size := lt_of_block h.r
theorem M2.other {nb : Nat} {cs : Array Value} (h : M2 R W0 w s ids sw xs st b ts zs) (hn : w.heap[nb]? = some (.cells cs 58 (0, 0))) (hb : b + 1 < nb) (hf : Frm (fun k => k = nb) w w') : M2 R W0 w' s ids sw xs st b ts zs := by
  have ht := h.t
  have hr := h.r
  refine ⟨h.ms.turn hf (fun g o ho e => ?_) (fun g hg => .inl hg) ⟨⟨?_, hf.obj ht (by omega)⟩, hf.obj hr (by omega)⟩, h.z, h.low, h.np⟩
  · subst e
    rw [hn] at ho
    cases ho
    exact ⟨by have := h.low; omega, _, _, _, rfl, by decide, by decide, by decide, by decide⟩
  · exact R.ok _ _ h.ms.inv.1.1 fun k hk => hf.block k (Nat.lt_trans (h.np k hk) (lt_of_block ht)) (by have := h.np k hk; omega)
end
set_option maxHeartbeats 4000000 in
set_option maxRecDepth 100000 in
theorem tlook {ts : Array Value} {R : Rest} {W0 W : World} {s : Sh} {ids xs : List Int} {sw st x : Int} {t : Tr} {z : Nat} (h : TyF ts s.p t) (hm : Ms R W0 W s ids sw xs st) (hl : t.ids.length ≤ 32) (hs : t.seen < t.ids.length) (hz : t.ids.getD t.seen 0 = z) (hx : xs[z]? = some x) (hl1 : -4611686018427387905 ≤ t.last) (hl2 : t.last ≤ 4611686018427387904) (h0 : 0 ≤ st) (h1 : st < 4611686018427387904) :
    Calls Tryz.prog 151 #[.agg ts] W fun e w' => ∃ ts', e = .returned (.tuple #[.agg ts', .nilIface]) ∧ TyF ts' s.p (judgeT (two s.k) { t with seen := t.seen + 1, least := min t.least x }) ∧ Ms R W0 w' s ids sw xs (st + 1) := by
  obtain ⟨sl, hs1, hs2, hs3⟩ := h.sl
  have HSL := Lib.hid hs1
  have HR := Lib.hid hs3
  have HI := Lib.hid (sl_info hs2)
  have HT := Lib.hid h
  have HX := Lib.hid hx
  have HZ := Lib.hid hz
  have HS := Lib.hid (M2.start hm ts)
  have hk := hm.k20
  clear h hm hx hz hs1 hs2 hs3
  go_enter Tryz.func151, Tryz.ntmps151
  go_wp2_with (refine wpList_alloc_try rfl rfl ?_; intro zs hz; have H1 := Lib.hid (HS.out zs hz); generalize (W.alloc (.cells ts 64)).alloc (.cells zs 64) = w0 at *)
  generalize W.heap.size = b at *
  clear HS
  have HS : Hid (∃ st', M2 R W0 w0.drew s ids sw xs st' b ts zs) := Lib.hid ⟨_, H1.out.keep (Below.drew (Below.refl _ _))⟩
  refine wp_region_held_drew (S := fun w' => ∃ st', M2 R W0 w' s ids sw xs st' b ts zs) (by kernel_rfl) HS.out (fun hHeld => ?_)
  have H1 := Lib.hid (H1.out.keep (Below.drew (Below.refl _ w0)))
  clear HS
  generalize w0.drew = w1 at *
  refine wpAnyH_take (i := 0) (v := (.pointer (some ⟨b, 5, none⟩))) rfl (by kernel_rfl) (by kernel_rfl) (by kernel_rfl) (fun _ _ _ h => h) (Or.inl ⟨by rfl, fun w hw => by go_simp⟩) (by assumption) ?_
  try simp only [Act.put, List.setIfInBounds_toArray, List.set_cons_zero, List.set_cons_succ]
  refine wpAnyH_take (i := 1) (v := .agg sl.toArray) rfl (by kernel_rfl) (by kernel_rfl) (by kernel_rfl) (fun _ _ _ h => h) (yieldsIf_load_mid (by rfl) 58 (.tmp 7) rfl b 5 rfl sl _ (fun w hw => HR.out _ _ _ _ (hw.choose_spec).t) Tryz.underlying58 rfl HI.out) (by assumption) ?_
  try simp only [Act.put, List.setIfInBounds_toArray, List.set_cons_zero, List.set_cons_succ]
  refine wpAnyH_take (i := 2) (v := (.pointer (some ⟨b, 0, none⟩))) rfl (by kernel_rfl) (by kernel_rfl) (by kernel_rfl) (fun _ _ _ h => h) (Or.inl ⟨by rfl, fun w hw => by go_simp⟩) (by assumption) ?_
  try simp only [Act.put, List.setIfInBounds_toArray, List.set_cons_zero, List.set_cons_succ]
  refine wpAnyH_take (i := 3) (v := (.pointer (some ⟨s.p, 0, none⟩))) rfl (by kernel_rfl) (by kernel_rfl) (by kernel_rfl) (fun _ _ _ h => h) (Or.inl ⟨by rfl, fun w hw => by have e0 := (hw.choose_spec.cell 0).trans HT.out.c0; clear hw; go_simp⟩) (by assumption) ?_
  try simp only [Act.put, List.setIfInBounds_toArray, List.set_cons_zero, List.set_cons_succ]
  refine wpAnyH_take (i := 4) (v := (.pointer (some ⟨s.p, 0, none⟩))) rfl (by kernel_rfl) (by kernel_rfl) (by kernel_rfl) (fun _ _ _ h => h) (Or.inl ⟨by rfl, fun w hw => by go_simp⟩) (by assumption) ?_
  try simp only [Act.put, List.setIfInBounds_toArray, List.set_cons_zero, List.set_cons_succ]
  refine wpAnyH_take (i := 5) (v := (.pointer (some ⟨s.p, 0, none⟩))) rfl (by kernel_rfl) (by kernel_rfl) (by kernel_rfl) (fun _ _ _ h => h) (Or.inl ⟨by rfl, fun w hw => by go_simp⟩) (by assumption) ?_
  try simp only [Act.put, List.setIfInBounds_toArray, List.set_cons_zero, List.set_cons_succ]
  refine wpAnyH_take (i := 6) (v := (.pointer (some ⟨s.b, 0, none⟩))) rfl (by kernel_rfl) (by kernel_rfl) (by kernel_rfl) (fun _ _ _ h => h) (Or.inl ⟨by rfl, fun w hw => by have e0 := hw.choose_spec.ms.c.c0; clear hw; go_simp⟩) (by assumption) ?_
  try simp only [Act.put, List.setIfInBounds_toArray, List.set_cons_zero, List.set_cons_succ]
  refine wpAnyH_ready (rs := [7, 11]) (by kernel_rfl) (by simp) (AllReadyH.cons rfl (fun K hK => ?_) (AllReadyH.cons rfl (fun K hK => ?_) AllReadyH.nil))
  · as_aux_lemma =>
    rw [if_pos (by rfl)]
    go_simp
    go_at_call 154
    refine (sstep_s H1.out.ms HSL.out hl hs HZ.out HX.out h0 h1).mono ?_
    rintro e w2 ⟨cs, rfl, hsc, hm2, hoth⟩
    have H2 := Lib.hid (M2.mk hm2 H1.out.z H1.out.low H1.out.np)
    have HSC := Lib.hid hsc
    have HOT := Lib.hid hoth
    clear hm2 hsc hoth
    go_wp2_with fail
    refine hK.out _ _ ⟨_, H2.out⟩ (fun hHeld => ?_)
    clear hK K
    try simp only [Act.put, List.setIfInBounds_toArray, List.set_cons_zero, List.set_cons_succ]
    refine wpAnyH_take (i := 8) (v := (.tuple #[.agg cs, .nilIface])) rfl (by kernel_rfl) (by kernel_rfl) (by kernel_rfl) (fun _ _ _ h => h) (Or.inl ⟨by rfl, fun w hw => by go_simp⟩) (by assumption) ?_
    try simp only [Act.put, List.setIfInBounds_toArray, List.set_cons_zero, List.set_cons_succ]
    refine wpAnyH_take (i := 9) (v := (.agg cs)) rfl (by kernel_rfl) (by kernel_rfl) (by kernel_rfl) (fun _ _ _ h => h) (Or.inl ⟨by rfl, fun w hw => by go_simp⟩) (by assumption) ?_
    try simp only [Act.put, List.setIfInBounds_toArray, List.set_cons_zero, List.set_cons_succ]
    refine wpAnyH_take (i := 10) (v := .nilIface) rfl (by kernel_rfl) (by kernel_rfl) (by kernel_rfl) (fun _ _ _ h => h) (Or.inl ⟨by rfl, fun w hw => by go_simp⟩) (by assumption) ?_
    try simp only [Act.put, List.setIfInBounds_toArray, List.set_cons_zero, List.set_cons_succ]
    refine wpAnyH_ready (rs := [11]) (by kernel_rfl) (by simp) (AllReadyH.cons rfl (fun K hK => ?_) AllReadyH.nil)
    rw [if_pos (by rfl)]
    refine wp_alloc_scan rfl ?_
    intro zs2 hz2
    have H3 := Lib.hid (H2.out.keep (balloc (Below.refl _ _) (.cells zs2 58)))
    have HN := Lib.hid (obj_new w2 (.cells zs2 58))
    have HB := Lib.hid (M2.newer H2.out)
    refine hK.out _ _ ⟨_, H3.out⟩ (fun hHeld => ?_)
    clear hK K
    try simp only [Act.put, List.setIfInBounds_toArray, List.set_cons_zero, List.set_cons_succ]
    generalize w2.heap.size = nb at *
    generalize w2.alloc (.cells zs2 58) = w3 at *
    refine wpAnyH_ready (rs := [12]) (by kernel_rfl) (by simp) (AllReadyH.cons rfl (fun K hK => ?_) AllReadyH.nil)
    rw [if_pos (by rfl)]
    refine wp_store_row 58 (.tmp 4) (.tmp 15) rfl nb cs rfl rfl 58 _ HN.out HSC.out.info (by rw [HSC.out.size]; exact hz2) HSC.out.one ?_
    have H5 := Lib.hid (H3.out.other HN.out HB.out ((Frm.refl (fun k => k = nb) _).setRow rfl cs))
    have HN5 := Lib.hid (setRow_heap _ nb _ cs _ _ HN.out)
    refine hK.out _ _ ⟨_, H5.out⟩ (fun hHeld => ?_)
    clear hK K
    generalize World.setRow _ nb cs = w5 at *
    try simp only [Act.put, List.setIfInBounds_toArray, List.set_cons_zero, List.set_cons_succ]
    refine wpAnyH_take (i := 13) (v := .nilIface) rfl (by kernel_rfl) (by kernel_rfl) (by kernel_rfl) (fun _ _ _ h => h) (Or.inl ⟨by rfl, fun w hw => by go_simp⟩) (by assumption) ?_
    try simp only [Act.put, List.setIfInBounds_toArray, List.set_cons_zero, List.set_cons_succ]
    refine wpAnyH_done (by kernel_rfl) ?_ _
    clear hHeld
    have HF := Lib.hid (HT.out.scan HSC.out)
    have HFI := Lib.hid HF.out.info
    have HTH := Lib.hid (H5.out.there HT.out.size)
    have HSI := Lib.hid HSC.out.info
    go_wp2_with (first
      | (refine wpList_load_row rfl 58 (.tmp 4) rfl nb rfl 58 cs (0, 0) _ HN5.out Tryz.underlying58 rfl HSI.out ?_)
      | (refine wpList_store_mid rfl 58 (.tmp 22) (.tmp 21) rfl b 5 cs rfl rfl (by rw [HSC.out.size]; exact HTH.out) HSI.out HSC.out.one ?_; have H6 := Lib.hid (H5.out.scan HT.out.size HSC.out.size); generalize w5.setCells b 5 _ = w6 at *)
      | (refine wpList_load_row rfl 64 (.tmp 1) rfl b rfl 64 _ (0, 0) _ H6.out.t Tryz.underlying64 rfl HFI.out ?_)
      | (go_at_call 166; refine (tjudge HF.out H6.out.ms.c hk hl1 hl2).mono ?_; rintro e w7 ⟨ts', rfl, hj, hb⟩; have HJ := Lib.hid hj; have HJI := Lib.hid hj.info; have H7 := Lib.hid (H6.out.keep hb); clear hj hb)
      | (refine wpList_store_row rfl 64 (.tmp 2) (.tmp 24) rfl (b + 1) _ rfl rfl 64 _ H7.out.r HJI.out (by rw [HJ.out.size]; exact H7.out.z) HJ.out.one ?_))
    exact bodyPost_ret (results_row_fault (p := 2) (u := 3) (by kernel_rfl) _ _ (b + 1) 64 _ (0, 0) _ _ rfl rfl (H7.out.out _).1 Tryz.underlying64 rfl HJI.out) rfl ⟨_, rfl, HJ.out, (H7.out.out _).2⟩
  · as_aux_lemma =>
    rw [if_pos (by rfl)]
    refine wp_alloc_scan rfl ?_
    intro zs2 hz2
    have H3 := Lib.hid (H1.out.keep (balloc (Below.refl _ _) (.cells zs2 58)))
    have HN := Lib.hid (obj_new w1 (.cells zs2 58))
    have HB := Lib.hid (M2.newer H1.out)
    refine hK.out _ _ ⟨_, H3.out⟩ (fun hHeld => ?_)
    clear hK K
    try simp only [Act.put, List.setIfInBounds_toArray, List.set_cons_zero, List.set_cons_succ]
    generalize w1.heap.size = nb at *
    generalize w1.alloc (.cells zs2 58) = w3 at *
    refine wpAnyH_ready (rs := [7]) (by kernel_rfl) (by simp) (AllReadyH.cons rfl (fun K hK => ?_) AllReadyH.nil)
    rw [if_pos (by rfl)]
    go_simp
    go_at_call 154
    refine (sstep_s H3.out.ms HSL.out hl hs HZ.out HX.out h0 h1).mono ?_
    rintro e w2 ⟨cs, rfl, hsc, hm2, hoth⟩
    have H2 := Lib.hid (M2.mk hm2 H3.out.z H3.out.low H3.out.np)
    have HSC := Lib.hid hsc
    have HOT := Lib.hid hoth
    clear hm2 hsc hoth
    go_wp2_with fail
    refine hK.out _ _ ⟨_, H2.out⟩ (fun hHeld => ?_)
    clear hK K
    try simp only [Act.put, List.setIfInBounds_toArray, List.set_cons_zero, List.set_cons_succ]
    refine wpAnyH_take (i := 8) (v := (.tuple #[.agg cs, .nilIface])) rfl (by kernel_rfl) (by kernel_rfl) (by kernel_rfl) (fun _ _ _ h => h) (Or.inl ⟨by rfl, fun w hw => by go_simp⟩) (by assumption) ?_
    try simp only [Act.put, List.setIfInBounds_toArray, List.set_cons_zero, List.set_cons_succ]
    refine wpAnyH_take (i := 9) (v := (.agg cs)) rfl (by kernel_rfl) (by kernel_rfl) (by kernel_rfl) (fun _ _ _ h => h) (Or.inl ⟨by rfl, fun w hw => by go_simp⟩) (by assumption) ?_
    try simp only [Act.put, List.setIfInBounds_toArray, List.set_cons_zero, List.set_cons_succ]
    refine wpAnyH_take (i := 10) (v := .nilIface) rfl (by kernel_rfl) (by kernel_rfl) (by kernel_rfl) (fun _ _ _ h => h) (Or.inl ⟨by rfl, fun w hw => by go_simp⟩) (by assumption) ?_
    try simp only [Act.put, List.setIfInBounds_toArray, List.set_cons_zero, List.set_cons_succ]
    refine wpAnyH_ready (rs := [12]) (by kernel_rfl) (by simp) (AllReadyH.cons rfl (fun K hK => ?_) AllReadyH.nil)
    rw [if_pos (by rfl)]
    refine wp_store_row 58 (.tmp 4) (.tmp 15) rfl nb cs rfl rfl 58 _ (HOT.out _ _ _ _ HN.out (by decide)) HSC.out.info (by rw [HSC.out.size]; exact hz2) HSC.out.one ?_
    have H5 := Lib.hid (H2.out.other (HOT.out _ _ _ _ HN.out (by decide)) HB.out ((Frm.refl (fun k => k = nb) _).setRow rfl cs))
    have HN5 := Lib.hid (setRow_heap _ nb _ cs _ _ (HOT.out _ _ _ _ HN.out (by decide)))
    refine hK.out _ _ ⟨_, H5.out⟩ (fun hHeld => ?_)
    clear hK K
    generalize World.setRow _ nb cs = w5 at *
    try simp only [Act.put, List.setIfInBounds_toArray, List.set_cons_zero, List.set_cons_succ]
    refine wpAnyH_take (i := 13) (v := .nilIface) rfl (by kernel_rfl) (by kernel_rfl) (by kernel_rfl) (fun _ _ _ h => h) (Or.inl ⟨by rfl, fun w hw => by go_simp⟩) (by assumption) ?_
    try simp only [Act.put, List.setIfInBounds_toArray, List.set_cons_zero, List.set_cons_succ]
    refine wpAnyH_done (by kernel_rfl) ?_ _
    clear hHeld
    have HF := Lib.hid (HT.out.scan HSC.out)
    have HFI := Lib.hid HF.out.info
    have HTH := Lib.hid (H5.out.there HT.out.size)
    have HSI := Lib.hid HSC.out.info
    go_wp2_with (first
      | (refine wpList_load_row rfl 58 (.tmp 4) rfl nb rfl 58 cs (0, 0) _ HN5.out Tryz.underlying58 rfl HSI.out ?_)
      | (refine wpList_store_mid rfl 58 (.tmp 22) (.tmp 21) rfl b 5 cs rfl rfl (by rw [HSC.out.size]; exact HTH.out) HSI.out HSC.out.one ?_; have H6 := Lib.hid (H5.out.scan HT.out.size HSC.out.size); generalize w5.setCells b 5 _ = w6 at *)
      | (refine wpList_load_row rfl 64 (.tmp 1) rfl b rfl 64 _ (0, 0) _ H6.out.t Tryz.underlying64 rfl HFI.out ?_)
      | (go_at_call 166; refine (tjudge HF.out H6.out.ms.c hk hl1 hl2).mono ?_; rintro e w7 ⟨ts', rfl, hj, hb⟩; have HJ := Lib.hid hj; have HJI := Lib.hid hj.info; have H7 := Lib.hid (H6.out.keep hb); clear hj hb)
      | (refine wpList_store_row rfl 64 (.tmp 2) (.tmp 24) rfl (b + 1) _ rfl rfl 64 _ H7.out.r HJI.out (by rw [HJ.out.size]; exact H7.out.z) HJ.out.one ?_))
    exact bodyPost_ret (results_row_fault (p := 2) (u := 3) (by kernel_rfl) _ _ (b + 1) 64 _ (0, 0) _ _ rfl rfl (H7.out.out _).1 Tryz.underlying64 rfl HJI.out) rfl ⟨_, rfl, HJ.out, (H7.out.out _).2⟩
end Go.Proofs.YtdfcfdcekdmcmaaGreat
