/-
  A step of a claim of package multi: what was seen is stored; by contract. Conditions: the cell is there; fewer than 2^62 steps.
-/
import Derived.Test.YtdfcfdcekdmcmaaGreatPk08
set_option linter.unusedVariables false
set_option linter.unusedSimpArgs false
namespace Go.Proofs.YtdfcfdcekdmcmaaGreat
open Go.RowKit
set_option linter.unusedSimpArgs false
theorem yieldsIf_load_row {P : Program} {ops : Array Oper} {S : World → Prop} {op : Oper} {a : Act} (hw : Region.wanted op (yielded ops a.tmps) = true) (ty : TypeId) (x : Operand) (ho : op.op = .load ty x)
    (g : Nat) (hx : a.eval x = .pointer (some ⟨g, 0, none⟩)) (t : TypeId) (cs : Array Value) (d : TypeDesc) (hS : ∀ w, S w → w.heap[g]? = some (.cells cs t (0, 0)))
    (hu : P.underlying ty = some d) (hd : (match d with | .struct _ | .array _ _ => true | _ => false) = true) (hi : (P.info? ty).map (·.size) = some cs.size) : YieldsIf P ops S op (.agg cs) a :=
  .inl ⟨hw, fun w hw' => by
    unfold execOp
    simp only [ho, hx, Instr.loadAt, Instr.sureAddr, Sem.run_bind, Sem.run_pure, Result.andThen_ok, run_loadVar_row w g t ty cs (0, 0) d (hS w hw') hu hd hi]⟩
section
variable {R : Rest} {W0 W w w' : World} {s : Sh} {ids xs : List Int} {sw st : Int} {b : Nat} {ts zs : Array Value}
theorem M2.res (h : M2 R W0 w s ids sw xs st b ts zs) {cs : Array Value} (hc : cs.size = 40) : M2 R W0 (w.setRow (b + 1) cs) s ids sw xs st b ts cs := by
  have hr := h.r
  have hf : Frm (fun k => k = b + 1) w (w.setRow (b + 1) cs) := (Frm.refl (fun k => k = b + 1) w).setRow rfl cs
  refine ⟨h.ms.turn hf (fun g o ho e => ?_) (fun g hg => .inl hg) ⟨⟨?_, hf.obj h.t (by omega)⟩, setRow_heap _ _ _ _ _ _ hr⟩, hc, h.low, h.np⟩
  · subst e
    rw [hr] at ho
    cases ho
    exact ⟨by have := h.low; omega, _, _, _, rfl, by decide, by decide, by decide, by decide⟩
  · exact R.ok _ _ h.ms.inv.1.1 fun k hk => hf.block k (Nat.lt_trans (h.np k hk) (lt_of_block h.t)) (by have := h.np k hk; omega)
theorem M2.done (h : M2 R W0 w s ids sw xs st b ts zs) : Ms R W0 w s ids sw xs st := h.ms.drop.drop
end
set_option maxHeartbeats 1000000 in
set_option maxRecDepth 100000 in
theorem tremember {ts : Array Value} {R : Rest} {W0 W : World} {s : Sh} {ids xs : List Int} {sw st : Int} {t : Tr} (h : TyF ts s.p t) (hm : Ms R W0 W s ids sw xs st) (hx : s.cch < xs.length) (h0 : 0 ≤ st) (h1 : st < 4611686018427387904) :
    Calls Tryz.prog 152 #[.agg ts] W fun e w' => ∃ ts', e = .returned (.tuple #[.agg ts', .nilIface]) ∧ TyF ts' s.p { t with stg := 5 } ∧ Ms R W0 w' s ids sw (xs.set s.cch t.least) (st + 1) := by
  have HT5 := Lib.hid (h.stg 5)
  obtain ⟨sl, hs1, hs2, hs3⟩ := (h.stg 5).sl
  have HSL := Lib.hid hs1
  have HR := Lib.hid hs3
  have HI := Lib.hid (sl_info hs2)
  have HI5 := Lib.hid HT5.out.info
  have HS := Lib.hid (M2.start hm ts)
  have HT := Lib.hid h
  clear h hm hs1 hs2 hs3
  go_enter Tryz.func152, Tryz.ntmps152
  go_wp2_with (refine wpList_alloc_try rfl rfl ?_; intro zs hz; have H0 := Lib.hid (HS.out zs hz); have c2 := (H0.out.cell 2).trans HT.out.c2; have f2 := H0.out.free 2; generalize (W.alloc (.cells ts 64)).alloc (.cells zs 64) = w00 at *)
  generalize W.heap.size = b at *
  have H0 := Lib.hid (H0.out.set 2 (.int .i64 5))
  clear HS c2 f2
  generalize w00.setCell ⟨b, 2, none⟩ (.int .i64 5) = w0 at *
  generalize ts.setIfInBounds 2 (.int .i64 5) = ts5 at *
  have HS : Hid (∃ xs' st' zs', M2 R W0 w0.drew s ids sw xs' st' b ts5 zs') := Lib.hid ⟨_, _, _, H0.out.keep (Below.drew (Below.refl _ _))⟩
  refine wp_region_held_drew (S := fun w' => ∃ xs' st' zs', M2 R W0 w' s ids sw xs' st' b ts5 zs') (by kernel_rfl) HS.out (fun hHeld => ?_)
  have H1 := Lib.hid (H0.out.keep (Below.drew (Below.refl _ w0)))
  clear HS
  generalize w0.drew = w1 at *
  refine wpAnyH_take (i := 0) (v := .agg ts5) rfl (by kernel_rfl) (by kernel_rfl) (by kernel_rfl) (fun _ _ _ h => h) (yieldsIf_load_row (by rfl) 64 (.tmp 1) (by kernel_rfl) b (by kernel_rfl) 64 ts5 _ (fun w hw => by obtain ⟨_, _, _, hm⟩ := hw; exact hm.t) Tryz.underlying64 rfl HI5.out) (by assumption) ?_
  try simp only [Act.put, List.setIfInBounds_toArray, List.set_cons_zero, List.set_cons_succ]
  refine wpAnyH_take (i := 1) (v := (.pointer (some ⟨b, 0, none⟩))) rfl (by kernel_rfl) (by kernel_rfl) (by kernel_rfl) (fun _ _ _ h => h) (Or.inl ⟨by rfl, fun w hw => by go_simp⟩) (by assumption) ?_
  try simp only [Act.put, List.setIfInBounds_toArray, List.set_cons_zero, List.set_cons_succ]
  refine wpAnyH_take (i := 2) (v := (.pointer (some ⟨s.p, 0, none⟩))) rfl (by kernel_rfl) (by kernel_rfl) (by kernel_rfl) (fun _ _ _ h => h) (Or.inl ⟨by rfl, fun w hw => by obtain ⟨_, _, _, hm⟩ := hw; have e0 := (hm.cell 0).trans HT5.out.c0; clear hm; go_simp⟩) (by assumption) ?_
  try simp only [Act.put, List.setIfInBounds_toArray, List.set_cons_zero, List.set_cons_succ]
  refine wpAnyH_take (i := 3) (v := (.pointer (some ⟨s.p, 0, none⟩))) rfl (by kernel_rfl) (by kernel_rfl) (by kernel_rfl) (fun _ _ _ h => h) (Or.inl ⟨by rfl, fun w hw => by go_simp⟩) (by assumption) ?_
  try simp only [Act.put, List.setIfInBounds_toArray, List.set_cons_zero, List.set_cons_succ]
  refine wpAnyH_take (i := 4) (v := (.pointer (some ⟨s.p, 0, none⟩))) rfl (by kernel_rfl) (by kernel_rfl) (by kernel_rfl) (fun _ _ _ h => h) (Or.inl ⟨by rfl, fun w hw => by go_simp⟩) (by assumption) ?_
  try simp only [Act.put, List.setIfInBounds_toArray, List.set_cons_zero, List.set_cons_succ]
  refine wpAnyH_take (i := 5) (v := (.pointer (some ⟨s.b, 0, none⟩))) rfl (by kernel_rfl) (by kernel_rfl) (by kernel_rfl) (fun _ _ _ h => h) (Or.inl ⟨by rfl, fun w hw => by obtain ⟨_, _, _, hm⟩ := hw; have e0 := hm.ms.c.c0; clear hm; go_simp⟩) (by assumption) ?_
  try simp only [Act.put, List.setIfInBounds_toArray, List.set_cons_zero, List.set_cons_succ]
  refine wpAnyH_take (i := 6) (v := (.pointer (some ⟨b, 0, none⟩))) rfl (by kernel_rfl) (by kernel_rfl) (by kernel_rfl) (fun _ _ _ h => h) (Or.inl ⟨by rfl, fun w hw => by go_simp⟩) (by assumption) ?_
  try simp only [Act.put, List.setIfInBounds_toArray, List.set_cons_zero, List.set_cons_succ]
  refine wpAnyH_take (i := 7) (v := (.pointer (some ⟨s.p, 0, none⟩))) rfl (by kernel_rfl) (by kernel_rfl) (by kernel_rfl) (fun _ _ _ h => h) (Or.inl ⟨by rfl, fun w hw => by obtain ⟨_, _, _, hm⟩ := hw; have e0 := (hm.cell 0).trans HT5.out.c0; clear hm; go_simp⟩) (by assumption) ?_
  try simp only [Act.put, List.setIfInBounds_toArray, List.set_cons_zero, List.set_cons_succ]
  refine wpAnyH_take (i := 8) (v := (.pointer (some ⟨s.p, 0, none⟩))) rfl (by kernel_rfl) (by kernel_rfl) (by kernel_rfl) (fun _ _ _ h => h) (Or.inl ⟨by rfl, fun w hw => by go_simp⟩) (by assumption) ?_
  try simp only [Act.put, List.setIfInBounds_toArray, List.set_cons_zero, List.set_cons_succ]
  refine wpAnyH_take (i := 9) (v := (.pointer (some ⟨s.p, 3, none⟩))) rfl (by kernel_rfl) (by kernel_rfl) (by kernel_rfl) (fun _ _ _ h => h) (Or.inl ⟨by rfl, fun w hw => by go_simp⟩) (by assumption) ?_
  try simp only [Act.put, List.setIfInBounds_toArray, List.set_cons_zero, List.set_cons_succ]
  refine wpAnyH_take (i := 10) (v := (.int .i64 s.cch)) rfl (by kernel_rfl) (by kernel_rfl) (by kernel_rfl) (fun _ _ _ h => h) (Or.inl ⟨by rfl, fun w hw => by obtain ⟨_, _, _, hm⟩ := hw; have e0 := hm.ms.c.c3; clear hm; go_simp⟩) (by assumption) ?_
  try simp only [Act.put, List.setIfInBounds_toArray, List.set_cons_zero, List.set_cons_succ]
  refine wpAnyH_take (i := 11) (v := (.pointer (some ⟨b, 5, none⟩))) rfl (by kernel_rfl) (by kernel_rfl) (by kernel_rfl) (fun _ _ _ h => h) (Or.inl ⟨by rfl, fun w hw => by go_simp⟩) (by assumption) ?_
  try simp only [Act.put, List.setIfInBounds_toArray, List.set_cons_zero, List.set_cons_succ]
  refine wpAnyH_take (i := 12) (v := .agg sl.toArray) rfl (by kernel_rfl) (by kernel_rfl) (by kernel_rfl) (fun _ _ _ h => h) (yieldsIf_load_mid (by rfl) 58 (.tmp 16) (by kernel_rfl) b 5 (by kernel_rfl) sl _ (fun w hw => by obtain ⟨_, _, _, hm⟩ := hw; exact HR.out _ _ _ _ hm.t) Tryz.underlying58 rfl HI.out) (by assumption) ?_
  try simp only [Act.put, List.setIfInBounds_toArray, List.set_cons_zero, List.set_cons_succ]
  refine wpAnyH_ready (rs := [13]) (by kernel_rfl) (by simp) (AllReadyH.cons rfl (fun K hK => ?_) AllReadyH.nil)
  rw [if_pos (by rfl)]
  go_simp
  go_at_call 131
  refine (sleast HSL.out _).mono ?_
  rintro e w2 ⟨rfl, hb⟩
  have H2 := Lib.hid (H1.out.keep hb)
  clear hb
  go_wp2_with fail
  refine hK.out _ _ ⟨_, _, _, H2.out⟩ (fun hHeld => ?_)
  clear hK K
  try simp only [Act.put, List.setIfInBounds_toArray, List.set_cons_zero, List.set_cons_succ]
  refine wpAnyH_ready (rs := [14]) (by kernel_rfl) (by simp) (AllReadyH.cons rfl (fun K hK => ?_) AllReadyH.nil)
  rw [if_pos (by rfl)]
  go_simp
  go_at_call 167
  refine (store_s H2.out.ms s.cch t.least hx h0 h1).mono ?_
  rintro e w3 ⟨rfl, hm3⟩
  have H3 := Lib.hid (M2.mk hm3 H2.out.z H2.out.low H2.out.np)
  clear hm3
  go_wp2_with fail
  refine hK.out _ _ ⟨_, _, _, H3.out⟩ (fun hHeld => ?_)
  clear hK K
  try simp only [Act.put, List.setIfInBounds_toArray, List.set_cons_zero, List.set_cons_succ]
  refine wpAnyH_ready (rs := [15]) (by kernel_rfl) (by simp) (AllReadyH.cons rfl (fun K hK => ?_) AllReadyH.nil)
  rw [if_pos (by rfl)]
  refine wp_store_row 64 (.tmp 2) (.tmp 5) rfl (b + 1) ts5 rfl rfl 64 _ H3.out.r HI5.out (by rw [HT5.out.size]; exact H3.out.z) HT5.out.one ?_
  have H4 := Lib.hid (H3.out.res HT5.out.size)
  refine hK.out _ _ ⟨_, _, _, H4.out⟩ (fun hHeld => ?_)
  clear hK K
  generalize w3.setRow (b + 1) ts5 = w4 at *
  try simp only [Act.put, List.setIfInBounds_toArray, List.set_cons_zero, List.set_cons_succ]
  refine wpAnyH_ready (rs := [16]) (by kernel_rfl) (by simp) (AllReadyH.cons rfl (fun K hK => ?_) AllReadyH.nil)
  rw [if_pos (by rfl)]
  go_simp
  refine hK.out _ _ ⟨_, _, _, H4.out⟩ (fun hHeld => ?_)
  clear hK K
  try simp only [Act.put, List.setIfInBounds_toArray, List.set_cons_zero, List.set_cons_succ]
  refine wpAnyH_done (by kernel_rfl) ?_ _
  clear hHeld
  go_wp2
  exact bodyPost_ret (results_row_fault (p := 2) (u := 3) (by kernel_rfl) _ _ (b + 1) 64 ts5 (0, 0) _ _ rfl rfl H4.out.r Tryz.underlying64 rfl HI5.out) rfl ⟨_, rfl, HT5.out, H4.out.done⟩
end Go.Proofs.YtdfcfdcekdmcmaaGreat
