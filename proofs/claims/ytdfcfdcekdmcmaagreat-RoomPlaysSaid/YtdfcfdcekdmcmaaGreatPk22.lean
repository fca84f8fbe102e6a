/-
  How a claim of package single reads a cell: the cursor's, or the next one of those that hold back; by contract. Conditions: the cells are there; fewer than 2^62 steps.
  A step of a claim of package single, by contract. Conditions: the cells are there; fewer than 2^62 steps.
  A step of a claim of package single, by contract. Conditions: what its load does is known.
  A step of a claim of package single with which it is over, by contract. Conditions: what its load and its end do is known.
  Steps of a claim of package single where nobody holds back, or one does, by contract. Conditions: the cells are there; nothing else is claimed meanwhile; fewer than 2^62 steps.
-/
import Derived.Test.YtdfcfdcekdmcmaaGreatPk21
import Derived.Deep.DeepCutAuto
set_option linter.unusedVariables false
set_option linter.unusedSimpArgs false
set_option linter.unusedSimpArgs false
namespace Go.Proofs.YtdfcfdcekdmcmaaGreat
open Go.RowKit
set_option linter.unusedVariables false
theorem wpList_alloc_sc {ops : Array Oper} {rest : List Oper} {o : Oper} {a : Act} {w : World} {Q : Exit → Act → World → Prop} (hg : o.guard = none) (ho : o.op = .alloc 58)
    (h : ∀ zs : Array Value, zs.size = 35 → wpList Tryz.prog ops Q rest (a.put o.dst (.pointer (some ⟨w.heap.size, 0, none⟩))) (w.alloc (.cells zs 58))) : wpList Tryz.prog ops Q (o :: rest) a w := by
  refine Great.wpList_runTo hg o.dst rfl _ _ ?_ (h (scC [] 0 0) sc_nil.size)
  unfold execOp
  simp only [ho, Sem.run_bind, run_alloc_scan, Result.andThen_ok, Sem.run_pure]
section
variable {R : Rest} {W0 W w : World} {p a k cur : Nat} {ids xs l : List Int} {cl pub sn sc st last least : Int} {ts : Array Value} {rd : Bool} {seen : Nat}
theorem sscan_g (h : Sg R W0 W p a k cur ids cl pub sn sc xs st) (most : Int) : Calls Tryz.prog 155 #[.pointer (some ⟨p, 3, none⟩), .int .i64 most] W fun e w' => ∃ cs, e = .returned (.agg cs) ∧ Sc cs ids 0 most ∧ Below W.heap.size W w' := by
  obtain ⟨cs, q1, q2⟩ := h.k20
  exact (gscan_q q2 q1.gr most).mono fun e w h => ⟨_, h.1, sc_of q1.gr.len 0 most, h.2⟩
set_option maxHeartbeats 1000000 in
set_option maxRecDepth 100000 in
theorem gload_first {bh c : Int} (h : TsF ts p bh last false l seen least) (hm : Sg R W0 W p a k cur ids cl pub sn sc xs st) (hx : xs[cur]? = some c) (h0 : 0 ≤ st) (h1 : st < 4611686018427387904) :
    Calls Tryz.prog 129 #[.agg ts] W fun e w' => ∃ cs, e = .returned (.tuple #[.agg cs, .nilIface]) ∧ Sc cs ids 0 c ∧ Sg R W0 w' p a k cur ids cl pub sn sc xs (st + 1) := by
  have HT := Lib.hid h
  have HM := Lib.hid hm
  have HX := Lib.hid hx
  have e1 : (W.alloc (.cells ts 60)).heap.size = W.heap.size + 1 := by simp
  have k3 : ∀ ob : Obj, ((W.alloc (.cells ts 60)).alloc ob).cell? ⟨W.heap.size, 3, none⟩ = some (.bool false) := fun ob => (obj_cell (obj_old ob (obj_new W (.cells ts 60))) 3).trans h.c3
  clear h hm hx
  go_enter Tryz.func129, Tryz.ntmps129
  go_wp2_with (refine wpList_alloc_sc rfl rfl ?_; intro zs hz; have HZ := Lib.hid hz; have k3 := k3 (.cells zs 58); have hg := (HM.out.boxNew ts 60).boxNew zs 58; rw [e1] at hg; have H1 := Lib.hid hg; rw [e1]; generalize (W.alloc (.cells ts 60)).alloc (.cells zs 58) = w1 at *; generalize W.heap.size = b at *; clear hg hz)
  clear e1 k3
  have k0 := (H1.out.boxDrop.boxIn 0).trans HT.out.c0
  have k1 := H1.out.c.c0
  have k2 := H1.out.c.c2
  go_region_held3 (fun w' => w'.cell? ⟨b, 0, none⟩ = some (.pointer (some ⟨p, 0, none⟩)) ∧ w'.cell? ⟨p, 0, none⟩ = some (.pointer (some ⟨a, 0, none⟩)) ∧ w'.cell? ⟨p, 2, none⟩ = some (.int .i64 cur)) (first
      | exact ⟨by assumption, by assumption, by assumption⟩
      | exact ⟨by go_simp, by go_simp, by go_simp⟩) (first
      | (go_at_call 35; refine (load_g (H1.out.keep (Below.drew (Below.refl _ _))) cur c HX.out h0 h1).mono ?_; rintro e w2 ⟨rfl, hm2⟩; have H2 := Lib.hid hm2; have j0 := (hm2.boxDrop.boxIn 0).trans HT.out.c0; have j1 := hm2.c.c0; have j2 := hm2.c.c2; clear hm2))
  clear k0 k1 k2 j1 j2
  go_wp2_with (first
    | (go_at_call 155; refine (sscan_g H2.out c).mono ?_; rintro e w3 ⟨cs, rfl, hs, hb⟩; have HS := Lib.hid hs; have HI := Lib.hid hs.info; have H3 := Lib.hid (H2.out.keep hb); clear hs hb)
    | (refine wpList_store_row rfl 58 (.tmp 2) (.tmp 41) rfl (b + 1) cs rfl rfl 58 _ H3.out.boxIs HI.out (by rw [HS.out.size]; exact HZ.out) HS.out.one ?_))
  exact bodyPost_ret (results_row_fault (p := 2) (u := 3) (by kernel_rfl) _ _ (b + 1) 58 cs (0, 0) _ _ rfl rfl (H3.out.boxRow cs).boxIs Tryz.underlying58 rfl HI.out) rfl ⟨cs, rfl, HS.out, (H3.out.boxRow cs).boxDrop.boxDrop⟩
end
end Go.Proofs.YtdfcfdcekdmcmaaGreat
namespace Go.Proofs.YtdfcfdcekdmcmaaGreat
open Go.RowKit
set_option linter.unusedVariables false
def putG (ts cs : Array Value) : Array Value := (ts.toList.take 4 ++ cs.toList ++ ts.toList.drop 39).toArray
theorem putG_size {ts cs : Array Value} (hs : ts.size = 41) (hc : cs.size = 35) : (putG ts cs).size = 41 := by simp [putG]; omega
theorem putG_lo {ts cs : Array Value} (hs : ts.size = 41) {i : Nat} (hi : i < 4) : (putG ts cs)[i]? = ts[i]? := by
  have hl : (ts.toList.take 4).length = 4 := by simp; omega
  simp only [putG, List.getElem?_toArray, List.append_assoc]
  rw [List.getElem?_append_left (by omega), List.getElem?_take, if_pos hi]
  simp
theorem putG_hi {ts cs : Array Value} (hs : ts.size = 41) (hc : cs.size = 35) (j : Nat) : (putG ts cs)[39 + j]? = ts[39 + j]? := by
  have hl : (ts.toList.take 4 ++ cs.toList).length = 39 := by simp; omega
  simp only [putG, List.getElem?_toArray]
  rw [List.getElem?_append_right (by omega), hl, List.getElem?_drop]
  simp
theorem putG_mid {ts cs : Array Value} (hs : ts.size = 41) (hc : cs.size = 35) : (putG ts cs).extract 4 39 = cs := by
  have hl : (ts.toList.take 4).length = 4 := by simp; omega
  apply Array.ext_getElem?
  intro j
  by_cases hj : j < 35
  · simp only [Array.getElem?_extract, putG, List.getElem?_toArray, List.size_toArray, List.length_append, hl, Array.length_toList, List.length_drop, List.append_assoc]
    rw [if_pos (by omega), List.getElem?_append_right (by omega), hl, List.getElem?_append_left (by simp; omega)]
    simp
  · rw [Array.getElem?_eq_none (by simp [putG]; omega), Array.getElem?_eq_none (by omega)]
theorem putG_one {ts cs : Array Value} (h1 : ts.all (·.oneCell') = true) (h2 : cs.all (·.oneCell') = true) : (putG ts cs).all (·.oneCell') = true := by
  rw [Array.all_eq_true_iff_forall_mem] at h1 h2 ⊢
  intro y hy
  simp only [putG, List.mem_toArray, List.mem_append] at hy
  rcases hy with (hy | hy) | hy
  · exact h1 y (by simpa using List.mem_of_mem_take hy)
  · exact h2 y (by simpa using hy)
  · exact h1 y (by simpa using List.mem_of_mem_drop hy)
theorem TsF.reads {ts cs : Array Value} {p : Nat} {bh last least least' : Int} {rd : Bool} {l l' : List Int} {seen seen' : Nat} (h : TsF ts p bh last rd l seen least) (hc : Sc cs l' seen' least') : TsF (putG (ts.setIfInBounds 3 (.bool true)) cs) p bh last true l' seen' least' := by
  have hs : (ts.setIfInBounds 3 (.bool true)).size = 41 := by simpa using h.size
  have hsz := h.size
  refine ⟨putG_size hs hc.size, putG_one (all_set h.one _ _ rfl) hc.one, ?_, ?_, ?_, ?_, by rw [putG_mid hs hc.size]; exact hc, ?_, ?_⟩
  · rw [putG_lo hs (by omega), Array.getElem?_setIfInBounds_ne (by omega)]; exact h.c0
  · rw [putG_lo hs (by omega), Array.getElem?_setIfInBounds_ne (by omega)]; exact h.c1
  · rw [putG_lo hs (by omega), Array.getElem?_setIfInBounds_ne (by omega)]; exact h.c2
  · rw [putG_lo hs (by omega), Array.getElem?_setIfInBounds_self_of_lt (by omega)]
  · rw [putG_hi hs hc.size 0, Array.getElem?_setIfInBounds_ne (by omega)]; exact h.c39
  · rw [putG_hi hs hc.size 1, Array.getElem?_setIfInBounds_ne (by omega)]; exact h.c40
section
variable {R : Rest} {W0 W w : World} {p a k cur b : Nat} {ids xs l : List Int} {cl pub sn sc st last least : Int} {ts cs : Array Value} {rd : Bool} {seen : Nat}
theorem putG_set (h : ts.size = 41) (hc : cs.size = 35) : ts.toList.take 4 ++ cs.toList ++ ts.toList.drop (4 + cs.toList.length) = (putG ts cs).toList := by
  simp [putG, hc]
theorem Sg.scanIn (h : Sg (R.box W0.heap.size b ts 60) W0 w p a k cur ids cl pub sn sc xs st) (hs : ts.size = 41) (hc : cs.size = 35) : Sg (R.box W0.heap.size b (putG ts cs) 60) W0 (w.setCells b 4 cs.toList) p a k cur ids cl pub sn sc xs st := by
  obtain ⟨c, h1, h2⟩ := h
  have ht : w.heap[b]? = some (.cells ts.toList.toArray 60 (0, 0)) := by rw [Array.toArray_toList]; exact h2.swap2.boxIs
  have := obj_setCells cs.toList 4 w ts.toList ht (by simp; omega)
  rw [putG_set hs hc, Array.toArray_toList] at this
  exact ⟨c, h1, (h2.swap2.boxTurn (frm_setCells _ 4 _ _ (Frm.refl _ _)) this).swap2⟩
theorem Sg.swap {b' : Nat} {zs : Array Value} {U V : TypeId} (h : Sg ((R.box W0.heap.size b ts U).box W0.heap.size b' zs V) W0 w p a k cur ids cl pub sn sc xs st) : Sg ((R.box W0.heap.size b' zs V).box W0.heap.size b ts U) W0 w p a k cur ids cl pub sn sc xs st := by
  obtain ⟨c, h1, h2⟩ := h
  obtain ⟨⟨⟨i1, i2, i3, i4⟩, i5, i6, i7⟩, j2, j3, j4⟩ := h2.inv
  refine ⟨c, h1, h2.less (fun g hg => ?_) ⟨⟨⟨i1, i5, fun e => i6 (.inl e), i7⟩, i2, ?_, i4⟩, j2, fun e => j3 ?_, j4⟩⟩
  · rcases hg with ((e | e) | e) | e
    · exact .inl (.inl (.inl e))
    · exact .inl (.inr e)
    · exact .inl (.inl (.inr e))
    · exact .inr e
  · rintro (e | e)
    · exact i3 e
    · exact i6 (.inr e.symm)
  · rcases e with (e | e) | e
    · exact .inl (.inl e)
    · exact .inr e
    · exact .inl (.inr e)
theorem Sg.there (h : Sg (R.box W0.heap.size b ts 60) W0 w p a k cur ids cl pub sn sc xs st) (hs : ts.size = 41) : w.there b 4 35 := by
  intro j hj
  refine ⟨?_, obj_free h.boxIs _⟩
  rw [obj_cell h.boxIs, Array.getElem?_eq_getElem (by omega)]
  rfl
end
end Go.Proofs.YtdfcfdcekdmcmaaGreat
namespace Go.Proofs.YtdfcfdcekdmcmaaGreat
open Go.RowKit
set_option linter.unusedVariables false
section
variable {R : Rest} {W0 W w : World} {p a k cur : Nat} {ids xs l : List Int} {cl pub sn sc st last least : Int} {ts : Array Value} {rd : Bool} {seen : Nat}
end
end Go.Proofs.YtdfcfdcekdmcmaaGreat
namespace Go.Proofs.YtdfcfdcekdmcmaaGreat
open Go.RowKit
set_option linter.unusedVariables false
theorem quiet_load_rowG {P : Program} {C : World → Prop} {K : Act → Prop} {a : Act} {o : Oper} (ty : TypeId) (x : Operand) (ho : o.op = .load ty x)
    (g : Nat) (hx : a.eval x = .pointer (some ⟨g, 0, none⟩)) (t : TypeId) (cs : Array Value) (fr : Nat × Nat) (d : TypeDesc) (hg : ∀ w, C w → w.heap[g]? = some (.cells cs t fr))
    (hu : P.underlying ty = some d) (hd : (match d with | .struct _ | .array _ _ => true | _ => false) = true) (hi : (P.info? ty).map (·.size) = some cs.size)
    (hk : K (a.put o.dst (.agg cs))) : o.quiet P a C K := by
  refine ⟨.agg cs, fun w hw => ?_, hk⟩
  unfold Oper.quietAt execOp
  simp only [ho, hx, Instr.loadAt, Instr.sureAddr, Sem.run_bind, Sem.run_pure, Result.andThen_ok, run_loadVar_row w g t ty cs fr d (hg w hw) hu hd hi]
  exact ⟨rfl, rfl⟩
section
variable {R : Rest} {W0 W w : World} {p a k cur : Nat} {ids xs l : List Int} {cl pub sn sc st last least : Int} {ts : Array Value} {rd : Bool} {seen : Nat}
set_option maxHeartbeats 2000000 in
set_option maxRecDepth 100000 in
theorem gstep_end {bh lst' st' cl' la : Int} {got full : Bool} {l' : List Int} {seen' : Nat} (h : TsF ts p bh last rd l seen least) (hm : Sg R W0 W p a k cur ids cl pub sn sc xs st)
    (hld : ∀ (R : Rest) (w : World), Sg R W0 w p a k cur ids cl pub sn sc xs st → Calls Tryz.prog 129 #[.agg ts] w fun e w' => ∃ cs, e = .returned (.tuple #[.agg cs, .nilIface]) ∧ Sc cs l' seen' lst' ∧ Sg R W0 w' p a k cur ids cl pub sn sc xs st')
    (hd : l'.length ≤ seen')
    (hend : ∀ (ts2 : Array Value), TsF ts2 p bh last true l' seen' lst' → ∀ (R : Rest) (w : World), Sg R W0 w p a k cur ids cl pub lst' sc xs st' → Calls Tryz.prog 127 #[.agg ts2] w fun e w' => ∃ ts', e = .returned (.agg ts') ∧ TsD ts' la got full ∧ Sg R W0 w' p a k cur ids cl' pub lst' sc xs st') :
    Calls Tryz.prog 86 #[.agg ts] W fun e w' => ∃ ts', e = .returned (.tuple #[.agg ts', .nilIface]) ∧ TsD ts' la got full ∧ Sg R W0 w' p a k cur ids cl' pub lst' sc xs st' := by
  have HT := Lib.hid h
  have HM := Lib.hid hm
  have HLOAD := Lib.hid hld
  have HEND := Lib.hid hend
  have HIT := Lib.hid h.info
  have HDN : Hid (∀ w : World, Calls Tryz.prog 84 #[.agg ts] w fun e w' => e = .returned (.bool false) ∧ Below w.heap.size w w') := Lib.hid fun w => gdone_no h.c0 w
  have e1 : (W.alloc (.cells ts 60)).heap.size = W.heap.size + 1 := by simp
  clear h hm hld hend
  go_enter Tryz.func86, Tryz.ntmps86
  go_upto_region 6 with (first
    | (refine wpList_alloc_ts rfl rfl ?_; intro zs hz; have HZ := Lib.hid hz; have hg := (HM.out.boxNew ts 60).boxNew zs 60; rw [e1] at hg; have H1 := Lib.hid hg.swap; rw [e1]; generalize (W.alloc (.cells ts 60)).alloc (.cells zs 60) = w1 at *; generalize W.heap.size = b at *; clear hg hz e1)
    | (refine wpList_load_row rfl 60 (.tmp 1) rfl b rfl 60 ts (0, 0) _ H1.out.boxIs Tryz.underlying60 rfl HIT.out ?_)
    | (go_at_call 84; refine (HDN.out _).mono ?_; rintro e w2 ⟨rfl, hb⟩; have H2 := Lib.hid (H1.out.keep hb); clear hb HDN)
    | (refine wpList_load_row rfl 60 (.tmp 1) rfl b rfl 60 ts (0, 0) _ H2.out.boxIs Tryz.underlying60 rfl HIT.out ?_)
    | (go_at_call 129; refine (HLOAD.out _ _ H2.out).mono ?_; rintro e w3 ⟨cs, rfl, hsc, hg⟩; have HCS := Lib.hid hsc; have HCI := Lib.hid hsc.info; have H3 := Lib.hid hg; clear hsc hg)
    | (refine wpList_alloc_sc rfl rfl ?_; intro ys hy; have HY := Lib.hid hy; have hg := H3.out.boxNew ys 58; have HA := Lib.hid hg.boxIs; have H4 := Lib.hid (hg.boxRow cs).swap; generalize w3.alloc (.cells ys 58) = w4 at *; generalize w3.heap.size = c at *; clear hg hy)
    | (refine wpList_store_row rfl 58 (.tmp 4) (.tmp 12) rfl c cs rfl rfl 58 _ HA.out HCI.out (by rw [HCS.out.size]; exact HY.out) HCS.out.one ?_; generalize World.setRow _ c cs = w5 at *))
  have HS : Hid (∃ ts', ts'.size = 41 ∧ Sg (((R.box W0.heap.size (b + 1) zs 60).box W0.heap.size c cs 58).box W0.heap.size b ts' 60) W0 w5.drew p a k cur ids cl pub sn sc xs st') := Lib.hid ⟨_, HT.out.size, H4.out.keep (Below.drew (Below.refl _ _))⟩
  refine wp_region_held_drew (S := fun w' => ∃ ts', ts'.size = 41 ∧ Sg (((R.box W0.heap.size (b + 1) zs 60).box W0.heap.size c cs 58).box W0.heap.size b ts' 60) W0 w' p a k cur ids cl pub sn sc xs st') (by kernel_rfl) HS.out (fun hHeld => ?_)
  have H5 := Lib.hid (H4.out.keep (Below.drew (Below.refl _ w5)))
  clear HS H4
  generalize w5.drew = w5 at *
  refine wpAnyH_take (i := 0) (v := .agg cs) rfl (by kernel_rfl) (by kernel_rfl) (by kernel_rfl) (fun _ _ _ h => h) (yieldsIf_load_row (by rfl) 58 (.tmp 4) rfl c rfl 58 cs _ (fun w hw => hw.choose_spec.2.boxDrop.boxIs) Tryz.underlying58 rfl HCI.out) (by assumption) ?_
  try simp only [List.getElem_toArray, List.getElem_cons_succ, List.getElem_cons_zero, Act.put, List.setIfInBounds_toArray, List.set_cons_zero, List.set_cons_succ]
  refine wpAnyH_take (i := 1) (v := (.pointer (some ⟨b, 3, none⟩))) rfl (by kernel_rfl) (by kernel_rfl) (by kernel_rfl) (fun _ _ _ h => h) (Or.inl ⟨by rfl, fun w hw => by go_simp⟩) (by assumption) ?_
  try simp only [List.getElem_toArray, List.getElem_cons_succ, List.getElem_cons_zero, Act.put, List.setIfInBounds_toArray, List.set_cons_zero, List.set_cons_succ]
  refine wpAnyH_ready (rs := [2]) (by kernel_rfl) (by simp) (AllReadyH.cons rfl (fun K hK => ?_) AllReadyH.nil)
  rw [if_pos (by rfl)]
  have c3 := (H5.out.boxIn 3).trans HT.out.c3
  have f3 := obj_free H5.out.boxIs 3
  go_simp
  have H6 := Lib.hid (H5.out.boxSet 3 (.bool true))
  have s6 : (ts.setIfInBounds 3 (.bool true)).size = 41 := by simpa using HT.out.size
  refine hK.out _ _ ⟨_, s6, H6.out⟩ (fun hHeld => ?_)
  clear hK K c3 f3 H5
  generalize World.setCell _ _ _ = w6 at *
  try simp only [List.getElem_toArray, List.getElem_cons_succ, List.getElem_cons_zero, Act.put, List.setIfInBounds_toArray, List.set_cons_zero, List.set_cons_succ]
  refine wpAnyH_take (i := 3) (v := (.pointer (some ⟨b, 4, none⟩))) rfl (by kernel_rfl) (by kernel_rfl) (by kernel_rfl) (fun _ _ _ h => h) (Or.inl ⟨by rfl, fun w hw => by go_simp⟩) (by assumption) ?_
  try simp only [List.getElem_toArray, List.getElem_cons_succ, List.getElem_cons_zero, Act.put, List.setIfInBounds_toArray, List.set_cons_zero, List.set_cons_succ]
  refine wpAnyH_ready (rs := [4]) (by kernel_rfl) (by simp) (AllReadyH.cons rfl (fun K hK => ?_) AllReadyH.nil)
  rw [if_pos (by rfl)]
  refine wp_store_mid 58 (.tmp 23) (.tmp 21) rfl b 4 cs rfl rfl (by rw [HCS.out.size]; exact H6.out.there s6) HCI.out HCS.out.one ?_
  have H7 := Lib.hid (H6.out.scanIn s6 HCS.out.size)
  have HT2 := Lib.hid (HT.out.reads HCS.out)
  refine hK.out _ _ ⟨_, HT2.out.size, H7.out⟩ (fun hHeld => ?_)
  clear hK K H6 s6
  generalize World.setCells _ _ _ _ = w7 at *
  generalize putG (ts.setIfInBounds 3 (.bool true)) cs = ts2 at *
  try simp only [List.getElem_toArray, List.getElem_cons_succ, List.getElem_cons_zero, Act.put, List.setIfInBounds_toArray, List.set_cons_zero, List.set_cons_succ]
  refine wpAnyH_done (by kernel_rfl) ?_ _
  clear hHeld
  have HI2 := Lib.hid HT2.out.info
  have hdd : decide (l'.length ≤ seen') = true := decide_eq_true hd
  go_upto_region 8 with (first
    | (refine wpList_load_row rfl 58 (.tmp 4) rfl c rfl 58 cs (0, 0) _ H7.out.boxDrop.boxIs Tryz.underlying58 rfl HCI.out ?_)
    | (go_at_call 130; refine (sdone HCS.out _).mono ?_; rintro e w8 ⟨rfl, hb⟩; rw [hdd]; have H8 := Lib.hid (H7.out.keep hb); clear hb))
  have n0 : ∀ x : Later w8, x.to.cell? ⟨b, 0, none⟩ = some (.pointer (some ⟨p, 0, none⟩)) := fun x => ((H8.out.keep x.below).boxIn 0).trans HT2.out.c0
  have HLR : Hid (∀ w', (∃ x : Later w8, w' = x.to) → w'.heap[c]? = some (.cells cs 58 (0, 0))) := by
    rintro _ ⟨x, rfl⟩
    exact (H8.out.keep x.below).boxDrop.boxIs
  have HSL : Hid (∀ x : Later w8, Calls Tryz.prog 131 #[.agg cs] x.to fun e w'' => e = .returned (.int .i64 lst') ∧ ∃ y : Later w8, w'' = y.to) := fun x => (sleast HCS.out _).mono fun e w h => ⟨h.1, ⟨w, bthen x.below h.2⟩, rfl⟩
  refine wp_region_later_tail 6 (by kernel_rfl) (by kernel_rfl) ?_
  simp only [List.take_succ_cons, List.take_zero, List.drop_succ_cons, List.drop_zero]
  repeat (first
    | (go_big_quiet_want; refine quiet_load_rowG 58 (.tmp 4) rfl c rfl 58 cs (0, 0) _ HLR.out Tryz.underlying58 rfl HCI.out ?_; go_big_quiet_on; go_frame)
    | go_big_quiet_step ((go_at_call 131; exact HSL.out _)))
  refine wpQuiet_nil ?_
  intro w9 hw'
  obtain ⟨⟨w9', hb9⟩, hw9⟩ := hw'
  obtain rfl : w9 = w9' := hw9
  have H9 := Lib.hid (H8.out.keep hb9)
  have c38 := H9.out.c.c38
  have f38 := H9.out.f 38
  have H10 := Lib.hid (H9.out.seen lst')
  clear n0 hb9
  go_wp2_with (first
    | (refine wpList_load_row rfl 60 (.tmp 1) rfl b rfl 60 ts2 (0, 0) _ H10.out.boxIs Tryz.underlying60 rfl HI2.out ?_)
    | (go_at_call 127; refine (HEND.out _ HT2.out _ _ H10.out).mono ?_; rintro e w11 ⟨ts', rfl, hdd', hg⟩; have HD := Lib.hid hdd'; have HDI := Lib.hid hdd'.info; have H11 := Lib.hid hg.boxDrop.boxDrop; clear hdd' hg)
    | (refine wpList_store_row rfl 60 (.tmp 2) (.tmp 33) rfl (b + 1) ts' rfl rfl 60 _ H11.out.boxIs HDI.out (by rw [HD.out.size]; exact HZ.out) HD.out.one ?_))
  exact bodyPost_ret (results_row_fault (p := 2) (u := 3) (by kernel_rfl) _ _ (b + 1) 60 ts' (0, 0) _ _ rfl rfl (H11.out.boxRow ts').boxIs Tryz.underlying60 rfl HDI.out) rfl ⟨ts', rfl, HD.out, (H11.out.boxRow ts').boxDrop⟩
end
end Go.Proofs.YtdfcfdcekdmcmaaGreat
namespace Go.Proofs.YtdfcfdcekdmcmaaGreat
open Go.RowKit
set_option linter.unusedVariables false
section
variable {R : Rest} {W0 W w : World} {p a k cur : Nat} {ids xs l : List Int} {cl pub sn sc st last least : Int} {ts : Array Value} {rd : Bool} {seen : Nat}
theorem gstep_alone (h : TsF ts p cl last false l seen least) (hm : Sg R W0 W p a k cur [] cl pub sn sc xs st) (hk : k ≤ 20) (hx : xs[cur]? = some pub) (hl : last - two k ≤ pub) (h0 : 0 ≤ st) (h1 : st < 4611686018427387904) (h2 : -4611686018427387905 ≤ last) (h3 : last ≤ 4611686018427387904) :
    Calls Tryz.prog 86 #[.agg ts] W fun e w' => ∃ ts', e = .returned (.tuple #[.agg ts', .nilIface]) ∧ TsD ts' last true false ∧ Sg R W0 w' p a k cur [] last pub pub sc xs (st + 1) :=
  gstep_end h hm (fun R w hw => gload_first h hw hx h0 h1) (by simp) fun ts2 h2' R w hw => gend_got h2' rfl hw hk hl h2 h3
end
section
theorem seq_one (p : Nat) (sl u : Value) (W : World) : Calls Tryz.prog 95 #[.agg #[sl, .pointer (some ⟨p, 0, none⟩), .pointer none, u]] W fun e w' => e = .returned (.iface 53 (.pointer (some ⟨p, 0, none⟩))) ∧ Below W.heap.size W w' := by
  go_enter Tryz.func95, Tryz.ntmps95
  go_wp2
  go_ret
  exact ⟨rfl, balloc (Below.refl _ _) _⟩
theorem seq_many (p : Nat) (sl o u : Value) (W : World) : Calls Tryz.prog 95 #[.agg #[sl, o, .pointer (some ⟨p, 0, none⟩), u]] W fun e w' => e = .returned (.iface 61 (.pointer (some ⟨p, 0, none⟩))) ∧ Below W.heap.size W w' := by
  go_enter Tryz.func95, Tryz.ntmps95
  go_wp2
  go_ret
  exact ⟨rfl, balloc (Below.refl _ _) _⟩
end
end Go.Proofs.YtdfcfdcekdmcmaaGreat
