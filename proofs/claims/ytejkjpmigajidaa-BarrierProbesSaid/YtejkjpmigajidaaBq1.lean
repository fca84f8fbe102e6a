/-
  A step of a barrier's probe that is settled, and one without an arena, by contract. Conditions: as each theorem names them.
-/
import Derived.Test.YtejkjpmigajidaaBl1
namespace Go.Proofs.Ytejkjpmigajidaa
open Go.RowKit
set_option linter.unusedVariables false
set_option linter.unusedSimpArgs false

/-- A function does no load and answers the probe itself. -/
def Step0C (F : FuncId) (W0 : World) (a : Nat) (xs : List Int) (st : Int) (ts : Array Value) : Prop :=
  ∀ R' : Rest, ∀ w, Mv R' W0 w a xs st → Calls Try.prog F #[.agg ts, .pointer (some ⟨a, 0, none⟩)] w fun e w' => e = .returned (.tuple #[.agg ts, .nilIface]) ∧ Mv R' W0 w' a xs st
section
variable {W0 : World} {a : Nat} {xs : List Int} {st : Int} {ts : Array Value} {bp : Option Addr} {next sign most found : Int}
set_option maxHeartbeats 2000000 in
set_option maxRecDepth 100000 in
theorem pread0 (h : PbF ts bp 0 next sign most found) : Step0C 122 W0 a xs st ts := by
  intro R' W hm
  have HT := Lib.hid h
  have HI := Lib.hid (pb_info h.size)
  have HS : Hid (∀ zs : Array Value, zs.size = 41 → P2 R' W0 ((W.alloc (.cells ts 134)).alloc (.cells zs 134)) a xs st W.heap.size ts zs) := Lib.hid fun zs hz => P2.start hm ts hz
  clear h hm
  go_enter Try.func122, Try.ntmps122
  go_upto_region 1 with (refine wpList_alloc_pb rfl rfl ?_; intro zs hz; have H1 := Lib.hid (HS.out zs hz); generalize (W.alloc (.cells ts 134)).alloc (.cells zs 134) = w1 at *)
  have k1 : w1.cell? ⟨W.heap.size, 1, none⟩ = some (.int .i64 0) := (H1.out.cell 1).trans HT.out.c1
  clear HS
  generalize W.heap.size = b at *
  go_wp2_with (first
    | (refine wpList_load_row rfl 134 (.tmp 2) rfl b rfl 134 _ (0, 0) _ H1.out.t Try.underlying134 rfl HI.out ?_)
    | (refine wpList_store_row rfl 134 (.tmp 4) (.tmp 8) rfl (b + 1) ts rfl rfl 134 _ H1.out.r HI.out (by rw [HT.out.size]; exact H1.out.z) HT.out.one ?_))
  exact bodyPost_ret (results_row_fault (p := 4) (u := 5) (by kernel_rfl) _ _ (b + 1) 134 _ (0, 0) _ _ rfl rfl (H1.out.out _).1 Try.underlying134 rfl HI.out) rfl ⟨rfl, (H1.out.out _).2⟩
set_option maxHeartbeats 2000000 in
set_option maxRecDepth 100000 in
theorem pstep0 (h : PbF ts bp 0 next sign most found) : Step0C 83 W0 a xs st ts := by
  intro R' W hm
  have HC : Hid (Step0C 122 W0 a xs st ts) := Lib.hid (pread0 h)
  have HT := Lib.hid h
  have HI := Lib.hid (pb_info h.size)
  have HS : Hid (∀ zs : Array Value, zs.size = 41 → P2 R' W0 ((W.alloc (.cells ts 134)).alloc (.cells zs 134)) a xs st W.heap.size ts zs) := Lib.hid fun zs hz => P2.start hm ts hz
  clear hm h
  go_enter Try.func83, Try.ntmps83
  go_upto_region 1 with (refine wpList_alloc_pb rfl rfl ?_; intro zs hz; have H1 := Lib.hid (HS.out zs hz); generalize (W.alloc (.cells ts 134)).alloc (.cells zs 134) = w1 at *)
  clear HS
  generalize W.heap.size = b at *
  go_upto_region 4 with (first
    | (go_at_call 122; refine (HC.out _ _ H1.out.mv).mono ?_; rintro e w2 ⟨rfl, hm2⟩; have H2 := Lib.hid (P2.mk hm2 H1.out.z H1.out.low H1.out.np); clear hm2)
    | (refine wpList_load_row rfl 134 (.tmp 2) rfl b rfl 134 _ (0, 0) _ H1.out.t Try.underlying134 rfl HI.out ?_)
    | (refine wpList_alloc_pb rfl rfl ?_; intro zs2 hz2; have H3 := Lib.hid (H2.out.keep (balloc (Below.refl _ _) (.cells zs2 134))); have HN := Lib.hid (obj_new w2 (.cells zs2 134)); have HB := Lib.hid (P2.newer H2.out); generalize w2.alloc (.cells zs2 134) = w3 at *; generalize w2.heap.size = nb at *)
    | (refine wpList_store_row rfl 134 (.tmp 6) (.tmp 19) rfl nb ts rfl rfl 134 _ HN.out HI.out (by rw [HT.out.size]; exact hz2) HT.out.one ?_; have H4 := Lib.hid (H3.out.other HN.out (by decide) (by decide) HB.out ((Frm.refl (fun k => k = nb) _).setRow rfl ts)); have HN4 := Lib.hid (setRow_heap _ nb _ ts _ _ HN.out); generalize World.setRow _ nb ts = w4 at *))
  go_wp2_with (first
    | (refine wpList_load_row rfl 134 (.tmp 6) rfl nb rfl 134 _ (0, 0) _ HN4.out Try.underlying134 rfl HI.out ?_)
    | (refine wpList_store_row rfl 134 (.tmp 4) (.tmp 28) rfl (b + 1) ts rfl rfl 134 _ H4.out.r HI.out (by rw [HT.out.size]; exact H4.out.z) HT.out.one ?_))
  exact bodyPost_ret (results_row_fault (p := 4) (u := 5) (by kernel_rfl) _ _ (b + 1) 134 _ (0, 0) _ _ rfl rfl (H4.out.out _).1 Try.underlying134 rfl HI.out) rfl ⟨rfl, (H4.out.out _).2⟩
set_option maxHeartbeats 2000000 in
set_option maxRecDepth 100000 in
theorem pstep_nil {stg : Int} {W : World} (h : PbF ts bp stg next sign most found) :
    Calls Try.prog 83 #[.agg ts, .pointer none] W fun e w' => ∃ E, e = .returned (.tuple #[.agg ts, E]) ∧ ErrAt w' E 2 ∧ Below W.heap.size W w' := by
  have HT := Lib.hid h
  have HI := Lib.hid (pb_info h.size)
  have H0 : Hid (∀ zs : Array Value, zs.size = 41 → TwP W ((W.alloc (.cells ts 134)).alloc (.cells zs 134)) W.heap.size ts zs) := fun zs hz => TwP.start W ts zs hz
  clear h
  go_enter Try.func83, Try.ntmps83
  go_upto_region 2 with (refine wpList_alloc_pb rfl rfl ?_; intro zs hz; have H1 := Lib.hid (H0.out zs hz); generalize (W.alloc (.cells ts 134)).alloc (.cells zs 134) = w1 at *)
  clear H0
  generalize W.heap.size = b at *
  have HIL : Hid ((Try.prog.info? 134).map (·.size) = some ts.toList.length) := Lib.hid (by rw [HI.out]; simp)
  have HRG : Hid (∀ w : World, w.heap[b]? = some (.cells ts 134 (0, 0)) → w.rangeAt b 0 ts.toList) := Lib.hid fun w hb => by
    intro i v hv
    rw [Nat.zero_add, obj_cell hb]
    simpa using hv
  have HS : Hid (∃ zs, TwP W w1.drew b ts zs) := Lib.hid ⟨zs, H1.out.keep (Below.drew (Below.refl _ _))⟩
  refine wp_region_held_drew (S := fun w' => ∃ zs, TwP W w' b ts zs) (by kernel_rfl) HS.out (fun hHeld => ?_)
  have H1 := Lib.hid (H1.out.keep (Below.drew (Below.refl _ w1)))
  clear HS
  generalize w1.drew = w2 at *
  refine wpAnyH_take (i := 0) (v := .agg ts.toList.toArray) rfl (by kernel_rfl) (by kernel_rfl) (by kernel_rfl) (fun _ _ _ h => h) (yieldsIf_load_mid (by rfl) 134 (.tmp 2) rfl b 0 rfl ts.toList _ (fun w hw => HRG.out _ (hw.choose_spec).t) Try.underlying134 rfl HIL.out) (by assumption) ?_
  try simp only [Act.put, List.setIfInBounds_toArray, List.set_cons_zero, List.set_cons_succ, List.getElem_toArray, List.getElem_cons_succ, List.getElem_cons_zero]
  refine wpAnyH_take (i := 1) (v := (.pointer (some ⟨b, 2, none⟩))) rfl (by kernel_rfl) (by kernel_rfl) (by kernel_rfl) (fun _ _ _ h => h) (Or.inl ⟨by rfl, fun w hw => by go_simp⟩) (by assumption) ?_
  try simp only [Act.put, List.setIfInBounds_toArray, List.set_cons_zero, List.set_cons_succ, List.getElem_toArray, List.getElem_cons_succ, List.getElem_cons_zero]
  refine wpAnyH_take (i := 2) (v := (.int .i64 next)) rfl (by kernel_rfl) (by kernel_rfl) (by kernel_rfl) (fun _ _ _ h => h) (Or.inl ⟨by rfl, fun w hw => by have e0 := (hw.choose_spec.cell 2).trans HT.out.c2; clear hw; go_simp⟩) (by assumption) ?_
  try simp only [Act.put, List.setIfInBounds_toArray, List.set_cons_zero, List.set_cons_succ, List.getElem_toArray, List.getElem_cons_succ, List.getElem_cons_zero]
  refine wpAnyH_take (i := 3) (v := (.iface 142 (.int .i64 2))) rfl (by kernel_rfl) (by kernel_rfl) (by kernel_rfl) (fun _ _ _ h => h) (Or.inl ⟨by rfl, fun w hw => by go_simp⟩) (by assumption) ?_
  try simp only [Act.put, List.setIfInBounds_toArray, List.set_cons_zero, List.set_cons_succ, List.getElem_toArray, List.getElem_cons_succ, List.getElem_cons_zero]
  refine wpAnyH_ready (rs := [4]) (by kernel_rfl) (by simp) (AllReadyH.cons rfl (fun K hK => ?_) AllReadyH.nil)
  rw [if_pos (by rfl)]
  go_simp
  go_at_call 87
  refine (wrap_q _ _ _).mono ?_
  rintro e w3 ⟨p, rfl, hr⟩
  have HR := Lib.hid hr
  have H3 := Lib.hid (H1.out.keep hr.below)
  clear hr
  go_wp2_with fail
  refine hK.out _ _ ⟨_, H3.out⟩ (fun hHeld => ?_)
  clear hK K
  try simp only [Act.put, List.setIfInBounds_toArray, List.set_cons_zero, List.set_cons_succ, List.getElem_toArray, List.getElem_cons_succ, List.getElem_cons_zero]
  refine wpAnyH_ready (rs := [5]) (by kernel_rfl) (by simp) (AllReadyH.cons rfl (fun K hK => ?_) AllReadyH.nil)
  rw [if_pos (by rfl)]
  refine wp_store_row 134 (.tmp 4) (.tmp 10) rfl (b + 1) ts.toList.toArray rfl rfl 134 _ H3.out.r (by rw [Array.toArray_toList]; exact HI.out) (by rw [Array.toArray_toList, HT.out.size]; exact H3.out.z) (by rw [Array.toArray_toList]; exact HT.out.one) ?_
  have H4 : Hid ((w3.setRow (b + 1) ts.toList.toArray).heap[b + 1]? = some (.cells ts 134 (0, 0)) ∧ Below W.heap.size W (w3.setRow (b + 1) ts.toList.toArray) ∧ ErrAt (w3.setRow (b + 1) ts.toList.toArray) (.iface 178 (.pointer (some ⟨p, 0, none⟩))) 2 ∧ TwP W (w3.setRow (b + 1) ts.toList.toArray) b ts ts) := Lib.hid (by
    rw [Array.toArray_toList]
    obtain ⟨h1, h2⟩ := H3.out.out ts
    exact ⟨h1, h2, (ErrAt.of HR.out (by decide)).row H3.out.r (by decide), ((Frm.refl (fun k => k = b + 1) w3).setRow rfl ts).obj H3.out.t (by omega), h1, HT.out.size, h2, H3.out.le⟩)
  generalize w3.setRow (b + 1) ts.toList.toArray = w4 at *
  refine hK.out _ _ ⟨ts, H4.out.2.2.2⟩ (fun hHeld => ?_)
  clear hK K
  try simp only [Act.put, List.setIfInBounds_toArray, List.set_cons_zero, List.set_cons_succ, List.getElem_toArray, List.getElem_cons_succ, List.getElem_cons_zero]
  refine wpAnyH_take (i := 6) (v := (.iface 178 (.pointer (some ⟨p, 0, none⟩)))) rfl (by kernel_rfl) (by kernel_rfl) (by kernel_rfl) (fun _ _ _ h => h) (Or.inl ⟨by rfl, fun w hw => by go_simp⟩) (by assumption) ?_
  try simp only [Act.put, List.setIfInBounds_toArray, List.set_cons_zero, List.set_cons_succ, List.getElem_toArray, List.getElem_cons_succ, List.getElem_cons_zero]
  refine wpAnyH_done (by kernel_rfl) ?_ _
  clear hHeld
  go_wp2_with fail
  exact bodyPost_ret (results_row_fault (p := 4) (u := 5) (by kernel_rfl) _ _ (b + 1) 134 _ (0, 0) _ _ rfl rfl H4.out.1 Try.underlying134 rfl HI.out) rfl ⟨_, rfl, H4.out.2.2.1, H4.out.2.1⟩
end
/-- A step keeps the index; the first one reads the sign. -/
theorem stepP_next {y : Int} {vs : List Int} {c : Int} {sb : Option (Int → Bool)} {p : Pr} : (stepP y vs c sb p).next = p.next := by
  unfold stepP
  repeat' split
  all_goals rfl
theorem stepP_sign {y : Int} {vs : List Int} {c : Int} {sb : Option (Int → Bool)} {p : Pr} (h : p.stg = 1 ∨ p.sign = y) : (stepP y vs c sb p).sign = y := by
  unfold stepP
  repeat' split
  all_goals first | rfl | exact h.resolve_left (by assumption)
end Go.Proofs.Ytejkjpmigajidaa
