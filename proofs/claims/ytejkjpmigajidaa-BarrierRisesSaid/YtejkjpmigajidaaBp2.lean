/-
  A step of a barrier's probe, by contract. Conditions: the cells are there; fewer than 2^62 steps.
  A barrier's probe, all steps that are left, by contract. Conditions: the cells are there; fewer than 2^62 steps.
-/
import Derived.Test.YtejkjpmigajidaaBp0
import Derived.Test.YtejkjpmigajidaaBr6
namespace Go.Proofs.Ytejkjpmigajidaa
open Go.RowKit
set_option linter.unusedVariables false

/-- A function does one load and answers a probe that is so. -/
def StepC (F : FuncId) (R : Rest) (W0 : World) (a : Nat) (xs : List Int) (st : Int) (ts : Array Value) (Q : Array Value → Prop) : Prop :=
  ∀ R' : Rest, (∀ w, R'.inv w → R.inv w) → ∀ w, Mv R' W0 w a xs st → Calls Try.prog F #[.agg ts, .pointer (some ⟨a, 0, none⟩)] w fun e w' => ∃ ts', e = .returned (.tuple #[.agg ts', .nilIface]) ∧ Q ts' ∧ Mv R' W0 w' a xs (st + 1)
section
variable {R : Rest} {W0 : World} {a : Nat} {xs : List Int} {st : Int} {ts : Array Value} {bp : Option Addr} {next sign most found : Int} {Q : Array Value → Prop}
set_option maxHeartbeats 2000000 in
set_option maxRecDepth 100000 in
theorem pread1 (h : PbF ts bp 1 next sign most found) (hQ : ∀ ts', Q ts' → ts'.size = 41 ∧ ts'.all (·.oneCell') = true) (hC : StepC 134 R W0 a xs st ts Q) : StepC 122 R W0 a xs st ts Q := by
  intro R' hR W hm
  have HC := Lib.hid hC
  have HQ := Lib.hid hQ
  have HR := Lib.hid hR
  have HT := Lib.hid h
  have HI := Lib.hid (pb_info h.size)
  have HS : Hid (∀ zs : Array Value, zs.size = 41 → P2 R' W0 ((W.alloc (.cells ts 134)).alloc (.cells zs 134)) a xs st W.heap.size ts zs) := Lib.hid fun zs hz => P2.start hm ts hz
  clear h hm hC hQ hR
  go_enter Try.func122, Try.ntmps122
  go_upto_region 1 with (refine wpList_alloc_pb rfl rfl ?_; intro zs hz; have H1 := Lib.hid (HS.out zs hz); generalize (W.alloc (.cells ts 134)).alloc (.cells zs 134) = w1 at *)
  have k1 : w1.cell? ⟨W.heap.size, 1, none⟩ = some (.int .i64 1) := (H1.out.cell 1).trans HT.out.c1
  clear HS
  generalize W.heap.size = b at *
  go_wp2_with (first
    | (go_at_call 134; refine (HC.out ((R'.and b ts 134).and (b + 1) zs 134) (fun w h => HR.out w h.1.1) _ H1.out.mv).mono ?_; rintro e w2 ⟨us, rfl, hq, hm2⟩; have H2 := Lib.hid (P2.mk hm2 H1.out.z H1.out.low H1.out.np); have HU := Lib.hid (HQ.out _ hq); have HUI := Lib.hid (pb_info (HQ.out _ hq).1); have HQQ := Lib.hid hq; clear hm2 hq)
    | (refine wpList_load_row rfl 134 (.tmp 2) rfl b rfl 134 _ (0, 0) _ H1.out.t Try.underlying134 rfl HI.out ?_)
    | (refine wpList_store_row rfl 134 (.tmp 4) (.tmp 14) rfl (b + 1) us rfl rfl 134 _ H2.out.r HUI.out (by rw [HU.out.1]; exact H2.out.z) HU.out.2 ?_))
  exact bodyPost_ret (results_row_fault (p := 4) (u := 5) (by kernel_rfl) _ _ (b + 1) 134 _ (0, 0) _ _ rfl rfl (H2.out.out _).1 Try.underlying134 rfl HUI.out) rfl ⟨_, rfl, HQQ.out, (H2.out.out _).2⟩
set_option maxHeartbeats 2000000 in
set_option maxRecDepth 100000 in
theorem pread2 (h : PbF ts bp 2 next sign most found) (hQ : ∀ ts', Q ts' → ts'.size = 41 ∧ ts'.all (·.oneCell') = true) (hC : StepC 135 R W0 a xs st ts Q) : StepC 122 R W0 a xs st ts Q := by
  intro R' hR W hm
  have HC := Lib.hid hC
  have HQ := Lib.hid hQ
  have HR := Lib.hid hR
  have HT := Lib.hid h
  have HI := Lib.hid (pb_info h.size)
  have HS : Hid (∀ zs : Array Value, zs.size = 41 → P2 R' W0 ((W.alloc (.cells ts 134)).alloc (.cells zs 134)) a xs st W.heap.size ts zs) := Lib.hid fun zs hz => P2.start hm ts hz
  clear h hm hC hQ hR
  go_enter Try.func122, Try.ntmps122
  go_upto_region 1 with (refine wpList_alloc_pb rfl rfl ?_; intro zs hz; have H1 := Lib.hid (HS.out zs hz); generalize (W.alloc (.cells ts 134)).alloc (.cells zs 134) = w1 at *)
  have k1 : w1.cell? ⟨W.heap.size, 1, none⟩ = some (.int .i64 2) := (H1.out.cell 1).trans HT.out.c1
  clear HS
  generalize W.heap.size = b at *
  go_wp2_with (first
    | (go_at_call 135; refine (HC.out ((R'.and b ts 134).and (b + 1) zs 134) (fun w h => HR.out w h.1.1) _ H1.out.mv).mono ?_; rintro e w2 ⟨us, rfl, hq, hm2⟩; have H2 := Lib.hid (P2.mk hm2 H1.out.z H1.out.low H1.out.np); have HU := Lib.hid (HQ.out _ hq); have HUI := Lib.hid (pb_info (HQ.out _ hq).1); have HQQ := Lib.hid hq; clear hm2 hq)
    | (refine wpList_load_row rfl 134 (.tmp 2) rfl b rfl 134 _ (0, 0) _ H1.out.t Try.underlying134 rfl HI.out ?_)
    | (refine wpList_store_row rfl 134 (.tmp 4) (.tmp 21) rfl (b + 1) us rfl rfl 134 _ H2.out.r HUI.out (by rw [HU.out.1]; exact H2.out.z) HU.out.2 ?_))
  exact bodyPost_ret (results_row_fault (p := 4) (u := 5) (by kernel_rfl) _ _ (b + 1) 134 _ (0, 0) _ _ rfl rfl (H2.out.out _).1 Try.underlying134 rfl HUI.out) rfl ⟨_, rfl, HQQ.out, (H2.out.out _).2⟩
set_option maxHeartbeats 2000000 in
set_option maxRecDepth 100000 in
theorem pread3 (h : PbF ts bp 3 next sign most found) (hQ : ∀ ts', Q ts' → ts'.size = 41 ∧ ts'.all (·.oneCell') = true) (hC : StepC 136 R W0 a xs st ts Q) : StepC 122 R W0 a xs st ts Q := by
  intro R' hR W hm
  have HC := Lib.hid hC
  have HQ := Lib.hid hQ
  have HR := Lib.hid hR
  have HT := Lib.hid h
  have HI := Lib.hid (pb_info h.size)
  have HS : Hid (∀ zs : Array Value, zs.size = 41 → P2 R' W0 ((W.alloc (.cells ts 134)).alloc (.cells zs 134)) a xs st W.heap.size ts zs) := Lib.hid fun zs hz => P2.start hm ts hz
  clear h hm hC hQ hR
  go_enter Try.func122, Try.ntmps122
  go_upto_region 1 with (refine wpList_alloc_pb rfl rfl ?_; intro zs hz; have H1 := Lib.hid (HS.out zs hz); generalize (W.alloc (.cells ts 134)).alloc (.cells zs 134) = w1 at *)
  have k1 : w1.cell? ⟨W.heap.size, 1, none⟩ = some (.int .i64 3) := (H1.out.cell 1).trans HT.out.c1
  clear HS
  generalize W.heap.size = b at *
  go_wp2_with (first
    | (go_at_call 136; refine (HC.out ((R'.and b ts 134).and (b + 1) zs 134) (fun w h => HR.out w h.1.1) _ H1.out.mv).mono ?_; rintro e w2 ⟨us, rfl, hq, hm2⟩; have H2 := Lib.hid (P2.mk hm2 H1.out.z H1.out.low H1.out.np); have HU := Lib.hid (HQ.out _ hq); have HUI := Lib.hid (pb_info (HQ.out _ hq).1); have HQQ := Lib.hid hq; clear hm2 hq)
    | (refine wpList_load_row rfl 134 (.tmp 2) rfl b rfl 134 _ (0, 0) _ H1.out.t Try.underlying134 rfl HI.out ?_)
    | (refine wpList_store_row rfl 134 (.tmp 4) (.tmp 28) rfl (b + 1) us rfl rfl 134 _ H2.out.r HUI.out (by rw [HU.out.1]; exact H2.out.z) HU.out.2 ?_))
  exact bodyPost_ret (results_row_fault (p := 4) (u := 5) (by kernel_rfl) _ _ (b + 1) 134 _ (0, 0) _ _ rfl rfl (H2.out.out _).1 Try.underlying134 rfl HUI.out) rfl ⟨_, rfl, HQQ.out, (H2.out.out _).2⟩
set_option maxHeartbeats 2000000 in
set_option maxRecDepth 100000 in
theorem pread4 (h : PbF ts bp 4 next sign most found) (hQ : ∀ ts', Q ts' → ts'.size = 41 ∧ ts'.all (·.oneCell') = true) (hC : StepC 137 R W0 a xs st ts Q) : StepC 122 R W0 a xs st ts Q := by
  intro R' hR W hm
  have HC := Lib.hid hC
  have HQ := Lib.hid hQ
  have HR := Lib.hid hR
  have HT := Lib.hid h
  have HI := Lib.hid (pb_info h.size)
  have HS : Hid (∀ zs : Array Value, zs.size = 41 → P2 R' W0 ((W.alloc (.cells ts 134)).alloc (.cells zs 134)) a xs st W.heap.size ts zs) := Lib.hid fun zs hz => P2.start hm ts hz
  clear h hm hC hQ hR
  go_enter Try.func122, Try.ntmps122
  go_upto_region 1 with (refine wpList_alloc_pb rfl rfl ?_; intro zs hz; have H1 := Lib.hid (HS.out zs hz); generalize (W.alloc (.cells ts 134)).alloc (.cells zs 134) = w1 at *)
  have k1 : w1.cell? ⟨W.heap.size, 1, none⟩ = some (.int .i64 4) := (H1.out.cell 1).trans HT.out.c1
  clear HS
  generalize W.heap.size = b at *
  go_wp2_with (first
    | (go_at_call 137; refine (HC.out ((R'.and b ts 134).and (b + 1) zs 134) (fun w h => HR.out w h.1.1) _ H1.out.mv).mono ?_; rintro e w2 ⟨us, rfl, hq, hm2⟩; have H2 := Lib.hid (P2.mk hm2 H1.out.z H1.out.low H1.out.np); have HU := Lib.hid (HQ.out _ hq); have HUI := Lib.hid (pb_info (HQ.out _ hq).1); have HQQ := Lib.hid hq; clear hm2 hq)
    | (refine wpList_load_row rfl 134 (.tmp 2) rfl b rfl 134 _ (0, 0) _ H1.out.t Try.underlying134 rfl HI.out ?_)
    | (refine wpList_store_row rfl 134 (.tmp 4) (.tmp 35) rfl (b + 1) us rfl rfl 134 _ H2.out.r HUI.out (by rw [HU.out.1]; exact H2.out.z) HU.out.2 ?_))
  exact bodyPost_ret (results_row_fault (p := 4) (u := 5) (by kernel_rfl) _ _ (b + 1) 134 _ (0, 0) _ _ rfl rfl (H2.out.out _).1 Try.underlying134 rfl HUI.out) rfl ⟨_, rfl, HQQ.out, (H2.out.out _).2⟩
set_option maxHeartbeats 2000000 in
set_option maxRecDepth 100000 in
theorem pstep_of (h41 : ts.size = 41) (hQ : ∀ ts', Q ts' → ts'.size = 41 ∧ ts'.all (·.oneCell') = true) (hC : StepC 122 R W0 a xs st ts Q) : StepC 83 R W0 a xs st ts Q := by
  intro R' hR W hm
  have HC := Lib.hid hC
  have HQ := Lib.hid hQ
  have HR := Lib.hid hR
  have HI := Lib.hid (pb_info h41)
  have HS : Hid (∀ zs : Array Value, zs.size = 41 → P2 R' W0 ((W.alloc (.cells ts 134)).alloc (.cells zs 134)) a xs st W.heap.size ts zs) := Lib.hid fun zs hz => P2.start hm ts hz
  clear hm hC hQ hR h41
  go_enter Try.func83, Try.ntmps83
  go_upto_region 1 with (refine wpList_alloc_pb rfl rfl ?_; intro zs hz; have H1 := Lib.hid (HS.out zs hz); generalize (W.alloc (.cells ts 134)).alloc (.cells zs 134) = w1 at *)
  clear HS
  generalize W.heap.size = b at *
  go_upto_region 4 with (first
    | (go_at_call 122; refine (HC.out ((R'.and b ts 134).and (b + 1) zs 134) (fun w h => HR.out w h.1.1) _ H1.out.mv).mono ?_; rintro e w2 ⟨us, rfl, hq, hm2⟩; have H2 := Lib.hid (P2.mk hm2 H1.out.z H1.out.low H1.out.np); have HU := Lib.hid (HQ.out _ hq); have HUI := Lib.hid (pb_info (HQ.out _ hq).1); have HQQ := Lib.hid hq; clear hm2 hq)
    | (refine wpList_load_row rfl 134 (.tmp 2) rfl b rfl 134 _ (0, 0) _ H1.out.t Try.underlying134 rfl HI.out ?_)
    | (refine wpList_alloc_pb rfl rfl ?_; intro zs2 hz2; have H3 := Lib.hid (H2.out.keep (balloc (Below.refl _ _) (.cells zs2 134))); have HN := Lib.hid (obj_new w2 (.cells zs2 134)); have HB := Lib.hid (P2.newer H2.out); generalize w2.alloc (.cells zs2 134) = w3 at *; generalize w2.heap.size = nb at *)
    | (refine wpList_store_row rfl 134 (.tmp 6) (.tmp 19) rfl nb us rfl rfl 134 _ HN.out HUI.out (by rw [HU.out.1]; exact hz2) HU.out.2 ?_; have H4 := Lib.hid (H3.out.other HN.out (by decide) (by decide) HB.out ((Frm.refl (fun k => k = nb) _).setRow rfl us)); have HN4 := Lib.hid (setRow_heap _ nb _ us _ _ HN.out); generalize World.setRow _ nb us = w4 at *))
  go_wp2_with (first
    | (refine wpList_load_row rfl 134 (.tmp 6) rfl nb rfl 134 _ (0, 0) _ HN4.out Try.underlying134 rfl HUI.out ?_)
    | (refine wpList_store_row rfl 134 (.tmp 4) (.tmp 28) rfl (b + 1) us rfl rfl 134 _ H4.out.r HUI.out (by rw [HU.out.1]; exact H4.out.z) HU.out.2 ?_))
  exact bodyPost_ret (results_row_fault (p := 4) (u := 5) (by kernel_rfl) _ _ (b + 1) 134 _ (0, 0) _ _ rfl rfl (H4.out.out _).1 Try.underlying134 rfl HUI.out) rfl ⟨_, rfl, HQQ.out, (H4.out.out _).2⟩
end
section
variable {R : Rest} {W0 : World} {a bb : Nat} {xs ids : List Int} {st : Int} {ts cs : Array Value} {cur al : Nat} {sh : Sho} {p : Pr}
theorem PrF.q {ts : Array Value} {bp : Option Addr} {ids : List Int} {p : Pr} (h : PrF ts bp ids p) : ts.size = 41 ∧ ts.all (·.oneCell') = true := ⟨h.f.size, h.f.one⟩
/-- A step, whatever it is. -/
theorem pstep_any (h : PrF ts (some ⟨bb, 0, none⟩) ids p) (hw : Bw R bb cs cur al sh ids) (hi : InB xs cur al sh ids) (hok : POk (valsOf xs ids) (sbOf xs sh) p) (h0 : 0 ≤ st) (h1 : st < 4611686018427387904) :
    StepC 83 R W0 a xs st ts (fun ts' => PrF ts' (some ⟨bb, 0, none⟩) ids (stepB xs cur al sh ids p)) := by
  refine pstep_of h.f.size (fun ts' h => h.q) ?_
  obtain ⟨stg, next, sign, most, found, seen, least⟩ := p
  have hf := h.f
  have hs := h.s
  simp only at hf hs
  rcases hok with h1' | ⟨h2', hlt⟩ | h3' | ⟨h4', hsm, hf1, hf2⟩
  · have e1 : stg = 1 := h1'
    subst e1
    refine pread1 hf (fun ts' h => h.q) fun R' hR w hm => ?_
    by_cases hy : yOf xs al = 1
    · refine (pheed_alert hf hm (fun w h => hw.blk w (hR w h)) hw.f (by rw [← hy]; exact hi.y) h0 h1).mono ?_
      rintro e w' ⟨ts', rfl, hp, hm'⟩
      refine ⟨ts', rfl, ?_, hm'⟩
      have e : stepB xs cur al sh ids ⟨1, next, sign, most, found, seen, least⟩ = ⟨0, next, 1, most, found, seen, least⟩ := by
        unfold stepB stepP
        rw [if_pos rfl, if_pos hy, hy]
      rw [e]
      exact ⟨hp, fun h => absurd h (by show ¬ (0 : Int) = 2; decide)⟩
    · by_cases hn : 0 < ids.length
      · refine (pheed_ahead hf hm (fun w h => hw.blk w (hR w h)) hw.f hi.y hy hn h0 h1).mono ?_
        rintro e w' ⟨ts', rfl, hp, hps, hm'⟩
        refine ⟨ts', rfl, ?_, hm'⟩
        have e : stepB xs cur al sh ids ⟨1, next, sign, most, found, seen, least⟩ = ⟨2, next, yOf xs al, most, found, 0, 9223372036854775807⟩ := by
          unfold stepB stepP
          rw [if_pos rfl, if_neg hy, if_pos (by rw [vals_len]; exact hn)]
        rw [e]
        exact ⟨hp, fun _ => hps⟩
      · refine (pheed_reach hf hm (fun w h => hw.blk w (hR w h)) hw.f hi.y hy (by omega) h0 h1).mono ?_
        rintro e w' ⟨ts', rfl, hp, hm'⟩
        refine ⟨ts', rfl, ?_, hm'⟩
        have e : stepB xs cur al sh ids ⟨1, next, sign, most, found, seen, least⟩ = ⟨3, next, yOf xs al, most, found, seen, least⟩ := by
          unfold stepB stepP
          rw [if_pos rfl, if_neg hy, if_neg (by rw [vals_len]; exact hn)]
        rw [e]
        exact ⟨hp, fun h => absurd h (by show ¬ (3 : Int) = 2; decide)⟩
  · have e1 : stg = 2 := h2'
    subst e1
    have hlt' : seen < ids.length := by rw [vals_len] at hlt; exact hlt
    obtain ⟨z, hz, hx⟩ := hi.v hlt'
    refine pread2 hf (fun ts' h => h.q) fun R' hR w hm => ?_
    by_cases hl : seen + 1 < ids.length
    · refine (pfollow_more hf (hs rfl) hm hw.len hl hz hx h0 h1).mono ?_
      rintro e w' ⟨ts', rfl, hp, hps, hm'⟩
      refine ⟨ts', rfl, ?_, hm'⟩
      have e : stepB xs cur al sh ids ⟨2, next, sign, most, found, seen, least⟩ = ⟨2, next, sign, most, found, seen + 1, min least ((valsOf xs ids).getD seen 0)⟩ := by
        unfold stepB stepP
        rw [if_neg (by show ¬ (2 : Int) = 1; decide), if_pos rfl, if_pos (by rw [vals_len]; exact hl)]
      rw [e]
      exact ⟨hp, fun _ => hps⟩
    · refine (pfollow_last hf (hs rfl) hm hw.len (by omega) hz hx h0 h1).mono ?_
      rintro e w' ⟨ts', rfl, hp, hm'⟩
      refine ⟨ts', rfl, ?_, hm'⟩
      have e : stepB xs cur al sh ids ⟨2, next, sign, most, found, seen, least⟩ = ⟨0, next, sign, most, max found (min least ((valsOf xs ids).getD seen 0)), seen, least⟩ := by
        unfold stepB stepP
        rw [if_neg (by show ¬ (2 : Int) = 1; decide), if_pos rfl, if_neg (by rw [vals_len]; exact hl)]
      rw [e]
      exact ⟨hp, fun h => absurd h (by show ¬ (0 : Int) = 2; decide)⟩
  · have e1 : stg = 3 := h3'
    subst e1
    refine pread3 hf (fun ts' h => h.q) fun R' hR w hm => ?_
    by_cases hc : sh = none ∨ cOf xs cur < next
    · refine (preach hf hm (fun w h => hw.blk w (hR w h)) hw.f hi.c h0 h1 (hc.imp (fun h => by rw [h]; rfl) id)).mono ?_
      rintro e w' ⟨ts', rfl, hp, hm'⟩
      refine ⟨ts', rfl, ?_, hm'⟩
      have e : stepB xs cur al sh ids ⟨3, next, sign, most, found, seen, least⟩ = ⟨0, next, sign, most, max found (cOf xs cur), seen, least⟩ := by
        unfold stepB stepP
        rw [if_neg (by show ¬ (3 : Int) = 1; decide), if_neg (by show ¬ (3 : Int) = 2; decide), if_pos rfl]
        cases sh with
        | none => rfl
        | some t => show (if cOf xs cur < next then _ else _) = _; rw [if_pos (hc.resolve_left (by simp))]
      rw [e]
      exact ⟨hp, fun h => absurd h (by show ¬ (0 : Int) = 2; decide)⟩
    · obtain ⟨t, rfl⟩ : ∃ t, sh = some t := by
        cases sh with
        | none => exact absurd (.inl rfl) hc
        | some t => exact ⟨t, rfl⟩
      have hcn : ¬ cOf xs cur < next := fun h => hc (.inr h)
      refine (preach_more (sp := ⟨t.1, 0, none⟩) hf hm (fun w h => hw.blk w (hR w h)) hw.f hi.c h0 h1 (by omega)).mono ?_
      rintro e w' ⟨ts', rfl, hp, hm'⟩
      refine ⟨ts', rfl, ?_, hm'⟩
      have e : stepB xs cur al (some t) ids ⟨3, next, sign, most, found, seen, least⟩ = ⟨4, next, sign, cOf xs cur, found, seen, least⟩ := by
        unfold stepB stepP
        rw [if_neg (by show ¬ (3 : Int) = 1; decide), if_neg (by show ¬ (3 : Int) = 2; decide), if_pos rfl]
        show (if cOf xs cur < next then _ else _) = _
        rw [if_neg hcn]
      rw [e]
      exact ⟨hp, fun h => absurd h (by show ¬ (4 : Int) = 2; decide)⟩
  · have e1 : stg = 4 := h4'
    subst e1
    obtain ⟨⟨q, f, k⟩, rfl⟩ : ∃ t, sh = some t := by
      cases sh with
      | none => cases hsm
      | some t => exact ⟨t, rfl⟩
    have hfq := hw.sh q f k rfl
    have hl := hi.sh q f k rfl
    simp only at hf1 hf2
    have hst : ∀ b, shownB xs f k (found + 1) = b → stepB xs cur al (some (q, f, k)) ids ⟨4, next, sign, most, found, seen, least⟩ = if b = true then ⟨if most ≤ found + 1 then 0 else 4, next, sign, most, found + 1, seen, least⟩ else ⟨0, next, sign, most, found, seen, least⟩ := by
      rintro b rfl
      unfold stepB stepP
      rw [if_neg (by show ¬ (4 : Int) = 1; decide), if_neg (by show ¬ (4 : Int) = 2; decide), if_neg (by show ¬ (4 : Int) = 3; decide), if_pos rfl]
      rfl
    refine pread4 hf (fun ts' h => h.q) fun R' hR w hm => ?_
    cases hb : shownB xs f k (found + 1) with
    | false =>
      refine (pwalk_no hf hm (fun w h => hw.blk w (hR w h)) hw.f (fun w h => hfq w (hR w h)) hl hf1 hf2 hb h0 h1).mono ?_
      rintro e w' ⟨ts', rfl, hp, hm'⟩
      refine ⟨ts', rfl, ?_, hm'⟩
      rw [hst _ hb, if_neg (by decide)]
      exact ⟨hp, fun h => absurd h (by show ¬ (0 : Int) = 2; decide)⟩
    | true =>
      by_cases hm1 : most ≤ found + 1
      · refine (pwalk_end hf hm (fun w h => hw.blk w (hR w h)) hw.f (fun w h => hfq w (hR w h)) hl hf1 hf2 hb hm1 h0 h1).mono ?_
        rintro e w' ⟨ts', rfl, hp, hm'⟩
        refine ⟨ts', rfl, ?_, hm'⟩
        rw [hst _ hb, if_pos rfl, if_pos hm1]
        exact ⟨hp, fun h => absurd h (by show ¬ (0 : Int) = 2; decide)⟩
      · refine (pwalk_on hf hm (fun w h => hw.blk w (hR w h)) hw.f (fun w h => hfq w (hR w h)) hl hf1 hf2 hb (by omega) h0 h1).mono ?_
        rintro e w' ⟨ts', rfl, hp, hm'⟩
        refine ⟨ts', rfl, ?_, hm'⟩
        rw [hst _ hb, if_pos rfl, if_neg hm1]
        exact ⟨hp, fun h => absurd h (by show ¬ (4 : Int) = 2; decide)⟩
end
end Go.Proofs.Ytejkjpmigajidaa
namespace Go.Proofs.Ytejkjpmigajidaa
open Go.RowKit
set_option linter.unusedVariables false

/-- How many steps an arena counts. -/
def stepsOf (a : Nat) (w : World) : Int := intOf ((w.cell? ⟨a, 1, none⟩).getD undef)
theorem Mv.stepsIs {R : Rest} {W0 w : World} {a : Nat} {xs : List Int} {st : Int} (h : Mv R W0 w a xs st) : stepsOf a w = st := by
  obtain ⟨v, h1, _⟩ := h
  unfold stepsOf
  rw [h1.c1]
  rfl
theorem P2.put {R : Rest} {W0 w : World} {a b : Nat} {xs : List Int} {st : Int} {ts zs : Array Value} (h : P2 R W0 w a xs st b ts zs) (us : Array Value) : P2 R W0 (w.setRow b us) a xs st b us zs :=
  h.turn ((Frm.refl (fun k => k = b) w).setRow rfl us) (setRow_heap _ _ _ _ _ _ h.t)
/-- What holds between two steps. -/
def SeI (R : Rest) (W0 : World) (a bb : Nat) (xs ids : List Int) (cur al : Nat) (sh : Sho) (b : Nat) (zs : Array Value) (q : Pr) (st : Int) (n : Nat) (w : World) : Prop :=
  ∃ ts p m, PrF ts (some ⟨bb, 0, none⟩) ids p ∧ Ends (yOf xs al) (valsOf xs ids) (cOf xs cur) (sbOf xs sh) p q m ∧ m ≤ n ∧ P2 R W0 w a xs (st + n - m) b ts zs
section
variable {R : Rest} {W0 W : World} {a bb : Nat} {xs ids : List Int} {st : Int} {ts cs : Array Value} {cur al : Nat} {sh : Sho} {p q : Pr} {n : Nat}
set_option maxHeartbeats 2000000 in
set_option maxRecDepth 100000 in
theorem psettle (h : PrF ts (some ⟨bb, 0, none⟩) ids p) (hw : Bw R bb cs cur al sh ids) (hi : InB xs cur al sh ids) (hE : Ends (yOf xs al) (valsOf xs ids) (cOf xs cur) (sbOf xs sh) p q n) (hm : Mv R W0 W a xs st) (h0 : 0 ≤ st) (h1 : st + n < 4611686018427387904) :
    Calls Try.prog 120 #[.agg ts, .pointer (some ⟨a, 0, none⟩)] W fun e w' => ∃ ts', e = .returned (.tuple #[.agg ts', .nilIface]) ∧ PrF ts' (some ⟨bb, 0, none⟩) ids q ∧ Mv R W0 w' a xs (st + n) := by
  have HT := Lib.hid h
  have HE := Lib.hid hE
  have HW := Lib.hid hw
  have HIB := Lib.hid hi
  have HI := Lib.hid (pb_info h.f.size)
  have HS : Hid (∀ zs : Array Value, zs.size = 41 → P2 R W0 ((W.alloc (.cells ts 134)).alloc (.cells zs 134)) a xs st W.heap.size ts zs) := Lib.hid fun zs hz => P2.start hm ts hz
  clear h hm hw hi hE
  go_enter Try.func120, Try.ntmps120
  go_wp2_with (refine wpList_alloc_pb rfl rfl ?_; intro zs hz; have H1 := Lib.hid (HS.out zs hz); generalize (W.alloc (.cells ts 134)).alloc (.cells zs 134) = w1 at *)
  clear HS
  generalize W.heap.size = b at *
  have HSI : Hid (SeI R W0 a bb xs ids cur al sh b zs q st n w1) := Lib.hid ⟨ts, p, n, HT.out, HE.out, Nat.le_refl _, by rw [show st + (n : Int) - (n : Int) = st by omega]; exact H1.out⟩
  clear H1 HT HE HI
  go_loopw [6, 7] (fun _ _ wl => Hid (SeI R W0 a bb xs ids cur al sh b zs q st n wl)) (fun _ _ wl => (st + n - stepsOf a wl).toNat)
  case atStart => exact HSI
  case round =>
    clear HSI
    obtain ⟨us, r, m, hf, he, hmn, hp⟩ := hrel.out
    have HF := Lib.hid hf
    have HFI := Lib.hid (pb_info hf.f.size)
    have HP := Lib.hid hp
    have HST := Lib.hid hp.mv.stepsIs
    have HMN := Lib.hid hmn
    clear hrel hf hp hmn
    by_cases hs : r.stg = 0
    · have hb : (r.stg == 0) = true := by simpa using hs
      have HB := Lib.hid hb
      obtain ⟨rfl, rfl⟩ : r = q ∧ m = 0 := by
        cases he with
        | done _ => exact ⟨rfl, rfl⟩
        | step ok _ => exact absurd hs ok.ne
      clear hs hb he
      have HP0 : Hid (P2 R W0 wr a xs (st + n) b us zs) := Lib.hid (by have := HP.out; rw [show st + (n : Int) - ((0 : Nat) : Int) = st + n by omega] at this; exact this)
      clear HP
      go_wp2_with (first
        | (go_at_call 81; refine (pdone HF.out.f.c1 _).mono ?_; rintro e w2 ⟨rfl, hb⟩; rw [HB.out]; have H2 := Lib.hid (HP0.out.keep hb); clear hb)
        | (refine wpList_load_row rfl 134 (.tmp 2) rfl b rfl 134 _ (0, 0) _ HP0.out.t Try.underlying134 rfl HFI.out ?_)
        | (refine wpList_load_row rfl 134 (.tmp 2) rfl b rfl 134 _ (0, 0) _ H2.out.t Try.underlying134 rfl HFI.out ?_)
        | (refine wpList_store_row rfl 134 (.tmp 4) (.tmp 22) rfl (b + 1) us rfl rfl 134 _ H2.out.r HFI.out (by rw [HF.out.q.1]; exact H2.out.z) HF.out.q.2 ?_))
      exact bodyPost_ret (results_row_fault (p := 4) (u := 5) (by kernel_rfl) _ _ (b + 1) 134 _ (0, 0) _ _ rfl rfl (H2.out.out _).1 Try.underlying134 rfl HFI.out) rfl ⟨_, rfl, HF.out, (H2.out.out _).2⟩
    · have hb : (r.stg == 0) = false := by simpa using hs
      have HB := Lib.hid hb
      obtain ⟨m', rfl, hok, he'⟩ : ∃ m', m = m' + 1 ∧ POk (valsOf xs ids) (sbOf xs sh) r ∧ Ends (yOf xs al) (valsOf xs ids) (cOf xs cur) (sbOf xs sh) (stepB xs cur al sh ids r) q m' := by
        cases he with
        | done h => exact absurd h hs
        | step ok e => exact ⟨_, rfl, ok, e⟩
      have HE := Lib.hid he'
      have HC : Hid (StepC 83 R W0 a xs (st + n - ((m' + 1 : Nat) : Int)) us (fun ts' => PrF ts' (some ⟨bb, 0, none⟩) ids (stepB xs cur al sh ids r))) := Lib.hid (pstep_any HF.out HW.out HIB.out hok (by have := HMN.out; omega) (by omega))
      clear hs hb he he' hok
      go_wp2_with (first
        | (go_at_call 81; refine (pdone HF.out.f.c1 _).mono ?_; rintro e w2 ⟨rfl, hb⟩; rw [HB.out]; have H2 := Lib.hid (HP.out.keep hb); clear hb)
        | (refine wpList_load_row rfl 134 (.tmp 2) rfl b rfl 134 _ (0, 0) _ HP.out.t Try.underlying134 rfl HFI.out ?_)
        | (refine wpList_load_row rfl 134 (.tmp 2) rfl b rfl 134 _ (0, 0) _ H2.out.t Try.underlying134 rfl HFI.out ?_)
        | (go_at_call 83; refine (HC.out ((R.and b us 134).and (b + 1) zs 134) (fun w h => h.1.1) _ H2.out.mv).mono ?_; rintro e w3 ⟨vs, rfl, hq, hm2⟩; have H3 := Lib.hid (P2.mk hm2 H2.out.z H2.out.low H2.out.np); have HV := Lib.hid hq; have HVI := Lib.hid (pb_info hq.f.size); clear hm2 hq)
        | (refine wpList_alloc_pb rfl rfl ?_; intro zs2 hz2; have H4 := Lib.hid (H3.out.keep (balloc (Below.refl _ _) (.cells zs2 134))); have HN := Lib.hid (obj_new w3 (.cells zs2 134)); have HNB := Lib.hid (P2.newer H3.out); generalize w3.alloc (.cells zs2 134) = w4 at *; generalize w3.heap.size = nb at *)
        | (refine wpList_store_row rfl 134 (.tmp 6) (.tmp 15) rfl nb vs rfl rfl 134 _ HN.out HVI.out (by rw [HV.out.q.1]; exact hz2) HV.out.q.2 ?_; have H5 := Lib.hid (H4.out.other HN.out (by decide) (by decide) HNB.out ((Frm.refl (fun k => k = nb) _).setRow rfl vs)); have HN5 := Lib.hid (setRow_heap _ nb _ vs _ _ HN.out); generalize World.setRow _ nb vs = w5 at *)
        | (refine wpList_load_row rfl 134 (.tmp 6) rfl nb rfl 134 _ (0, 0) _ HN5.out Try.underlying134 rfl HVI.out ?_)
        | (refine wpList_store_row rfl 134 (.tmp 2) (.tmp 21) rfl b vs rfl rfl 134 _ H5.out.t HVI.out (by rw [HV.out.q.1]; exact HF.out.q.1) HV.out.q.2 ?_; have H6 := Lib.hid (H5.out.put vs); generalize World.setRow _ b vs = w6 at *))
      have HMM := HMN.out
      have HS6 := H6.out.mv.stepsIs
      have HS0 := HST.out
      try simp only [Act.put, List.setIfInBounds_toArray, List.set_cons_zero, List.set_cons_succ]
      refine ⟨⟨_, _, _, _, _, _, _, _, _, _, _, _, _, _, _, _, _, Lib.hid ⟨vs, _, m', HV.out, HE.out, by omega, by have := H6.out; rw [show st + (n : Int) - ((m' + 1 : Nat) : Int) + 1 = st + n - m' by omega] at this; exact this⟩, rfl⟩, by rw [HS6, HS0]; omega⟩
end
end Go.Proofs.Ytejkjpmigajidaa
