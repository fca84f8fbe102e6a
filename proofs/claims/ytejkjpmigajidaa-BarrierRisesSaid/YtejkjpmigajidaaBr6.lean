/-
  A probe of a barrier has a scan amid its cells: what is put there, and what a step of it does. Conditions: the cells are there; fewer than 2^62 steps.
  A probe of a barrier reads the alert's cell, where it isn't Alerted. Conditions: the cells are there; fewer than 2^62 steps.
  A probe of a barrier reads one more of those ahead. Conditions: the cells are there; fewer than 2^62 steps.
  A probe of a barrier reads whether one index more is shown. Conditions: the cells are there; the index lies from 0 to 2^62; fewer than 2^62 steps.
-/
import Derived.Test.YtejkjpmigajidaaBr1
import Derived.Test.YtejkjpmigajidaaTr7
import Derived.Test.YtejkjpmigajidaaR9
namespace Go.Proofs.Ytejkjpmigajidaa
open Go.RowKit
set_option linter.unusedVariables false

/-- The scan put in. -/
def putP (ts cs : Array Value) : Array Value := (ts.toList.take 4 ++ cs.toList ++ ts.toList.drop (4 + cs.toList.length)).toArray
theorem putP_get {ts cs : Array Value} (hs : ts.size = 41) (hc : cs.size = 35) (i : Nat) : (putP ts cs)[i]? = if i < 4 then ts[i]? else if i < 39 then cs[i - 4]? else ts[i]? := by
  have hl : (ts.toList.take 4).length = 4 := by simp; omega
  have hl2 : (ts.toList.take 4 ++ cs.toList).length = 39 := by rw [List.length_append, hl]; simp [hc]
  simp only [putP, List.getElem?_toArray]
  by_cases h1 : i < 4
  · rw [if_pos h1, List.getElem?_append_left (by omega), List.getElem?_append_left (by omega), List.getElem?_take, if_pos h1]
    simp
  · rw [if_neg h1]
    by_cases h2 : i < 39
    · rw [if_pos h2, List.getElem?_append_left (by omega), List.getElem?_append_right (by omega), hl]
      simp
    · rw [if_neg h2, List.getElem?_append_right (by omega), hl2, List.getElem?_drop]
      have : 4 + cs.toList.length + (i - 39) = i := by simp [hc]; omega
      rw [this]
      simp
theorem putP_size {ts cs : Array Value} (hs : ts.size = 41) (hc : cs.size = 35) : (putP ts cs).size = 41 := by
  simp [putP, hs, hc]
/-- A probe's scan. -/
def PbS (ts : Array Value) (ids : List Int) (seen : Nat) (least : Int) : Prop := Sc (ts.extract 4 39) ids seen least
section
variable {ts cs : Array Value} {bp : Option Addr} {at_ next sign most found : Int} {ids : List Int} {seen : Nat} {least : Int}
theorem PbF.scan (h : PbF ts bp at_ next sign most found) (hc : Sc cs ids seen least) : PbF (putP ts cs) bp at_ next sign most found := by
  have hs := h.size
  have hg := putP_get hs hc.size
  refine ⟨putP_size hs hc.size, ?_, (hg 0).trans h.c0, (hg 1).trans h.c1, (hg 2).trans h.c2, (hg 3).trans h.c3, (hg 39).trans h.c39, (hg 40).trans h.c40⟩
  have h1 := h.one
  have h2 := hc.one
  rw [Array.all_eq_true_iff_forall_mem] at h1 h2 ⊢
  intro y hy
  simp only [putP, List.mem_toArray, List.mem_append] at hy
  rcases hy with (hy | hy) | hy
  · exact h1 y (by simpa using List.mem_of_mem_take hy)
  · exact h2 y (by simpa using hy)
  · exact h1 y (by simpa using List.mem_of_mem_drop hy)
theorem putP_scan (hs : ts.size = 41) (hc : Sc cs ids seen least) : PbS (putP ts cs) ids seen least := by
  have hg := putP_get hs hc.size
  have hz := hc.size
  have : (putP ts cs).extract 4 39 = cs := by
    apply Array.ext_getElem?
    intro j
    simp only [Array.getElem?_extract, putP_size hs hz]
    by_cases hj : j < 35
    · rw [if_pos (by omega), hg, if_neg (by omega), if_pos (by omega)]
      congr 1
      omega
    · rw [if_neg (by omega), Array.getElem?_eq_none (by omega)]
  unfold PbS
  rw [this]
  exact hc
theorem PbS.set (h : PbS ts ids seen least) {i : Nat} (hi : i < 4 ∨ 39 ≤ i) (v : Value) : PbS (ts.setIfInBounds i v) ids seen least := by
  have : (ts.setIfInBounds i v).extract 4 39 = ts.extract 4 39 := by
    apply Array.ext_getElem?
    intro j
    simp only [Array.getElem?_extract, Array.size_setIfInBounds]
    split
    · rw [Array.getElem?_setIfInBounds_ne (by omega)]
    · rfl
  unfold PbS
  rw [this]
  exact h
theorem PbS.sl (h : PbS ts ids seen least) (hs : ts.size = 41) : ∃ sl : List Value, Sc sl.toArray ids seen least ∧ sl.length = 35 ∧ ∀ (W : World) (b : Nat) (T : TypeId) (m : Nat × Nat), W.heap[b]? = some (.cells ts T m) → W.rangeAt b 4 sl := by
  refine ⟨(ts.extract 4 (4 + 35)).toList, ?_, ?_, fun W b T m hb => World.rangeAt_of_block hb 4 35⟩
  · rw [Array.toArray_toList]
    exact h
  · simp
    omega
end
section
variable {R : Rest} {W0 W w w' : World} {a b : Nat} {xs : List Int} {st : Int} {ts zs cs : Array Value}
theorem P2.scan (h : P2 R W0 w a xs st b ts zs) (hs : ts.size = 41) (hc : cs.size = 35) : P2 R W0 (w.setCells b 4 cs.toList) a xs st b (putP ts cs) zs := by
  refine h.turn (frm_setCells _ 4 _ _ (Frm.refl _ _)) ?_
  have ht : w.heap[b]? = some (.cells ts.toList.toArray 134 (0, 0)) := by rw [Array.toArray_toList]; exact h.t
  exact obj_setCells cs.toList 4 w ts.toList ht (by simp; omega)
theorem P2.there (h : P2 R W0 w a xs st b ts zs) (hs : ts.size = 41) : w.there b 4 35 := by
  intro j hj
  refine ⟨?_, obj_free h.t _⟩
  rw [obj_cell h.t, Array.getElem?_eq_getElem (by omega)]
  rfl
theorem P2.newer (h : P2 R W0 w a xs st b ts zs) : b + 1 < w.heap.size := lt_of_block h.r
/-- A block of a scan's turns. -/
theorem P2.other {nb : Nat} {T : TypeId} (h : P2 R W0 w a xs st b ts zs) (hn : w.heap[nb]? = some (.cells cs T (0, 0))) (t1 : T ≠ 147) (t2 : 2 ≠ T) (hb : b + 1 < nb) (hf : Frm (fun k => k = nb) w w') : P2 R W0 w' a xs st b ts zs := by
  have ht := h.t
  have hr := h.r
  refine ⟨h.mv.turn hf (fun g o ho e => ?_) (fun g hg => .inl hg) ⟨⟨?_, hf.obj ht (by omega)⟩, hf.obj hr (by omega)⟩, h.z, h.low, h.np⟩
  · subst e
    rw [hn] at ho
    cases ho
    obtain ⟨v, ha, _⟩ := h.mv
    exact ⟨by have := h.low; omega, obj_ne hn ha.1 t1, fun c e => by injection e with _ e2 _; exact t2 e2.symm⟩
  · exact R.ok _ _ h.inv fun k hk => hf.block k (Nat.lt_trans (h.np k hk) (lt_of_block ht)) (by have := h.np k hk; omega)
theorem sstep_m (hm : Mv R W0 W a xs st) {js : List Int} {seen z : Nat} {least x : Int} (h : Sc cs js seen least) (hl : js.length ≤ 32) (hs : seen < js.length) (hz : js.getD seen 0 = z) (hx : xs[z]? = some x) (h0 : 0 ≤ st) (h1 : st < 4611686018427387904) :
    Calls Try.prog 52 #[.agg cs, .pointer (some ⟨a, 0, none⟩)] W fun e w' => ∃ cs', e = .returned (.tuple #[.agg cs', .nilIface]) ∧ Sc cs' js (seen + 1) (min least x) ∧ Mv R W0 w' a xs (st + 1) ∧ ∀ (g : Nat) (c : Array Value) (T : TypeId) (m : Nat × Nat), W.heap[g]? = some (.cells c T m) → T ≠ 147 → w'.heap[g]? = some (.cells c T m) := by
  obtain ⟨v, ha, h3, h4, h5, h6⟩ := hm
  refine (sstep_ok h hl hs ha hz hx h0 h1).mono ?_
  rintro e w' ⟨cs', he, hc, hld⟩
  exact ⟨cs', he, hc, Mv.step ha h3 h4 h5 h6 ⟨v, hld.1, hld.2.mono fun _ _ e => .inl e, .inl rfl⟩, fun g c T m hg hT => oth_loaded ha hld hg hT⟩
/-- How many a group has, wherever it lies. -/
theorem glen_q {g o : Nat} {T : TypeId} {ids : List Int} (h : Blk W g cs T) (hq : Gq cs o ids) : Calls Try.prog 128 #[.pointer (some ⟨g, o, none⟩)] W fun e w' => e = .returned (.int .i64 ids.length) ∧ Below W.heap.size W w' := by
  have HI := Lib.hid (in_q h hq)
  clear h hq
  go_enter Try.func128, Try.ntmps128
  go_wp2_with (first
    | (go_at_call 104; refine HI.out.mono ?_; rintro e w1 ⟨rfl, hb⟩; have HB := Lib.hid hb; clear hb))
  go_ret
  exact ⟨rfl, HB.out⟩
end
end Go.Proofs.Ytejkjpmigajidaa
namespace Go.Proofs.Ytejkjpmigajidaa
open Go.RowKit
set_option linter.unusedVariables false

section
variable {R : Rest} {W0 W : World} {a bb : Nat} {xs : List Int} {st : Int} {ts cs : Array Value} {at_ next sign most found : Int} {cur al : Nat} {sh : Option Addr} {ids : List Int}
theorem PbF.sgn {bp : Option Addr} (h : PbF ts bp at_ next sign most found) (m : Int) : PbF (ts.setIfInBounds 3 (.int .i64 m)) bp at_ next m most found := by
  have hs := h.size
  refine ⟨by simp [hs], all_set h.one _ _ rfl, ?_, ?_, ?_, ?_, ?_, ?_⟩
  · rw [Array.getElem?_setIfInBounds_ne (by decide)]; exact h.c0
  · rw [Array.getElem?_setIfInBounds_ne (by decide)]; exact h.c1
  · rw [Array.getElem?_setIfInBounds_ne (by decide)]; exact h.c2
  · rw [Array.getElem?_setIfInBounds_self_of_lt (by omega)]
  · rw [Array.getElem?_setIfInBounds_ne (by decide)]; exact h.c39
  · rw [Array.getElem?_setIfInBounds_ne (by decide)]; exact h.c40
theorem PbF.stg {bp : Option Addr} (h : PbF ts bp at_ next sign most found) (m : Int) : PbF (ts.setIfInBounds 1 (.int .i64 m)) bp m next sign most found := by
  have hs := h.size
  refine ⟨by simp [hs], all_set h.one _ _ rfl, ?_, ?_, ?_, ?_, ?_, ?_⟩
  · rw [Array.getElem?_setIfInBounds_ne (by decide)]; exact h.c0
  · rw [Array.getElem?_setIfInBounds_self_of_lt (by omega)]
  · rw [Array.getElem?_setIfInBounds_ne (by decide)]; exact h.c2
  · rw [Array.getElem?_setIfInBounds_ne (by decide)]; exact h.c3
  · rw [Array.getElem?_setIfInBounds_ne (by decide)]; exact h.c39
  · rw [Array.getElem?_setIfInBounds_ne (by decide)]; exact h.c40
theorem PbF.fnd {bp : Option Addr} (h : PbF ts bp at_ next sign most found) (m : Int) : PbF (ts.setIfInBounds 40 (.int .i64 m)) bp at_ next sign most m := by
  have hs := h.size
  refine ⟨by simp [hs], all_set h.one _ _ rfl, ?_, ?_, ?_, ?_, ?_, ?_⟩
  · rw [Array.getElem?_setIfInBounds_ne (by decide)]; exact h.c0
  · rw [Array.getElem?_setIfInBounds_ne (by decide)]; exact h.c1
  · rw [Array.getElem?_setIfInBounds_ne (by decide)]; exact h.c2
  · rw [Array.getElem?_setIfInBounds_ne (by decide)]; exact h.c3
  · rw [Array.getElem?_setIfInBounds_ne (by decide)]; exact h.c39
  · rw [Array.getElem?_setIfInBounds_self_of_lt (by omega)]
set_option maxHeartbeats 2000000 in
set_option maxRecDepth 100000 in
theorem pheed_reach (h : PbF ts (some ⟨bb, 0, none⟩) at_ next sign most found) (hm : Mv R W0 W a xs st) (hB : ∀ w, R.inv w → Blk w bb cs 177) (hF : BrF cs cur sh ids al) {y : Int} (hx : xs[al]? = some y) (hy : y ≠ 1) (hn : ids.length = 0) (h0 : 0 ≤ st) (h1 : st < 4611686018427387904) :
    Calls Try.prog 134 #[.agg ts, .pointer (some ⟨a, 0, none⟩)] W fun e w' => ∃ ts', e = .returned (.tuple #[.agg ts', .nilIface]) ∧ PbF ts' (some ⟨bb, 0, none⟩) 3 next y most found ∧ Mv R W0 w' a xs (st + 1) := by
  have d0 : (y == 1) = false := by simpa using hy
  have d1 : decide ((0 : Int) < (ids.length : Int)) = false := decide_eq_false (by omega)
  have d2 : decide (0 < ids.length) = false := decide_eq_false (by omega)
  have HX := Lib.hid hx
  have HB := Lib.hid hB
  have HF := Lib.hid hF
  have HT := Lib.hid h
  have HT3 := Lib.hid (h.sgn y)
  have HU := Lib.hid ((h.sgn y).stg 3)
  have HI := Lib.hid (pb_info h.size)
  have HUI := Lib.hid (pb_info HU.out.size)
  have HS : Hid (∀ zs : Array Value, zs.size = 41 → P2 R W0 ((W.alloc (.cells ts 134)).alloc (.cells zs 134)) a xs st W.heap.size ts zs) := Lib.hid fun zs hz => P2.start hm ts hz
  clear h hm hx hB hF hy hn
  go_enter Try.func134, Try.ntmps134
  go_upto_region 1 with (refine wpList_alloc_pb rfl rfl ?_; intro zs hz; have H1 := Lib.hid (HS.out zs hz); generalize (W.alloc (.cells ts 134)).alloc (.cells zs 134) = w1 at *)
  have k0 : w1.cell? ⟨W.heap.size, 0, none⟩ = some (.pointer (some ⟨bb, 0, none⟩)) := (H1.out.cell 0).trans HT.out.c0
  have kb : w1.cell? ⟨bb, 35, none⟩ = some (.int .i64 al) := (obj_cell (HB.out _ H1.out.inv) 35).trans HF.out.c35
  clear HS
  generalize W.heap.size = b at *
  go_upto_region 4 with (go_at_call 30; refine (H1.out.load al y HX.out h0 h1).mono ?_; rintro e w2 ⟨rfl, h2⟩; have H2 := Lib.hid h2; clear h2)
  clear k0 kb
  have k3 : w2.cell? ⟨b, 3, none⟩ = some (.int .i64 sign) := (H2.out.cell 3).trans HT.out.c3
  have f3 := H2.out.free 3
  go_upto_region 6 with fail
  have H3 := Lib.hid (H2.out.set 3 (.int .i64 y))
  generalize w2.setCell ⟨b, 3, none⟩ (.int .i64 y) = w3 at *
  clear k3 f3
  have k0 : w3.cell? ⟨b, 0, none⟩ = some (.pointer (some ⟨bb, 0, none⟩)) := (H3.out.cell 0).trans HT3.out.c0
  go_wp2_with (first
    | (go_at_call 128; refine (glen_q (HB.out _ H3.out.inv) HF.out.g).mono ?_; rintro e w4 ⟨rfl, hb⟩; have H4 := Lib.hid (H3.out.keep hb); have m1 := (H4.out.cell 1).trans HT3.out.c1; have g1 := H4.out.free 1; have H5 := Lib.hid (H4.out.set 1 (.int .i64 3)); clear hb)
    | (refine wpList_load_row rfl 134 (.tmp 2) rfl b rfl 134 _ (0, 0) _ H5.out.t Try.underlying134 rfl HUI.out ?_)
    | (refine wpList_store_row rfl 134 (.tmp 4) (.tmp 43) rfl (b + 1) _ rfl rfl 134 _ H5.out.r HUI.out (by rw [HU.out.size]; exact H5.out.z) HU.out.one ?_))
  exact bodyPost_ret (results_row_fault (p := 4) (u := 5) (by kernel_rfl) _ _ (b + 1) 134 _ (0, 0) _ _ rfl rfl (H5.out.out _).1 Try.underlying134 rfl HUI.out) rfl ⟨_, rfl, HU.out, (H5.out.out _).2⟩
set_option maxHeartbeats 2000000 in
set_option maxRecDepth 100000 in
theorem pheed_ahead (h : PbF ts (some ⟨bb, 0, none⟩) at_ next sign most found) (hm : Mv R W0 W a xs st) (hB : ∀ w, R.inv w → Blk w bb cs 177) (hF : BrF cs cur sh ids al) {y : Int} (hx : xs[al]? = some y) (hy : y ≠ 1) (hn : 0 < ids.length) (h0 : 0 ≤ st) (h1 : st < 4611686018427387904) :
    Calls Try.prog 134 #[.agg ts, .pointer (some ⟨a, 0, none⟩)] W fun e w' => ∃ ts', e = .returned (.tuple #[.agg ts', .nilIface]) ∧ PbF ts' (some ⟨bb, 0, none⟩) 2 next y most found ∧ PbS ts' ids 0 9223372036854775807 ∧ Mv R W0 w' a xs (st + 1) := by
  have d0 : (y == 1) = false := by simpa using hy
  have d1 : decide ((0 : Int) < (ids.length : Int)) = true := decide_eq_true (by omega)
  have d2 : decide (0 < ids.length) = true := decide_eq_true (by omega)
  have HX := Lib.hid hx
  have HB := Lib.hid hB
  have HF := Lib.hid hF
  have HT := Lib.hid h
  have HT3 := Lib.hid (h.sgn y)
  have HT1 := Lib.hid ((h.sgn y).stg 2)
  have HSF := Lib.hid (sc_of hF.g.len 0 9223372036854775807)
  have HU := Lib.hid (HT1.out.scan HSF.out)
  have HUS := Lib.hid (putP_scan HT1.out.size HSF.out)
  have HI := Lib.hid (pb_info h.size)
  have HUI := Lib.hid (pb_info HU.out.size)
  have HSI := Lib.hid HSF.out.info
  have HS : Hid (∀ zs : Array Value, zs.size = 41 → P2 R W0 ((W.alloc (.cells ts 134)).alloc (.cells zs 134)) a xs st W.heap.size ts zs) := Lib.hid fun zs hz => P2.start hm ts hz
  clear h hm hx hB hF hy hn
  go_enter Try.func134, Try.ntmps134
  go_upto_region 1 with (refine wpList_alloc_pb rfl rfl ?_; intro zs hz; have H1 := Lib.hid (HS.out zs hz); generalize (W.alloc (.cells ts 134)).alloc (.cells zs 134) = w1 at *)
  have k0 : w1.cell? ⟨W.heap.size, 0, none⟩ = some (.pointer (some ⟨bb, 0, none⟩)) := (H1.out.cell 0).trans HT.out.c0
  have kb : w1.cell? ⟨bb, 35, none⟩ = some (.int .i64 al) := (obj_cell (HB.out _ H1.out.inv) 35).trans HF.out.c35
  clear HS
  generalize W.heap.size = b at *
  go_upto_region 4 with (go_at_call 30; refine (H1.out.load al y HX.out h0 h1).mono ?_; rintro e w2 ⟨rfl, h2⟩; have H2 := Lib.hid h2; clear h2)
  clear k0 kb
  have k3 : w2.cell? ⟨b, 3, none⟩ = some (.int .i64 sign) := (H2.out.cell 3).trans HT.out.c3
  have f3 := H2.out.free 3
  go_upto_region 6 with fail
  have H3 := Lib.hid (H2.out.set 3 (.int .i64 y))
  generalize w2.setCell ⟨b, 3, none⟩ (.int .i64 y) = w3 at *
  clear k3 f3
  have k0 : w3.cell? ⟨b, 0, none⟩ = some (.pointer (some ⟨bb, 0, none⟩)) := (H3.out.cell 0).trans HT3.out.c0
  go_upto_region 9 with (go_at_call 128; refine (glen_q (HB.out _ H3.out.inv) HF.out.g).mono ?_; rintro e w4 ⟨rfl, hb⟩; have H4 := Lib.hid (H3.out.keep hb); clear hb)
  clear k0
  have k0 : w4.cell? ⟨b, 0, none⟩ = some (.pointer (some ⟨bb, 0, none⟩)) := (H4.out.cell 0).trans HT3.out.c0
  have HSC : Hid (Calls Try.prog 49 #[.pointer (some ⟨bb, 2, none⟩), .int .i64 9223372036854775807] w4 fun e w' => e = .returned (.agg (scC ids 0 9223372036854775807)) ∧ Below w4.heap.size w4 w') := Lib.hid (gscan_q (HB.out _ H4.out.inv) HF.out.g _)
  generalize scC ids 0 9223372036854775807 = sc at *
  go_wp2_with (first
    | (go_at_call 49; refine HSC.out.mono ?_; rintro e w5 ⟨rfl, hb⟩; have H5 := Lib.hid (H4.out.keep hb); have m1 := (H5.out.cell 1).trans HT3.out.c1; have g1 := H5.out.free 1; have H6 := Lib.hid (H5.out.set 1 (.int .i64 2)); have HTH := Lib.hid (H6.out.there HT1.out.size); clear hb)
    | (refine wpList_store_mid rfl 77 (.tmp 42) (.tmp 40) rfl b 4 sc rfl rfl (by rw [HSF.out.size]; exact HTH.out) HSI.out HSF.out.one ?_; have H7 := Lib.hid (H6.out.scan HT1.out.size HSF.out.size); generalize World.setCells _ b 4 _ = w7 at *)
    | (refine wpList_load_row rfl 134 (.tmp 2) rfl b rfl 134 _ (0, 0) _ H7.out.t Try.underlying134 rfl HUI.out ?_)
    | (refine wpList_store_row rfl 134 (.tmp 4) (.tmp 43) rfl (b + 1) _ rfl rfl 134 _ H7.out.r HUI.out (by rw [HU.out.size]; exact H7.out.z) HU.out.one ?_))
  exact bodyPost_ret (results_row_fault (p := 4) (u := 5) (by kernel_rfl) _ _ (b + 1) 134 _ (0, 0) _ _ rfl rfl (H7.out.out _).1 Try.underlying134 rfl HUI.out) rfl ⟨_, rfl, HU.out, HUS.out, (H7.out.out _).2⟩
end
end Go.Proofs.Ytejkjpmigajidaa
namespace Go.Proofs.Ytejkjpmigajidaa
open Go.RowKit
set_option linter.unusedVariables false

theorem wpList_alloc_scan {ops : Array Oper} {rest : List Oper} {o : Oper} {a : Act} {w : World} {Q : Exit → Act → World → Prop} (hg : o.guard = none) (ho : o.op = .alloc 77)
    (h : ∀ zs : Array Value, zs.size = 35 → wpList Try.prog ops Q rest (a.put o.dst (.pointer (some ⟨w.heap.size, 0, none⟩))) (w.alloc (.cells zs 77))) : wpList Try.prog ops Q (o :: rest) a w := by
  refine Great.wpList_runTo hg o.dst rfl _ _ ?_ (h (scC [] 0 0) (sc_of (ids := []) (by simp) 0 0).size)
  unfold execOp
  simp only [ho, Sem.run_bind, run_alloc_scan, Result.andThen_ok, Sem.run_pure]
section
variable {R : Rest} {W0 W : World} {a bb : Nat} {xs : List Int} {st : Int} {ts : Array Value} {at_ next sign most found : Int} {ids : List Int} {seen z : Nat} {least x : Int}
set_option maxHeartbeats 2000000 in
set_option maxRecDepth 100000 in
theorem pfollow_more (h : PbF ts (some ⟨bb, 0, none⟩) at_ next sign most found) (hp : PbS ts ids seen least) (hm : Mv R W0 W a xs st) (hl : ids.length ≤ 32) (hs : seen + 1 < ids.length) (hz : ids.getD seen 0 = z) (hx : xs[z]? = some x) (h0 : 0 ≤ st) (h1 : st < 4611686018427387904) :
    Calls Try.prog 135 #[.agg ts, .pointer (some ⟨a, 0, none⟩)] W fun e w' => ∃ ts', e = .returned (.tuple #[.agg ts', .nilIface]) ∧ PbF ts' (some ⟨bb, 0, none⟩) at_ next sign most found ∧ PbS ts' ids (seen + 1) (min least x) ∧ Mv R W0 w' a xs (st + 1) := by
  obtain ⟨sl, hs1, hs2, hs3⟩ := hp.sl h.size
  have HSL := Lib.hid hs1
  have HR := Lib.hid hs3
  have HI := Lib.hid (sl_info hs2)
  have HT := Lib.hid h
  have HX := Lib.hid hx
  have HZ := Lib.hid hz
  have HLT := Lib.hid (show seen < ids.length by omega)
  have HD : Hid (decide (ids.length ≤ seen + 1) = false) := Lib.hid (decide_eq_false (by omega))
  have HS : Hid (∀ zs : Array Value, zs.size = 41 → P2 R W0 ((W.alloc (.cells ts 134)).alloc (.cells zs 134)) a xs st W.heap.size ts zs) := Lib.hid fun zs hz => P2.start hm ts hz
  clear h hp hm hx hz hs hs1 hs2 hs3
  go_enter Try.func135, Try.ntmps135
  go_upto_region 1 with (refine wpList_alloc_pb rfl rfl ?_; intro zs hz; have H1 := Lib.hid (HS.out zs hz); generalize (W.alloc (.cells ts 134)).alloc (.cells zs 134) = w1 at *)
  clear HS
  generalize W.heap.size = b at *
  go_upto_region 2 with (first
    | (refine wpList_load_mid rfl 77 (.tmp 9) rfl b 4 rfl sl _ (HR.out _ _ _ _ H1.out.t) Try.underlying77 rfl HI.out ?_)
    | (go_at_call 52; refine (sstep_m H1.out.mv HSL.out hl HLT.out HZ.out HX.out h0 h1).mono ?_; rintro e w2 ⟨sc, rfl, hsc, hm2, -⟩; have H2 := Lib.hid (P2.mk hm2 H1.out.z H1.out.low H1.out.np); have HSC := Lib.hid hsc; have HSI := Lib.hid hsc.info; clear hm2 hsc)
    | (refine wpList_alloc_scan rfl rfl ?_; intro zs2 hz2; have H3 := Lib.hid (H2.out.keep (balloc (Below.refl _ _) (.cells zs2 77))); have HN := Lib.hid (obj_new w2 (.cells zs2 77)); have HB := Lib.hid (P2.newer H2.out); generalize w2.alloc (.cells zs2 77) = w3 at *; generalize w2.heap.size = nb at *)
    | (refine wpList_store_row rfl 77 (.tmp 6) (.tmp 13) rfl nb sc rfl rfl 77 _ HN.out HSI.out (by rw [HSC.out.size]; exact hz2) HSC.out.one ?_; have H4 := Lib.hid (H3.out.other HN.out (by decide) (by decide) HB.out ((Frm.refl (fun k => k = nb) _).setRow rfl sc)); have HN4 := Lib.hid (setRow_heap _ nb _ sc _ _ HN.out); generalize World.setRow _ nb sc = w4 at *))
  have HF := Lib.hid (HT.out.scan HSC.out)
  have HFS := Lib.hid (putP_scan HT.out.size HSC.out)
  have HFI := Lib.hid (pb_info HF.out.size)
  have HTH := Lib.hid (H4.out.there HT.out.size)
  go_upto_region 5 with (first
    | (refine wpList_load_row rfl 77 (.tmp 6) rfl nb rfl 77 sc (0, 0) _ HN4.out Try.underlying77 rfl HSI.out ?_)
    | (refine wpList_store_mid rfl 77 (.tmp 20) (.tmp 19) rfl b 4 sc rfl rfl (by rw [HSC.out.size]; exact HTH.out) HSI.out HSC.out.one ?_; have H6 := Lib.hid (H4.out.scan HT.out.size HSC.out.size); have HN6 := Lib.hid ((frm_setCells sc.toList 4 _ _ (Frm.refl (fun k => k = b) w4)).obj HN4.out (show ¬ nb = b by have := HB.out; omega)); generalize w4.setCells b 4 _ = w6 at *))
  go_wp2_with (first
    | (refine wpList_load_row rfl 77 (.tmp 6) rfl nb rfl 77 sc (0, 0) _ HN6.out Try.underlying77 rfl HSI.out ?_)
    | (go_at_call 50; refine (sdone HSC.out _).mono ?_; rintro e w7 ⟨rfl, hb⟩; rw [HD.out]; have H7 := Lib.hid (H6.out.keep hb); clear hb)
    | (refine wpList_load_row rfl 134 (.tmp 2) rfl b rfl 134 _ (0, 0) _ H7.out.t Try.underlying134 rfl HFI.out ?_)
    | (refine wpList_store_row rfl 134 (.tmp 4) (.tmp 27) rfl (b + 1) _ rfl rfl 134 _ H7.out.r HFI.out (by rw [HF.out.size]; exact H7.out.z) HF.out.one ?_))
  exact bodyPost_ret (results_row_fault (p := 4) (u := 5) (by kernel_rfl) _ _ (b + 1) 134 _ (0, 0) _ _ rfl rfl (H7.out.out _).1 Try.underlying134 rfl HFI.out) rfl ⟨_, rfl, HF.out, HFS.out, (H7.out.out _).2⟩
set_option maxHeartbeats 2000000 in
set_option maxRecDepth 100000 in
theorem pfollow_last (h : PbF ts (some ⟨bb, 0, none⟩) at_ next sign most found) (hp : PbS ts ids seen least) (hm : Mv R W0 W a xs st) (hl : ids.length ≤ 32) (hs : seen + 1 = ids.length) (hz : ids.getD seen 0 = z) (hx : xs[z]? = some x) (h0 : 0 ≤ st) (h1 : st < 4611686018427387904) :
    Calls Try.prog 135 #[.agg ts, .pointer (some ⟨a, 0, none⟩)] W fun e w' => ∃ ts', e = .returned (.tuple #[.agg ts', .nilIface]) ∧ PbF ts' (some ⟨bb, 0, none⟩) 0 next sign most (max found (min least x)) ∧ Mv R W0 w' a xs (st + 1) := by
  obtain ⟨sl, hs1, hs2, hs3⟩ := hp.sl h.size
  have HSL := Lib.hid hs1
  have HR := Lib.hid hs3
  have HI := Lib.hid (sl_info hs2)
  have HT := Lib.hid h
  have HX := Lib.hid hx
  have HZ := Lib.hid hz
  have HLT := Lib.hid (show seen < ids.length by omega)
  have HD : Hid (decide (ids.length ≤ seen + 1) = true) := Lib.hid (decide_eq_true (by omega))
  have HS : Hid (∀ zs : Array Value, zs.size = 41 → P2 R W0 ((W.alloc (.cells ts 134)).alloc (.cells zs 134)) a xs st W.heap.size ts zs) := Lib.hid fun zs hz => P2.start hm ts hz
  clear h hp hm hx hz hs hs1 hs2 hs3
  go_enter Try.func135, Try.ntmps135
  go_upto_region 1 with (refine wpList_alloc_pb rfl rfl ?_; intro zs hz; have H1 := Lib.hid (HS.out zs hz); generalize (W.alloc (.cells ts 134)).alloc (.cells zs 134) = w1 at *)
  clear HS
  generalize W.heap.size = b at *
  go_upto_region 2 with (first
    | (refine wpList_load_mid rfl 77 (.tmp 9) rfl b 4 rfl sl _ (HR.out _ _ _ _ H1.out.t) Try.underlying77 rfl HI.out ?_)
    | (go_at_call 52; refine (sstep_m H1.out.mv HSL.out hl HLT.out HZ.out HX.out h0 h1).mono ?_; rintro e w2 ⟨sc, rfl, hsc, hm2, -⟩; have H2 := Lib.hid (P2.mk hm2 H1.out.z H1.out.low H1.out.np); have HSC := Lib.hid hsc; have HSI := Lib.hid hsc.info; clear hm2 hsc)
    | (refine wpList_alloc_scan rfl rfl ?_; intro zs2 hz2; have H3 := Lib.hid (H2.out.keep (balloc (Below.refl _ _) (.cells zs2 77))); have HN := Lib.hid (obj_new w2 (.cells zs2 77)); have HB := Lib.hid (P2.newer H2.out); generalize w2.alloc (.cells zs2 77) = w3 at *; generalize w2.heap.size = nb at *)
    | (refine wpList_store_row rfl 77 (.tmp 6) (.tmp 13) rfl nb sc rfl rfl 77 _ HN.out HSI.out (by rw [HSC.out.size]; exact hz2) HSC.out.one ?_; have H4 := Lib.hid (H3.out.other HN.out (by decide) (by decide) HB.out ((Frm.refl (fun k => k = nb) _).setRow rfl sc)); have HN4 := Lib.hid (setRow_heap _ nb _ sc _ _ HN.out); generalize World.setRow _ nb sc = w4 at *))
  have HF := Lib.hid (HT.out.scan HSC.out)
  have HFI := Lib.hid (pb_info HF.out.size)
  have HTH := Lib.hid (H4.out.there HT.out.size)
  go_upto_region 5 with (first
    | (refine wpList_load_row rfl 77 (.tmp 6) rfl nb rfl 77 sc (0, 0) _ HN4.out Try.underlying77 rfl HSI.out ?_)
    | (refine wpList_store_mid rfl 77 (.tmp 20) (.tmp 19) rfl b 4 sc rfl rfl (by rw [HSC.out.size]; exact HTH.out) HSI.out HSC.out.one ?_; have H6 := Lib.hid (H4.out.scan HT.out.size HSC.out.size); have HN6 := Lib.hid ((frm_setCells sc.toList 4 _ _ (Frm.refl (fun k => k = b) w4)).obj HN4.out (show ¬ nb = b by have := HB.out; omega)); generalize w4.setCells b 4 _ = w6 at *))
  go_upto_region 6 with (first
    | (refine wpList_load_row rfl 77 (.tmp 6) rfl nb rfl 77 sc (0, 0) _ HN6.out Try.underlying77 rfl HSI.out ?_)
    | (go_at_call 50; refine (sdone HSC.out _).mono ?_; rintro e w7 ⟨rfl, hb⟩; rw [HD.out]; have H7 := Lib.hid (H6.out.keep hb); have HN7 := Lib.hid ((hb.block _ (lt_of_block HN6.out)).trans HN6.out); clear hb))
  have HU := Lib.hid (HF.out.upTo (max found (min least x)))
  have HUI := Lib.hid (pb_info HU.out.size)
  have HLA : Hid (∀ w', (∃ x : Later w7, w' = x.to) → w'.heap[b]? = some (.cells (putP ts sc) 134 (0, 0))) := by
    rintro _ ⟨x, rfl⟩
    exact (H7.out.keep x.below).t
  have HLN : Hid (∀ w', (∃ x : Later w7, w' = x.to) → w'.heap[nb]? = some (.cells sc 77 (0, 0))) := by
    rintro _ ⟨x, rfl⟩
    exact (x.below.block _ (lt_of_block HN7.out)).trans HN7.out
  have HLE : Hid (∀ y : Later w7, Calls Try.prog 51 #[.agg sc] y.to fun e w'' => e = .returned (.int .i64 (min least x)) ∧ ∃ z : Later w7, w'' = z.to) := fun y => (sleast HSC.out _).mono fun e w h => ⟨h.1, ⟨w, bthen y.below h.2⟩, rfl⟩
  have HUP : Hid (∀ y : Later w7, Calls Try.prog 141 #[.agg (putP ts sc), .int .i64 (min least x)] y.to fun e w'' => e = .returned (.agg (upToV (putP ts sc) (max found (min least x)))) ∧ ∃ z : Later w7, w'' = z.to) := fun y => (pupto HF.out (min least x) _).mono fun e w h => ⟨h.1, ⟨w, bthen y.below h.2⟩, rfl⟩
  generalize upToV (putP ts sc) (max found (min least x)) = us at *
  generalize putP ts sc = tc at *
  refine wp_region_later_tail 4 (by kernel_rfl) (by kernel_rfl) ?_
  simp only [List.take_succ_cons, List.take_zero, List.drop_succ_cons, List.drop_zero]
  repeat (first
    | (go_big_quiet_want; refine quiet_load_row 134 (.tmp 2) rfl b rfl 134 tc (0, 0) _ HLA.out Try.underlying134 rfl HFI.out ?_; go_big_quiet_on; go_frame)
    | (go_big_quiet_want; refine quiet_load_row 77 (.tmp 6) rfl nb rfl 77 sc (0, 0) _ HLN.out Try.underlying77 rfl HSI.out ?_; go_big_quiet_on; go_frame)
    | go_big_quiet_step ((first
      | (go_at_call 51; exact HLE.out _)
      | (go_at_call 141; exact HUP.out _))))
  refine wpQuiet_nil ?_
  intro w8 hw'
  obtain ⟨⟨w8', hb8⟩, hw8⟩ := hw'
  obtain rfl : w8 = w8' := hw8
  have H8 := Lib.hid (H7.out.keep hb8)
  clear hb8
  go_wp2_with (first
    | (refine wpList_store_row rfl 134 (.tmp 4) (.tmp 26) rfl (b + 1) us rfl rfl 134 _ H8.out.r HUI.out (by rw [HU.out.size]; exact H8.out.z) HU.out.one ?_))
  exact bodyPost_ret (results_row_fault (p := 4) (u := 5) (by kernel_rfl) _ _ (b + 1) 134 _ (0, 0) _ _ rfl rfl (H8.out.out _).1 Try.underlying134 rfl HUI.out) rfl ⟨_, rfl, HU.out, (H8.out.out _).2⟩
end
end Go.Proofs.Ytejkjpmigajidaa
namespace Go.Proofs.Ytejkjpmigajidaa
open Go.RowKit
set_option linter.unusedVariables false

section
variable {R : Rest} {W0 W : World} {a bb : Nat} {xs : List Int} {st : Int} {ts cs : Array Value} {at_ next sign most found : Int} {cur al q f k : Nat} {ids : List Int}
set_option maxHeartbeats 2000000 in
set_option maxRecDepth 100000 in
theorem pwalk_no (h : PbF ts (some ⟨bb, 0, none⟩) at_ next sign most found) (hm : Mv R W0 W a xs st) (hB : ∀ w, R.inv w → Blk w bb cs 177) (hF : BrF cs cur (some ⟨q, 0, none⟩) ids al) (hQ : ∀ w, R.inv w → Bf w q f k) (hl : f + two k ≤ (xs.length : Int)) (hf1 : -1 ≤ found) (hf2 : found < 4611686018427387904) (hsh : shownB xs f k (found + 1) = false) (h0 : 0 ≤ st) (h1 : st < 4611686018427387904) :
    Calls Try.prog 137 #[.agg ts, .pointer (some ⟨a, 0, none⟩)] W fun e w' => ∃ ts', e = .returned (.tuple #[.agg ts', .nilIface]) ∧ PbF ts' (some ⟨bb, 0, none⟩) 0 next sign most found ∧ Mv R W0 w' a xs (st + 1) := by
  obtain ⟨i, hi, hil⟩ := mod_nat k (found + 1)
  obtain ⟨x, hx⟩ : ∃ x, xs[f + i]? = some x := ⟨_, List.getElem?_eq_getElem (by omega)⟩
  have hss : shownB xs f k (found + 1) = (x == (found + 1) / two k) := by
    unfold shownB
    rw [hi]
    simp [List.getD, hx]
  rw [hss] at hsh
  have d1 : (x == (found + 1) / two k) = false := hsh
  have HIX := Lib.hid hi
  have HX := Lib.hid hx
  have HB := Lib.hid hB
  have HQ := Lib.hid hQ
  have HF := Lib.hid hF
  have HT := Lib.hid h
  have HS : Hid (∀ zs : Array Value, zs.size = 41 → P2 R W0 ((W.alloc (.cells ts 134)).alloc (.cells zs 134)) a xs st W.heap.size ts zs) := Lib.hid fun zs hz => P2.start hm ts hz
  clear h hm hx hB hF hQ hi hil hl hss hsh
  go_enter Try.func137, Try.ntmps137
  go_upto_region 1 with (refine wpList_alloc_pb rfl rfl ?_; intro zs hz; have H1 := Lib.hid (HS.out zs hz); generalize (W.alloc (.cells ts 134)).alloc (.cells zs 134) = w1 at *)
  clear HS
  generalize W.heap.size = b at *
  have n0 : ∀ x : Later w1, x.to.cell? ⟨b, 0, none⟩ = some (.pointer (some ⟨bb, 0, none⟩)) := fun x => ((H1.out.keep x.below).cell 0).trans HT.out.c0
  have n40 : ∀ x : Later w1, x.to.cell? ⟨b, 40, none⟩ = some (.int .i64 found) := fun x => ((H1.out.keep x.below).cell 40).trans HT.out.c40
  have nb : ∀ x : Later w1, x.to.cell? ⟨bb, 1, none⟩ = some (.pointer (some ⟨q, 0, none⟩)) := fun x => (obj_cell (HB.out _ (H1.out.keep x.below).inv) 1).trans HF.out.c1
  refine wp_region_later (by kernel_rfl) (by kernel_rfl) ?_
  repeat (go_big_quiet_step (fail))
  refine wpQuiet_nil ?_
  intro w2 hw'
  obtain ⟨⟨w2', hb2⟩, hw2⟩ := hw'
  obtain rfl : w2 = w2' := hw2
  have H2 := Lib.hid (H1.out.keep hb2)
  clear n0 n40 nb hb2
  go_upto_region 6 with (first
    | (go_at_call 38; refine (cell_some (found + 1) _ q f k (HQ.out _ H2.out.inv) i HIX.out).mono ?_; rintro e w3 ⟨rfl, hb⟩; have H3 := Lib.hid (H2.out.keep hb); clear hb)
    | (go_at_call 30; refine (H3.out.load (f + i) x HX.out h0 h1).mono ?_; rintro e w4 ⟨rfl, hh⟩; have H4 := Lib.hid hh; clear hh)
    | (go_at_call 39; refine (rd_some (found + 1) _ q f k (HQ.out _ H4.out.inv)).mono ?_; rintro e w5 ⟨rfl, hb⟩; have H5 := Lib.hid (H4.out.keep hb); clear hb))
  have HU := Lib.hid (HT.out.stg 0)
  have HUI := Lib.hid (pb_info HU.out.size)
  have m1 := (H5.out.cell 1).trans HT.out.c1
  have g1 := H5.out.free 1
  have H6 := Lib.hid (H5.out.set 1 (.int .i64 0))
  go_wp2_with (first
    | (refine wpList_load_row rfl 134 (.tmp 2) rfl b rfl 134 _ (0, 0) _ H6.out.t Try.underlying134 rfl HUI.out ?_)
    | (refine wpList_store_row rfl 134 (.tmp 4) (.tmp 36) rfl (b + 1) _ rfl rfl 134 _ H6.out.r HUI.out (by rw [HU.out.size]; exact H6.out.z) HU.out.one ?_))
  exact bodyPost_ret (results_row_fault (p := 4) (u := 5) (by kernel_rfl) _ _ (b + 1) 134 _ (0, 0) _ _ rfl rfl (H6.out.out _).1 Try.underlying134 rfl HUI.out) rfl ⟨_, rfl, HU.out, (H6.out.out _).2⟩
set_option maxHeartbeats 2000000 in
set_option maxRecDepth 100000 in
theorem pwalk_on (h : PbF ts (some ⟨bb, 0, none⟩) at_ next sign most found) (hm : Mv R W0 W a xs st) (hB : ∀ w, R.inv w → Blk w bb cs 177) (hF : BrF cs cur (some ⟨q, 0, none⟩) ids al) (hQ : ∀ w, R.inv w → Bf w q f k) (hl : f + two k ≤ (xs.length : Int)) (hf1 : -1 ≤ found) (hf2 : found < 4611686018427387904) (hsh : shownB xs f k (found + 1) = true) (hmo : found + 1 < most) (h0 : 0 ≤ st) (h1 : st < 4611686018427387904) :
    Calls Try.prog 137 #[.agg ts, .pointer (some ⟨a, 0, none⟩)] W fun e w' => ∃ ts', e = .returned (.tuple #[.agg ts', .nilIface]) ∧ PbF ts' (some ⟨bb, 0, none⟩) at_ next sign most (found + 1) ∧ Mv R W0 w' a xs (st + 1) := by
  obtain ⟨i, hi, hil⟩ := mod_nat k (found + 1)
  obtain ⟨x, hx⟩ : ∃ x, xs[f + i]? = some x := ⟨_, List.getElem?_eq_getElem (by omega)⟩
  have hss : shownB xs f k (found + 1) = (x == (found + 1) / two k) := by
    unfold shownB
    rw [hi]
    simp [List.getD, hx]
  rw [hss] at hsh
  have d1 : (x == (found + 1) / two k) = true := hsh
  have d2 : decide (most ≤ found + 1) = false := decide_eq_false (by omega)
  clear hmo
  have HIX := Lib.hid hi
  have HX := Lib.hid hx
  have HB := Lib.hid hB
  have HQ := Lib.hid hQ
  have HF := Lib.hid hF
  have HT := Lib.hid h
  have HS : Hid (∀ zs : Array Value, zs.size = 41 → P2 R W0 ((W.alloc (.cells ts 134)).alloc (.cells zs 134)) a xs st W.heap.size ts zs) := Lib.hid fun zs hz => P2.start hm ts hz
  clear h hm hx hB hF hQ hi hil hl hss hsh
  go_enter Try.func137, Try.ntmps137
  go_upto_region 1 with (refine wpList_alloc_pb rfl rfl ?_; intro zs hz; have H1 := Lib.hid (HS.out zs hz); generalize (W.alloc (.cells ts 134)).alloc (.cells zs 134) = w1 at *)
  clear HS
  generalize W.heap.size = b at *
  have n0 : ∀ x : Later w1, x.to.cell? ⟨b, 0, none⟩ = some (.pointer (some ⟨bb, 0, none⟩)) := fun x => ((H1.out.keep x.below).cell 0).trans HT.out.c0
  have n40 : ∀ x : Later w1, x.to.cell? ⟨b, 40, none⟩ = some (.int .i64 found) := fun x => ((H1.out.keep x.below).cell 40).trans HT.out.c40
  have nb : ∀ x : Later w1, x.to.cell? ⟨bb, 1, none⟩ = some (.pointer (some ⟨q, 0, none⟩)) := fun x => (obj_cell (HB.out _ (H1.out.keep x.below).inv) 1).trans HF.out.c1
  refine wp_region_later (by kernel_rfl) (by kernel_rfl) ?_
  repeat (go_big_quiet_step (fail))
  refine wpQuiet_nil ?_
  intro w2 hw'
  obtain ⟨⟨w2', hb2⟩, hw2⟩ := hw'
  obtain rfl : w2 = w2' := hw2
  have H2 := Lib.hid (H1.out.keep hb2)
  clear n0 n40 nb hb2
  go_upto_region 8 with (first
    | (go_at_call 38; refine (cell_some (found + 1) _ q f k (HQ.out _ H2.out.inv) i HIX.out).mono ?_; rintro e w3 ⟨rfl, hb⟩; have H3 := Lib.hid (H2.out.keep hb); clear hb)
    | (go_at_call 30; refine (H3.out.load (f + i) x HX.out h0 h1).mono ?_; rintro e w4 ⟨rfl, hh⟩; have H4 := Lib.hid hh; clear hh)
    | (go_at_call 39; refine (rd_some (found + 1) _ q f k (HQ.out _ H4.out.inv)).mono ?_; rintro e w5 ⟨rfl, hb⟩; have H5 := Lib.hid (H4.out.keep hb); clear hb))
  have HU := Lib.hid (HT.out.fnd (found + 1))
  have HUI := Lib.hid (pb_info HU.out.size)
  have m40 := (H5.out.cell 40).trans HT.out.c40
  have g40 := H5.out.free 40
  go_upto_region 9 with fail
  have H6 := Lib.hid (H5.out.set 40 (.int .i64 (found + 1)))
  generalize w5.setCell ⟨b, 40, none⟩ (.int .i64 (found + 1)) = w6 at *
  clear m40 g40
  have m39 := (H6.out.cell 39).trans (HT.out.fnd (found + 1)).c39
  go_wp2_with (first
    | (refine wpList_load_row rfl 134 (.tmp 2) rfl b rfl 134 _ (0, 0) _ H6.out.t Try.underlying134 rfl HUI.out ?_)
    | (refine wpList_store_row rfl 134 (.tmp 4) (.tmp 44) rfl (b + 1) _ rfl rfl 134 _ H6.out.r HUI.out (by rw [HU.out.size]; exact H6.out.z) HU.out.one ?_))
  exact bodyPost_ret (results_row_fault (p := 4) (u := 5) (by kernel_rfl) _ _ (b + 1) 134 _ (0, 0) _ _ rfl rfl (H6.out.out _).1 Try.underlying134 rfl HUI.out) rfl ⟨_, rfl, HU.out, (H6.out.out _).2⟩
set_option maxHeartbeats 2000000 in
set_option maxRecDepth 100000 in
theorem pwalk_end (h : PbF ts (some ⟨bb, 0, none⟩) at_ next sign most found) (hm : Mv R W0 W a xs st) (hB : ∀ w, R.inv w → Blk w bb cs 177) (hF : BrF cs cur (some ⟨q, 0, none⟩) ids al) (hQ : ∀ w, R.inv w → Bf w q f k) (hl : f + two k ≤ (xs.length : Int)) (hf1 : -1 ≤ found) (hf2 : found < 4611686018427387904) (hsh : shownB xs f k (found + 1) = true) (hmo : most ≤ found + 1) (h0 : 0 ≤ st) (h1 : st < 4611686018427387904) :
    Calls Try.prog 137 #[.agg ts, .pointer (some ⟨a, 0, none⟩)] W fun e w' => ∃ ts', e = .returned (.tuple #[.agg ts', .nilIface]) ∧ PbF ts' (some ⟨bb, 0, none⟩) 0 next sign most (found + 1) ∧ Mv R W0 w' a xs (st + 1) := by
  obtain ⟨i, hi, hil⟩ := mod_nat k (found + 1)
  obtain ⟨x, hx⟩ : ∃ x, xs[f + i]? = some x := ⟨_, List.getElem?_eq_getElem (by omega)⟩
  have hss : shownB xs f k (found + 1) = (x == (found + 1) / two k) := by
    unfold shownB
    rw [hi]
    simp [List.getD, hx]
  rw [hss] at hsh
  have d1 : (x == (found + 1) / two k) = true := hsh
  have d2 : decide (most ≤ found + 1) = true := decide_eq_true (by omega)
  clear hmo
  have HIX := Lib.hid hi
  have HX := Lib.hid hx
  have HB := Lib.hid hB
  have HQ := Lib.hid hQ
  have HF := Lib.hid hF
  have HT := Lib.hid h
  have HS : Hid (∀ zs : Array Value, zs.size = 41 → P2 R W0 ((W.alloc (.cells ts 134)).alloc (.cells zs 134)) a xs st W.heap.size ts zs) := Lib.hid fun zs hz => P2.start hm ts hz
  clear h hm hx hB hF hQ hi hil hl hss hsh
  go_enter Try.func137, Try.ntmps137
  go_upto_region 1 with (refine wpList_alloc_pb rfl rfl ?_; intro zs hz; have H1 := Lib.hid (HS.out zs hz); generalize (W.alloc (.cells ts 134)).alloc (.cells zs 134) = w1 at *)
  clear HS
  generalize W.heap.size = b at *
  have n0 : ∀ x : Later w1, x.to.cell? ⟨b, 0, none⟩ = some (.pointer (some ⟨bb, 0, none⟩)) := fun x => ((H1.out.keep x.below).cell 0).trans HT.out.c0
  have n40 : ∀ x : Later w1, x.to.cell? ⟨b, 40, none⟩ = some (.int .i64 found) := fun x => ((H1.out.keep x.below).cell 40).trans HT.out.c40
  have nb : ∀ x : Later w1, x.to.cell? ⟨bb, 1, none⟩ = some (.pointer (some ⟨q, 0, none⟩)) := fun x => (obj_cell (HB.out _ (H1.out.keep x.below).inv) 1).trans HF.out.c1
  refine wp_region_later (by kernel_rfl) (by kernel_rfl) ?_
  repeat (go_big_quiet_step (fail))
  refine wpQuiet_nil ?_
  intro w2 hw'
  obtain ⟨⟨w2', hb2⟩, hw2⟩ := hw'
  obtain rfl : w2 = w2' := hw2
  have H2 := Lib.hid (H1.out.keep hb2)
  clear n0 n40 nb hb2
  go_upto_region 8 with (first
    | (go_at_call 38; refine (cell_some (found + 1) _ q f k (HQ.out _ H2.out.inv) i HIX.out).mono ?_; rintro e w3 ⟨rfl, hb⟩; have H3 := Lib.hid (H2.out.keep hb); clear hb)
    | (go_at_call 30; refine (H3.out.load (f + i) x HX.out h0 h1).mono ?_; rintro e w4 ⟨rfl, hh⟩; have H4 := Lib.hid hh; clear hh)
    | (go_at_call 39; refine (rd_some (found + 1) _ q f k (HQ.out _ H4.out.inv)).mono ?_; rintro e w5 ⟨rfl, hb⟩; have H5 := Lib.hid (H4.out.keep hb); clear hb))
  have HU := Lib.hid ((HT.out.fnd (found + 1)).stg 0)
  have HUI := Lib.hid (pb_info HU.out.size)
  have m40 := (H5.out.cell 40).trans HT.out.c40
  have g40 := H5.out.free 40
  go_upto_region 9 with fail
  have H6 := Lib.hid (H5.out.set 40 (.int .i64 (found + 1)))
  generalize w5.setCell ⟨b, 40, none⟩ (.int .i64 (found + 1)) = w6 at *
  clear m40 g40
  have m39 := (H6.out.cell 39).trans (HT.out.fnd (found + 1)).c39
  have HT6 := Lib.hid (HT.out.fnd (found + 1))
  have j1 := (H6.out.cell 1).trans HT6.out.c1
  have g1 := H6.out.free 1
  have H7 := Lib.hid (H6.out.set 1 (.int .i64 0))
  go_wp2_with (first
    | (refine wpList_load_row rfl 134 (.tmp 2) rfl b rfl 134 _ (0, 0) _ H7.out.t Try.underlying134 rfl HUI.out ?_)
    | (refine wpList_store_row rfl 134 (.tmp 4) (.tmp 44) rfl (b + 1) _ rfl rfl 134 _ H7.out.r HUI.out (by rw [HU.out.size]; exact H7.out.z) HU.out.one ?_))
  exact bodyPost_ret (results_row_fault (p := 4) (u := 5) (by kernel_rfl) _ _ (b + 1) 134 _ (0, 0) _ _ rfl rfl (H7.out.out _).1 Try.underlying134 rfl HUI.out) rfl ⟨_, rfl, HU.out, (H7.out.out _).2⟩
end
end Go.Proofs.Ytejkjpmigajidaa
