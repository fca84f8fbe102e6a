/-
  Package gate's scans by contract, of a group that lies anywhere in a block: Scan, Done, Least, and a step that sees one cell more. Conditions: at most 32 cells, the cells are there; fewer than 2^62 steps.
-/
import Derived.Test.YtdfcfdcekdmcmaaGreatPk02
import Derived.Test.YtdfcfdcekdmcmaaGreatPk04
set_option linter.unusedVariables false
set_option linter.unusedSimpArgs false
namespace Go.Proofs.YtdfcfdcekdmcmaaGreat
open Go.RowKit
def scC (ids : List Int) (seen : Nat) (least : Int) : Array Value := ((padI ids ++ [(ids.length : Int), (seen : Int), least]).map (Value.int .i64)).toArray
structure Sc (cs : Array Value) (ids : List Int) (seen : Nat) (least : Int) : Prop where
  size : cs.size = 35
  one : cs.all (·.oneCell') = true
  nth : ∀ j, j < 32 → cs[j]? = some (.int .i64 ((padI ids).getD j 0))
  n : cs[32]? = some (.int .i64 ids.length)
  seen : cs[33]? = some (.int .i64 seen)
  least : cs[34]? = some (.int .i64 least)
theorem sc_of {ids : List Int} (h : ids.length ≤ 32) (seen : Nat) (least : Int) : Sc (scC ids seen least) ids seen least := by
  have hl := padI_len h
  refine ⟨by simp [scC, hl], by simp [scC]; exact ⟨fun x _ => rfl, rfl, rfl, rfl⟩, fun j hj => ?_, ?_, ?_, ?_⟩
  · simp [scC, List.getElem?_append_left (show j < ((padI ids).map (Value.int .i64)).length by simp; omega), List.getElem?_eq_getElem (show j < (padI ids).length by omega)]
  all_goals simp [scC, hl]
theorem sdone {cs : Array Value} {ids : List Int} {seen : Nat} {least : Int} (h : Sc cs ids seen least) (W : World) :
    Calls Tryz.prog 130 #[.agg cs] W fun e w' => e = .returned (.bool (decide (ids.length ≤ seen))) ∧ Below W.heap.size W w' := by
  have h32 := h.n
  have h33 := h.seen
  clear h
  go_enter Tryz.func130, Tryz.ntmps130
  go_wp2
  go_ret
  exact ⟨rfl, (Below.refl _ _).alloc (Nat.le_refl _) _⟩
theorem sleast {cs : Array Value} {ids : List Int} {seen : Nat} {least : Int} (h : Sc cs ids seen least) (W : World) :
    Calls Tryz.prog 131 #[.agg cs] W fun e w' => e = .returned (.int .i64 least) ∧ Below W.heap.size W w' := by
  have h34 := h.least
  clear h
  go_enter Tryz.func131, Tryz.ntmps131
  go_wp2
  go_ret
  exact ⟨rfl, (Below.refl _ _).alloc (Nat.le_refl _) _⟩
theorem bsetRow {W w : World} {g : Nat} (h : Below W.heap.size W w) (hg : W.heap.size ≤ g) (cs : Array Value) : Below W.heap.size W (w.setRow g cs) :=
  ((Frm.of_below h fun k => k = g).setRow rfl cs).below (Nat.le_refl _) fun k hk => by omega
theorem results_row_tmp {P : Program} {fn : Func} {p u : Tmp} {ty : TypeId} (h : fn.results = #[.cell p ty, .tmp u]) (tmps : Array Value) (w : World) (g : Nat) (t : TypeId) (cs : Array Value) (fr : Nat × Nat) (d : TypeDesc)
    (hp : tmps.getD p undef = .pointer (some ⟨g, 0, none⟩)) (hg : w.heap[g]? = some (.cells cs t fr))
    (hu : P.underlying ty = some d) (hd : (match d with | .struct _ | .array _ _ => true | _ => false) = true) (hi : (P.info? ty).map (·.size) = some cs.size) :
    (results fn tmps).run P w = .ok (.tuple #[.agg cs, tmps.getD u undef]) w := by
  rw [results_cell_tmp h, hp]
  simp only [asAddr, Sem.run_pure, Result.andThen_ok]
  rw [run_loadVar_row w g t ty cs fr d hg hu hd hi]
  rfl
theorem loaded_new {W w w' : World} {b : Nat} {v : Value} {xs : List Int} {st st' : Int} (ha : Ar W b v xs st) (h : Loaded W w b v xs st') (hf : Frm (fun k => W.heap.size ≤ k) w w') : Loaded W w' b v xs st' := by
  have h1 := ha.lt
  have h2 : ∀ g, v.ownBlock = some g → g < W.heap.size := fun g hg => row_lt ha.2 hg
  refine ⟨h.1.keep hf (by omega) (fun g hg => by have := h2 g hg; omega), h.2.then hf fun k hk he => by omega⟩
theorem sc_step {cs : Array Value} {ids : List Int} {seen : Nat} {least : Int} (h : Sc cs ids seen least) (x : Int) : Sc ((cs.setIfInBounds 33 (.int .i64 ((seen : Int) + 1))).setIfInBounds 34 (.int .i64 (min least x))) ids (seen + 1) (min least x) := by
  have h35 := h.size
  refine ⟨by simp [h35], ?_, fun j hj => ?_, ?_, ?_, ?_⟩
  · have := h.one
    rw [Array.all_eq_true_iff_forall_mem] at this ⊢
    intro y hy
    rcases Array.mem_or_eq_of_mem_setIfInBounds hy with hy | rfl
    · rcases Array.mem_or_eq_of_mem_setIfInBounds hy with hy | rfl
      · exact this y hy
      · rfl
    · rfl
  · rw [Array.getElem?_setIfInBounds_ne (by omega), Array.getElem?_setIfInBounds_ne (by omega)]
    exact h.nth j hj
  · rw [Array.getElem?_setIfInBounds_ne (by omega), Array.getElem?_setIfInBounds_ne (by omega)]
    exact h.n
  · rw [Array.getElem?_setIfInBounds_ne (by omega), Array.getElem?_setIfInBounds_self_of_lt (by omega)]
    rfl
  · rw [Array.getElem?_setIfInBounds_self_of_lt (by simp; omega)]
set_option maxHeartbeats 2000000 in
set_option maxRecDepth 100000 in
theorem sstep_ok {cs : Array Value} {ids xs : List Int} {seen : Nat} {least : Int} {W : World} {b : Nat} {v : Value} {st : Int} (h : Sc cs ids seen least) (hl : ids.length ≤ 32) (hs : seen < ids.length) (ha : Ar W b v xs st) {z : Nat} {x : Int} (hz : ids.getD seen 0 = z) (hx : xs[z]? = some x) (h0 : 0 ≤ st) (h1 : st < 4611686018427387904) :
    Calls Tryz.prog 154 #[.agg cs, .pointer (some ⟨b, 0, none⟩)] W fun e w' => ∃ cs', e = .returned (.tuple #[.agg cs', .nilIface]) ∧ Sc cs' ids (seen + 1) (min least x) ∧ Loaded W w' b v xs (st + 1) := by
  have HS := Lib.hid h
  have HA := Lib.hid ha
  have HX := Lib.hid hx
  have HN := Lib.hid (sc_step h x)
  have HI2 : Hid ((Tryz.prog.info? 58).map (·.size) = some ((cs.setIfInBounds 33 (.int .i64 ((seen : Int) + 1))).setIfInBounds 34 (.int .i64 (min least x))).size) := by
    rw [HN.out.size]
    exact (by kernel_rfl : (Tryz.prog.info? 58).map (·.size) = some 35)
  have h35 := h.size
  have hlt := ha.lt
  have c33 : cs[33]? = some (.int .i64 seen) := h.seen
  have cz : cs[seen]? = some (.int .i64 z) := by rw [h.nth seen (by omega), padI_at hs, hz]
  have c34 : cs[34]? = some (.int .i64 least) := h.least
  have hsn : seen < 32 := by omega
  have hi : (Tryz.prog.info? 58).map (·.size) = some cs.size := by rw [h35]; kernel_rfl
  have hg : ∀ o : Obj, ((W.alloc (.cells cs 58)).alloc o).heap[W.heap.size]? = some (.cells cs 58 (0, 0)) := fun o => obj_old _ (obj_new _ _)
  have hr : ∀ o : Array Value, ((W.alloc (.cells cs 58)).alloc (.cells o 58)).heap[W.heap.size + 1]? = some (.cells o 58 (0, 0)) := fun o => by
    have := obj_new (W.alloc (.cells cs 58)) (.cells o 58)
    simpa using this
  clear h ha hx hz
  go_enter Tryz.func154, Tryz.ntmps154
  go_wp2_with (first
    | (go_at_call 130; refine (sdone HS.out _).mono ?_; rintro e w1 ⟨rfl, hb⟩; have HB := Lib.hid (bthen (balloc (balloc (Below.refl _ _) _) _) hb); have hg1 := (hb.block W.heap.size (by simp; omega)).trans (hg _); have hr1 := (hb.block (W.heap.size + 1) (by simp)).trans (hr _); have k33 := (obj_cell hg1 33).trans c33; have kz := (obj_cell hg1 seen).trans cz; clear hb; rw [decide_eq_false (show ¬ ids.length ≤ seen by omega)])
    | (go_at_call 35; refine (load_k z _ b v xs st x (HA.out.keepB HB.out) HX.out h0 h1).mono ?_; rintro e w3 ⟨rfl, ha3, hf3⟩; have HL := Lib.hid (show Loaded W w3 b v xs (st + 1) from ⟨ha3, (Frm.of_below HB.out fun k => k = b).trans hf3⟩); have hg3 := hf3.obj hg1 (show ¬ W.heap.size = b by omega); have hr3 := hf3.obj hr1 (show ¬ W.heap.size + 1 = b by omega); have m33 := (obj_cell hg3 33).trans c33; have m34 := (obj_cell hg3 34).trans c34; have f33 := obj_free hg3 33; have f34 := obj_free hg3 34; clear ha3 hf3 hg1 hr1 k33 kz)
    | (refine wpList_load_row rfl 58 (.tmp 2) rfl W.heap.size rfl 58 cs (0, 0) _ (hg _) Tryz.underlying58 rfl hi ?_)
    | (refine wpList_load_row rfl 58 (.tmp 2) rfl W.heap.size rfl 58 _ (0, 0) _ (obj_setCell _ (obj_setCell _ hg3)) Tryz.underlying58 rfl HI2.out ?_)
    | (refine wpList_store_row rfl 58 (.tmp 4) (.tmp 42) rfl (W.heap.size + 1) _ rfl rfl 58 _ ((heap_setCell_other _ ⟨W.heap.size, 34, none⟩ _ _ (by simp)).trans ((heap_setCell_other _ ⟨W.heap.size, 33, none⟩ _ _ (by simp)).trans hr3)) HI2.out (by rw [HN.out.size]; rfl) HN.out.one ?_))
  refine bodyPost_ret (results_row_tmp (p := 4) (u := 5) (by kernel_rfl) _ _ (W.heap.size + 1) 58 _ (0, 0) _ rfl (setRow_heap _ _ _ _ _ _ ((heap_setCell_other _ ⟨W.heap.size, 34, none⟩ _ _ (by simp)).trans ((heap_setCell_other _ ⟨W.heap.size, 33, none⟩ _ _ (by simp)).trans hr3))) Tryz.underlying58 rfl HI2.out) rfl ⟨_, rfl, HN.out, ?_⟩
  exact loaded_new HA.out HL.out ((((Frm.refl _ w3).setCell (p := ⟨W.heap.size, 33, none⟩) (Nat.le_refl _) _).setCell (p := ⟨W.heap.size, 34, none⟩) (Nat.le_refl _) _).setRow (Nat.le_succ _) _)
end Go.Proofs.YtdfcfdcekdmcmaaGreat
