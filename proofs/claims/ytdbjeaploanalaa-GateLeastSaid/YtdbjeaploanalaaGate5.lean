/-
  A step of package gate's scan that sees one cell more, by contract. Conditions: at most 32 cells, the cell is there; fewer than 2^62 steps.
-/
import Derived.Test.YtdbjeaploanalaaGate4
namespace Go.Proofs.Ytdbjeaploanalaa
open Go.RowKit

set_option maxHeartbeats 2000000 in
set_option maxRecDepth 100000 in
theorem sstep_ok {cs : Array Value} {ids xs : List Int} {seen : Nat} {least : Int} {W : World} {b : Nat} {v : Value} {st : Int} (h : Sc cs ids seen least) (hl : ids.length ≤ 32) (hs : seen < ids.length) (ha : Ar W b v xs st) {z : Nat} {x : Int} (hz : ids.getD seen 0 = z) (hx : xs[z]? = some x) (h0 : 0 ≤ st) (h1 : st < 4611686018427387904) :
    Calls Try.prog 52 #[.agg cs, .pointer (some ⟨b, 0, none⟩)] W fun e w' => ∃ cs', e = .returned (.tuple #[.agg cs', .nilIface]) ∧ Sc cs' ids (seen + 1) (min least x) ∧ Loaded W w' b v xs (st + 1) := by
  have HS := Lib.hid h
  have HA := Lib.hid ha
  have HX := Lib.hid hx
  have HN := Lib.hid (sc_step h x)
  have HI2 : Hid ((Try.prog.info? 86).map (·.size) = some ((cs.setIfInBounds 33 (.int .i64 ((seen : Int) + 1))).setIfInBounds 34 (.int .i64 (min least x))).size) := by
    rw [HN.out.size]
    exact (by kernel_rfl : (Try.prog.info? 86).map (·.size) = some 35)
  have h35 := h.size
  have hlt := ha.lt
  have c33 : cs[33]? = some (.int .i64 seen) := h.seen
  have cz : cs[seen]? = some (.int .i64 z) := by rw [h.nth seen (by omega), padI_at hs, hz]
  have c34 : cs[34]? = some (.int .i64 least) := h.least
  have hsn : seen < 32 := by omega
  have hi : (Try.prog.info? 86).map (·.size) = some cs.size := by rw [h35]; kernel_rfl
  have hg : ∀ o : Obj, ((W.alloc (.cells cs 86)).alloc o).heap[W.heap.size]? = some (.cells cs 86 (0, 0)) := fun o => obj_old _ (obj_new _ _)
  have hr : ∀ o : Array Value, ((W.alloc (.cells cs 86)).alloc (.cells o 86)).heap[W.heap.size + 1]? = some (.cells o 86 (0, 0)) := fun o => by
    have := obj_new (W.alloc (.cells cs 86)) (.cells o 86)
    simpa using this
  clear h ha hx hz
  go_enter Try.func52, Try.ntmps52
  go_wp2_with (first
    | (go_at_call 50; refine (sdone HS.out _).mono ?_; rintro e w1 ⟨rfl, hb⟩; have HB := Lib.hid (bthen (balloc (balloc (Below.refl _ _) _) _) hb); have hg1 := (hb.block W.heap.size (by simp; omega)).trans (hg _); have hr1 := (hb.block (W.heap.size + 1) (by simp)).trans (hr _); have k33 := (obj_cell hg1 33).trans c33; have kz := (obj_cell hg1 seen).trans cz; clear hb; rw [decide_eq_false (show ¬ ids.length ≤ seen by omega)])
    | (go_at_call 25; refine (load_k z _ b v xs st x (HA.out.keepB HB.out) HX.out h0 h1).mono ?_; rintro e w3 ⟨rfl, ha3, hf3⟩; have HL := Lib.hid (show Loaded W w3 b v xs (st + 1) from ⟨ha3, (Frm.of_below HB.out fun k => k = b).trans hf3⟩); have hg3 := hf3.obj hg1 (show ¬ W.heap.size = b by omega); have hr3 := hf3.obj hr1 (show ¬ W.heap.size + 1 = b by omega); have m33 := (obj_cell hg3 33).trans c33; have m34 := (obj_cell hg3 34).trans c34; have f33 := obj_free hg3 33; have f34 := obj_free hg3 34; clear ha3 hf3 hg1 hr1 k33 kz)
    | (refine wpList_load_row rfl 86 (.tmp 2) rfl W.heap.size rfl 86 cs (0, 0) _ (hg _) Try.underlying86 rfl hi ?_)
    | (refine wpList_load_row rfl 86 (.tmp 2) rfl W.heap.size rfl 86 _ (0, 0) _ (obj_setCell _ (obj_setCell _ hg3)) Try.underlying86 rfl HI2.out ?_)
    | (refine wpList_store_row rfl 86 (.tmp 4) (.tmp 42) rfl (W.heap.size + 1) _ rfl rfl 86 _ ((heap_setCell_other _ ⟨W.heap.size, 34, none⟩ _ _ (by simp)).trans ((heap_setCell_other _ ⟨W.heap.size, 33, none⟩ _ _ (by simp)).trans hr3)) HI2.out (by rw [HN.out.size]; rfl) HN.out.one ?_))
  refine bodyPost_ret (results_row_tmp (p := 4) (u := 5) (by kernel_rfl) _ _ (W.heap.size + 1) 86 _ (0, 0) _ rfl (setRow_heap _ _ _ _ _ _ ((heap_setCell_other _ ⟨W.heap.size, 34, none⟩ _ _ (by simp)).trans ((heap_setCell_other _ ⟨W.heap.size, 33, none⟩ _ _ (by simp)).trans hr3))) Try.underlying86 rfl HI2.out) rfl ⟨_, rfl, HN.out, ?_⟩
  exact loaded_new HA.out HL.out ((((Frm.refl _ w3).setCell (p := ⟨W.heap.size, 33, none⟩) (Nat.le_refl _) _).setCell (p := ⟨W.heap.size, 34, none⟩) (Nat.le_refl _) _).setRow (Nat.le_succ _) _)
end Go.Proofs.Ytdbjeaploanalaa
