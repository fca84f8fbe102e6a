/-
  One thing done to both arenas (norialaw03.play), with a cell that there is: by contract. Conditions: both arenas are the same, at most 1000 cells and steps.
-/
import Derived.Test.YtofkcjoonjhdpaaPlayL
namespace Go.Proofs.Ytofkcjoonjhdpaa
open Go.RowKit

set_option maxRecDepth 100000 in
set_option maxHeartbeats 1000000 in
theorem play1_right (W0 W : World) (ba bm : Nat) (v u : Value) (xs : List Int) (st : Int) (k : Nat) (h : Two W0 W ba bm v u xs st xs st) (hk : k ≤ 1000) (hl : xs.length ≤ k) (hs0 : 0 ≤ st) (hs1 : st ≤ k) (hx : ∀ x ∈ xs, -9223372036854775808 ≤ x ∧ x ≤ 9223372036854775807)
    (i : Nat) (y old x : Int) (hy : xs[i]? = some y) :
    Calls Try.prog 10 #[.pointer (some ⟨ba, 0, none⟩), .pointer (some ⟨bm, 0, none⟩), .agg #[.int .i64 1, .int .i64 i, .int .i64 old, .int .i64 x]] W fun e w' => e = .returned (.bool true) ∧ PS W0 w' ba bm (k + 1) := by
  have hi := get_lt hy
  have hs2 : st ≤ 1000 := by omega
  have H := Lib.hid (h.keep (balloc (Below.refl _ _) (.cells #[.int .i64 1, .int .i64 i, .int .i64 old, .int .i64 x] 31)))
  have HX := Lib.hid hx
  have HY := Lib.hid hy
  have hyr := hx y (List.mem_of_getElem? hy)
  have HYR := Lib.hid hyr
  have HS1 := Lib.hid hs1
  obtain ⟨gu, cu, rfl, hgc, hcu⟩ := row_some h.2.1.2 (by omega)
  have m0 := H.out.2.1.c0
  have m1 := H.out.2.1.c1
  have hn9 : xs.length ≤ 9223372036854775807 := by omega
  clear h hx hy hs1 hcu hyr hgc
  go_enter Try.func10, Try.ntmps10
  go_wp2_with fail
  have hO1 : OpAt (W.alloc (.cells #[.int .i64 1, .int .i64 i, .int .i64 old, .int .i64 x] 31)) W.heap.size 1 i old x := obj_new W _
  generalize W.alloc (.cells #[.int .i64 1, .int .i64 i, .int .i64 old, .int .i64 x] 31) = w1 at *
  generalize W.heap.size = ob at *
  have oc1 : w1.cell? ⟨ob, 1, none⟩ = some (.int .i64 i) := (obj_cell hO1 1).trans rfl
  have HO1 := Lib.hid hO1
  clear hO1
  go_still_tail 5, (by kernel_rfl)
  change wpList _ _ _ _ _ (World.drew _)
  go_wp2_with fail
  refine (right_yes i xs.length cu _ _ _ hi hn9).mono ?_
  rintro e w2 ⟨rfl, hb2⟩
  have H2 := Lib.hid (H.out.drew.keep hb2)
  have hO2 : OpAt w2 ob 1 i old x := OpAt.below (OpAt.drew HO1.out) hb2
  clear m0 m1 oc1
  have m0 := H2.out.2.1.c0
  have m1 := H2.out.2.1.c1
  have mf := H2.out.2.1.f 1
  have oc0 : w2.cell? ⟨ob, 0, none⟩ = some (.int .i64 1) := (obj_cell hO2 0).trans rfl
  have oc1 : w2.cell? ⟨ob, 1, none⟩ = some (.int .i64 i) := (obj_cell hO2 1).trans rfl
  have oc2 : w2.cell? ⟨ob, 2, none⟩ = some (.int .i64 old) := (obj_cell hO2 2).trans rfl
  have oc3 : w2.cell? ⟨ob, 3, none⟩ = some (.int .i64 x) := (obj_cell hO2 3).trans rfl
  have hob : ob ≠ bm := obj_ne hO2 H2.out.2.1.1 (by decide)
  have HO2 := Lib.hid hO2
  clear hb2 hO2
  go_wp2_with fail
  refine (load_some i _ ba v xs st y (H2.out.count (st + 1)).1 HY.out hs0 (by omega)).mono ?_
  rintro e w4 ⟨rfl, hs⟩
  obtain ⟨v4, h4, hf4⟩ := (H2.out.count (st + 1)).step hs
  have hO4 : OpAt w4 ob 1 i old x := OpAt.keep (HO2.out.count H2.out 1 _) (H2.out.count (st + 1)) hf4
  clear m0 m1 mf oc0 oc1 oc2 oc3 hs hf4
  have m0 := h4.2.1.c0
  have m1 := h4.2.1.c1
  have oc1 : w4.cell? ⟨ob, 1, none⟩ = some (.int .i64 i) := (obj_cell hO4 1).trans rfl
  have oc2 : w4.cell? ⟨ob, 2, none⟩ = some (.int .i64 old) := (obj_cell hO4 2).trans rfl
  have oc3 : w4.cell? ⟨ob, 3, none⟩ = some (.int .i64 x) := (obj_cell hO4 3).trans rfl
  have gc : w4.cell? ⟨gu, i, none⟩ = some (.int .i64 y) := (h4.2.1.2.cellAt i (by omega)).trans (by simp [HY.out])
  have HO4 := Lib.hid hO4
  have H4 := Lib.hid h4
  clear hO4 h4
  go_wp2_with fail
  go_quiet ((go_at_call 19; exact Calls.quiet_of_same ((isN_nil 0).mono fun _ _ h => ⟨h.1, h.2.symm⟩)))
  go_wp2
  go_ret
  exact ⟨rfl, _, _, _, _, H4.out.drewN _, by omega, by omega, by have := HS1.out; omega, HX.out⟩

set_option maxRecDepth 100000 in
set_option maxHeartbeats 1000000 in
theorem play2_right (W0 W : World) (ba bm : Nat) (v u : Value) (xs : List Int) (st : Int) (k : Nat) (h : Two W0 W ba bm v u xs st xs st) (hk : k ≤ 1000) (hl : xs.length ≤ k) (hs0 : 0 ≤ st) (hs1 : st ≤ k) (hx : ∀ x ∈ xs, -9223372036854775808 ≤ x ∧ x ≤ 9223372036854775807)
    (i : Nat) (y old x : Int) (hy : xs[i]? = some y) (hx1 : -9223372036854775808 ≤ x) (hx2 : x ≤ 9223372036854775807) :
    Calls Try.prog 10 #[.pointer (some ⟨ba, 0, none⟩), .pointer (some ⟨bm, 0, none⟩), .agg #[.int .i64 2, .int .i64 i, .int .i64 old, .int .i64 x]] W fun e w' => e = .returned (.bool true) ∧ PS W0 w' ba bm (k + 1) := by
  have hi := get_lt hy
  have hs2 : st ≤ 1000 := by omega
  have H := Lib.hid (h.keep (balloc (Below.refl _ _) (.cells #[.int .i64 2, .int .i64 i, .int .i64 old, .int .i64 x] 31)))
  have HX := Lib.hid hx
  have HY := Lib.hid hy
  have hyr := hx y (List.mem_of_getElem? hy)
  have HYR := Lib.hid hyr
  have HS1 := Lib.hid hs1
  obtain ⟨gu, cu, rfl, hgc, hcu⟩ := row_some h.2.1.2 (by omega)
  have m0 := H.out.2.1.c0
  have m1 := H.out.2.1.c1
  have hn9 : xs.length ≤ 9223372036854775807 := by omega
  clear h hx hy hs1 hcu hyr hgc
  go_enter Try.func10, Try.ntmps10
  go_wp2_with fail
  have hO1 : OpAt (W.alloc (.cells #[.int .i64 2, .int .i64 i, .int .i64 old, .int .i64 x] 31)) W.heap.size 2 i old x := obj_new W _
  generalize W.alloc (.cells #[.int .i64 2, .int .i64 i, .int .i64 old, .int .i64 x] 31) = w1 at *
  generalize W.heap.size = ob at *
  have oc1 : w1.cell? ⟨ob, 1, none⟩ = some (.int .i64 i) := (obj_cell hO1 1).trans rfl
  have HO1 := Lib.hid hO1
  clear hO1
  go_still_tail 5, (by kernel_rfl)
  change wpList _ _ _ _ _ (World.drew _)
  go_wp2_with fail
  refine (right_yes i xs.length cu _ _ _ hi hn9).mono ?_
  rintro e w2 ⟨rfl, hb2⟩
  have H2 := Lib.hid (H.out.drew.keep hb2)
  have hO2 : OpAt w2 ob 2 i old x := OpAt.below (OpAt.drew HO1.out) hb2
  clear m0 m1 oc1
  have m0 := H2.out.2.1.c0
  have m1 := H2.out.2.1.c1
  have mf := H2.out.2.1.f 1
  have oc0 : w2.cell? ⟨ob, 0, none⟩ = some (.int .i64 2) := (obj_cell hO2 0).trans rfl
  have oc1 : w2.cell? ⟨ob, 1, none⟩ = some (.int .i64 i) := (obj_cell hO2 1).trans rfl
  have oc2 : w2.cell? ⟨ob, 2, none⟩ = some (.int .i64 old) := (obj_cell hO2 2).trans rfl
  have oc3 : w2.cell? ⟨ob, 3, none⟩ = some (.int .i64 x) := (obj_cell hO2 3).trans rfl
  have hob : ob ≠ bm := obj_ne hO2 H2.out.2.1.1 (by decide)
  have HO2 := Lib.hid hO2
  clear hb2 hO2
  go_wp2_with fail
  refine (store_some i x _ ba v xs st y (H2.out.count (st + 1)).1 HY.out hs0 (by omega)).mono ?_
  rintro e w4 ⟨rfl, hs⟩
  obtain ⟨v4, h4, hf4⟩ := (H2.out.count (st + 1)).step hs
  have hO4 : OpAt w4 ob 2 i old x := OpAt.keep (HO2.out.count H2.out 1 _) (H2.out.count (st + 1)) hf4
  clear m0 m1 mf oc0 oc1 oc2 oc3 hs hf4
  have m0 := h4.2.1.c0
  have m1 := h4.2.1.c1
  have oc1 : w4.cell? ⟨ob, 1, none⟩ = some (.int .i64 i) := (obj_cell hO4 1).trans rfl
  have oc2 : w4.cell? ⟨ob, 2, none⟩ = some (.int .i64 old) := (obj_cell hO4 2).trans rfl
  have oc3 : w4.cell? ⟨ob, 3, none⟩ = some (.int .i64 x) := (obj_cell hO4 3).trans rfl
  have gc : w4.cell? ⟨gu, i, none⟩ = some (.int .i64 y) := (h4.2.1.2.cellAt i (by omega)).trans (by simp [HY.out])
  have HO4 := Lib.hid hO4
  have H4 := Lib.hid h4
  clear hO4 h4
  go_wp2_with fail
  go_region_with ((go_at_call 33; refine (set_some i xs.length cu gu _ _ x _ (H4.out.drew).2.1.2 (oneCells xs) hi (by omega)).mono ?_; rintro e w5 ⟨p5, c5, rfl, ho5, hb5, hg5⟩; have hk5 := (H4.out.drew).keep hb5; have n0 := hk5.2.1.c0; have n1 := hk5.2.1.c1; have nf0 := hk5.2.1.f 0; have nf1 := hk5.2.1.f 1; have HE := Lib.hid (set_two hk5 (Nat.le_trans (H4.out.drew).below.size (Nat.le_refl _)) ho5 hg5 fun g hg => row_lt (H4.out.drew).1.2 hg); clear ho5 hb5 hg5 hk5 m0 m1 oc1 oc2 oc3 gc))
  all_goals
    go_wp2_with (go_at_call 19; refine (isN_nil 0).mono ?_; rintro e w6 ⟨rfl, rfl⟩)
    go_ret
    exact ⟨rfl, _, _, _, _, HE.out, by simp; omega, by omega, by have := HS1.out; omega, range_set HX.out hx1 hx2⟩
end Go.Proofs.Ytofkcjoonjhdpaa
