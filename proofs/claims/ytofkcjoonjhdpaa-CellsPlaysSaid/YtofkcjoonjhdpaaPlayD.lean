/-
  One thing done to both arenas (norialaw03.play), with a cell that there is: by contract. Conditions: both arenas are the same, at most 1000 cells and steps.
-/
import Derived.Test.YtofkcjoonjhdpaaPlayL
namespace Go.Proofs.Ytofkcjoonjhdpaa
open Go.RowKit

set_option maxRecDepth 100000 in
set_option maxHeartbeats 1000000 in
theorem play1_none (W0 W : World) (ba bm : Nat) (v u : Value) (xs : List Int) (st : Int) (k : Nat) (h : Two W0 W ba bm v u xs st xs st) (hk : k ≤ 1000) (hl : xs.length ≤ k) (hs0 : 0 ≤ st) (hs1 : st ≤ k) (hx : ∀ x ∈ xs, -9223372036854775808 ≤ x ∧ x ≤ 9223372036854775807)
    (id old x : Int) (hid : id < 0 ∨ (xs.length : Int) ≤ id) :
    Calls Try.prog 10 #[.pointer (some ⟨ba, 0, none⟩), .pointer (some ⟨bm, 0, none⟩), .agg #[.int .i64 1, .int .i64 id, .int .i64 old, .int .i64 x]] W fun e w' => e = .returned (.bool true) ∧ PS W0 w' ba bm (k + 1) := by
  have hs2 : st ≤ 1000 := by omega
  have H := Lib.hid (h.keep (balloc (Below.refl _ _) (.cells #[.int .i64 1, .int .i64 id, .int .i64 old, .int .i64 x] 31)))
  have HX := Lib.hid hx
  have HI := Lib.hid hid
  have HS1 := Lib.hid hs1
  obtain ⟨pu, cu, rfl, hcu⟩ := row_form h.2.1.2
  have m0 := H.out.2.1.c0
  have m1 := H.out.2.1.c1
  clear h hx hid hs1 hcu
  go_enter Try.func10, Try.ntmps10
  go_wp2_with fail
  have hO1 : OpAt (W.alloc (.cells #[.int .i64 1, .int .i64 id, .int .i64 old, .int .i64 x] 31)) W.heap.size 1 id old x := obj_new W _
  generalize W.alloc (.cells #[.int .i64 1, .int .i64 id, .int .i64 old, .int .i64 x] 31) = w1 at *
  generalize W.heap.size = ob at *
  have oc1 : w1.cell? ⟨ob, 1, none⟩ = some (.int .i64 id) := (obj_cell hO1 1).trans rfl
  have HO1 := Lib.hid hO1
  clear hO1
  go_still_tail 5, (by kernel_rfl)
  change wpList _ _ _ _ _ (World.drew _)
  go_wp2_with fail
  refine (right_no id xs.length cu _ _ _ HI.out).mono ?_
  rintro e w2 ⟨rfl, hb2⟩
  have H2 := Lib.hid (H.out.drew.keep hb2)
  have hO2 : OpAt w2 ob 1 id old x := OpAt.below (OpAt.drew HO1.out) hb2
  clear m0 m1 oc1
  have m0 := H2.out.2.1.c0
  have m1 := H2.out.2.1.c1
  have mf := H2.out.2.1.f 1
  have oc0 : w2.cell? ⟨ob, 0, none⟩ = some (.int .i64 1) := (obj_cell hO2 0).trans rfl
  have oc1 : w2.cell? ⟨ob, 1, none⟩ = some (.int .i64 id) := (obj_cell hO2 1).trans rfl
  have oc2 : w2.cell? ⟨ob, 2, none⟩ = some (.int .i64 old) := (obj_cell hO2 2).trans rfl
  have oc3 : w2.cell? ⟨ob, 3, none⟩ = some (.int .i64 x) := (obj_cell hO2 3).trans rfl
  have hob : ob ≠ bm := obj_ne hO2 H2.out.2.1.1 (by decide)
  clear hb2 hO2
  go_wp2_with fail
  refine (load_none id _ ba v xs st H2.out.1 HI.out).mono ?_
  rintro e w4 ⟨rfl, hw⟩
  obtain ⟨c4, b4⟩ := err_new hw
  have HC4 := Lib.hid c4
  have HB4 := Lib.hid b4
  clear hw c4 b4 m0 m1 mf oc0 oc1 oc2 oc3
  have hisn : ∀ n, Calls Try.prog 19 #[.iface 97 (.pointer (some ⟨w2.heap.size, 0, none⟩)), .int .i64 3] (w4.drewN n) fun e w'' => e = .returned (.bool true) ∧ ∃ m, w'' = w4.drewN m := fun n => (isN_chain 3 _ 1 3 (HC4.out.keep (below_drewN _ n)) (by decide)).mono fun e w h => ⟨h.1, n, h.2.symm⟩
  have HISN := Lib.hid hisn
  clear hisn
  go_wp2_with fail
  go_quiet ((go_at_call 19; exact HISN.out _))
  go_wp2
  go_ret
  exact ⟨rfl, _, _, _, _, (H2.out.keep HB4.out).drewN _, by omega, by omega, by have := HS1.out; omega, HX.out⟩

set_option maxRecDepth 100000 in
set_option maxHeartbeats 1000000 in
theorem play2_none (W0 W : World) (ba bm : Nat) (v u : Value) (xs : List Int) (st : Int) (k : Nat) (h : Two W0 W ba bm v u xs st xs st) (hk : k ≤ 1000) (hl : xs.length ≤ k) (hs0 : 0 ≤ st) (hs1 : st ≤ k) (hx : ∀ x ∈ xs, -9223372036854775808 ≤ x ∧ x ≤ 9223372036854775807)
    (id old x : Int) (hid : id < 0 ∨ (xs.length : Int) ≤ id) :
    Calls Try.prog 10 #[.pointer (some ⟨ba, 0, none⟩), .pointer (some ⟨bm, 0, none⟩), .agg #[.int .i64 2, .int .i64 id, .int .i64 old, .int .i64 x]] W fun e w' => e = .returned (.bool true) ∧ PS W0 w' ba bm (k + 1) := by
  have hs2 : st ≤ 1000 := by omega
  have H := Lib.hid (h.keep (balloc (Below.refl _ _) (.cells #[.int .i64 2, .int .i64 id, .int .i64 old, .int .i64 x] 31)))
  have HX := Lib.hid hx
  have HI := Lib.hid hid
  have HS1 := Lib.hid hs1
  obtain ⟨pu, cu, rfl, hcu⟩ := row_form h.2.1.2
  have m0 := H.out.2.1.c0
  have m1 := H.out.2.1.c1
  clear h hx hid hs1 hcu
  go_enter Try.func10, Try.ntmps10
  go_wp2_with fail
  have hO1 : OpAt (W.alloc (.cells #[.int .i64 2, .int .i64 id, .int .i64 old, .int .i64 x] 31)) W.heap.size 2 id old x := obj_new W _
  generalize W.alloc (.cells #[.int .i64 2, .int .i64 id, .int .i64 old, .int .i64 x] 31) = w1 at *
  generalize W.heap.size = ob at *
  have oc1 : w1.cell? ⟨ob, 1, none⟩ = some (.int .i64 id) := (obj_cell hO1 1).trans rfl
  have HO1 := Lib.hid hO1
  clear hO1
  go_still_tail 5, (by kernel_rfl)
  change wpList _ _ _ _ _ (World.drew _)
  go_wp2_with fail
  refine (right_no id xs.length cu _ _ _ HI.out).mono ?_
  rintro e w2 ⟨rfl, hb2⟩
  have H2 := Lib.hid (H.out.drew.keep hb2)
  have hO2 : OpAt w2 ob 2 id old x := OpAt.below (OpAt.drew HO1.out) hb2
  clear m0 m1 oc1
  have m0 := H2.out.2.1.c0
  have m1 := H2.out.2.1.c1
  have mf := H2.out.2.1.f 1
  have oc0 : w2.cell? ⟨ob, 0, none⟩ = some (.int .i64 2) := (obj_cell hO2 0).trans rfl
  have oc1 : w2.cell? ⟨ob, 1, none⟩ = some (.int .i64 id) := (obj_cell hO2 1).trans rfl
  have oc2 : w2.cell? ⟨ob, 2, none⟩ = some (.int .i64 old) := (obj_cell hO2 2).trans rfl
  have oc3 : w2.cell? ⟨ob, 3, none⟩ = some (.int .i64 x) := (obj_cell hO2 3).trans rfl
  have hob : ob ≠ bm := obj_ne hO2 H2.out.2.1.1 (by decide)
  clear hb2 hO2
  go_wp2_with fail
  refine (store_none id x _ ba v xs st H2.out.1 HI.out).mono ?_
  rintro e w4 ⟨rfl, hw⟩
  obtain ⟨c4, b4⟩ := err_new hw
  have HC4 := Lib.hid c4
  have HB4 := Lib.hid b4
  clear hw c4 b4 m0 m1 mf oc0 oc1 oc2 oc3
  go_wp2_with (go_at_call 19; refine (isN_chain 3 _ 1 3 HC4.out (by decide)).mono ?_; rintro e w6 ⟨rfl, rfl⟩)
  go_ret
  exact ⟨rfl, _, _, _, _, (H2.out.keep HB4.out), by omega, by omega, by have := HS1.out; omega, HX.out⟩

set_option maxRecDepth 100000 in
set_option maxHeartbeats 1000000 in
theorem play3_none (W0 W : World) (ba bm : Nat) (v u : Value) (xs : List Int) (st : Int) (k : Nat) (h : Two W0 W ba bm v u xs st xs st) (hk : k ≤ 1000) (hl : xs.length ≤ k) (hs0 : 0 ≤ st) (hs1 : st ≤ k) (hx : ∀ x ∈ xs, -9223372036854775808 ≤ x ∧ x ≤ 9223372036854775807)
    (id old x : Int) (hid : id < 0 ∨ (xs.length : Int) ≤ id) :
    Calls Try.prog 10 #[.pointer (some ⟨ba, 0, none⟩), .pointer (some ⟨bm, 0, none⟩), .agg #[.int .i64 3, .int .i64 id, .int .i64 old, .int .i64 x]] W fun e w' => e = .returned (.bool true) ∧ PS W0 w' ba bm (k + 1) := by
  have hs2 : st ≤ 1000 := by omega
  have H := Lib.hid (h.keep (balloc (Below.refl _ _) (.cells #[.int .i64 3, .int .i64 id, .int .i64 old, .int .i64 x] 31)))
  have HX := Lib.hid hx
  have HI := Lib.hid hid
  have HS1 := Lib.hid hs1
  obtain ⟨pu, cu, rfl, hcu⟩ := row_form h.2.1.2
  have m0 := H.out.2.1.c0
  have m1 := H.out.2.1.c1
  clear h hx hid hs1 hcu
  go_enter Try.func10, Try.ntmps10
  go_wp2_with fail
  have hO1 : OpAt (W.alloc (.cells #[.int .i64 3, .int .i64 id, .int .i64 old, .int .i64 x] 31)) W.heap.size 3 id old x := obj_new W _
  generalize W.alloc (.cells #[.int .i64 3, .int .i64 id, .int .i64 old, .int .i64 x] 31) = w1 at *
  generalize W.heap.size = ob at *
  have oc1 : w1.cell? ⟨ob, 1, none⟩ = some (.int .i64 id) := (obj_cell hO1 1).trans rfl
  have HO1 := Lib.hid hO1
  clear hO1
  go_still_tail 5, (by kernel_rfl)
  change wpList _ _ _ _ _ (World.drew _)
  go_wp2_with fail
  refine (right_no id xs.length cu _ _ _ HI.out).mono ?_
  rintro e w2 ⟨rfl, hb2⟩
  have H2 := Lib.hid (H.out.drew.keep hb2)
  have hO2 : OpAt w2 ob 3 id old x := OpAt.below (OpAt.drew HO1.out) hb2
  clear m0 m1 oc1
  have m0 := H2.out.2.1.c0
  have m1 := H2.out.2.1.c1
  have mf := H2.out.2.1.f 1
  have oc0 : w2.cell? ⟨ob, 0, none⟩ = some (.int .i64 3) := (obj_cell hO2 0).trans rfl
  have oc1 : w2.cell? ⟨ob, 1, none⟩ = some (.int .i64 id) := (obj_cell hO2 1).trans rfl
  have oc2 : w2.cell? ⟨ob, 2, none⟩ = some (.int .i64 old) := (obj_cell hO2 2).trans rfl
  have oc3 : w2.cell? ⟨ob, 3, none⟩ = some (.int .i64 x) := (obj_cell hO2 3).trans rfl
  have hob : ob ≠ bm := obj_ne hO2 H2.out.2.1.1 (by decide)
  clear hb2 hO2
  go_wp2_with fail
  refine (swap_none id old x _ ba v xs st H2.out.1 HI.out).mono ?_
  rintro e w4 ⟨rfl, hw⟩
  obtain ⟨c4, b4⟩ := err_new hw
  have HC4 := Lib.hid c4
  have HB4 := Lib.hid b4
  clear hw c4 b4 m0 m1 mf oc0 oc1 oc2 oc3
  go_wp2_with fail
  go_quiet (fail)
  go_wp2_with (go_at_call 19; refine (isN_chain 3 _ 1 3 (HC4.out.keep (below_drewN _ _)) (by decide)).mono ?_; rintro e w6 ⟨rfl, rfl⟩)
  go_ret
  exact ⟨rfl, _, _, _, _, (H2.out.keep HB4.out).drewN _, by omega, by omega, by have := HS1.out; omega, HX.out⟩

set_option maxRecDepth 100000 in
set_option maxHeartbeats 1000000 in
theorem play4_none (W0 W : World) (ba bm : Nat) (v u : Value) (xs : List Int) (st : Int) (k : Nat) (h : Two W0 W ba bm v u xs st xs st) (hk : k ≤ 1000) (hl : xs.length ≤ k) (hs0 : 0 ≤ st) (hs1 : st ≤ k) (hx : ∀ x ∈ xs, -9223372036854775808 ≤ x ∧ x ≤ 9223372036854775807)
    (id old x : Int) (hid : id < 0 ∨ (xs.length : Int) ≤ id) :
    Calls Try.prog 10 #[.pointer (some ⟨ba, 0, none⟩), .pointer (some ⟨bm, 0, none⟩), .agg #[.int .i64 4, .int .i64 id, .int .i64 old, .int .i64 x]] W fun e w' => e = .returned (.bool true) ∧ PS W0 w' ba bm (k + 1) := by
  have hs2 : st ≤ 1000 := by omega
  have H := Lib.hid (h.keep (balloc (Below.refl _ _) (.cells #[.int .i64 4, .int .i64 id, .int .i64 old, .int .i64 x] 31)))
  have HX := Lib.hid hx
  have HI := Lib.hid hid
  have HS1 := Lib.hid hs1
  obtain ⟨pu, cu, rfl, hcu⟩ := row_form h.2.1.2
  have m0 := H.out.2.1.c0
  have m1 := H.out.2.1.c1
  clear h hx hid hs1 hcu
  go_enter Try.func10, Try.ntmps10
  go_wp2_with fail
  have hO1 : OpAt (W.alloc (.cells #[.int .i64 4, .int .i64 id, .int .i64 old, .int .i64 x] 31)) W.heap.size 4 id old x := obj_new W _
  generalize W.alloc (.cells #[.int .i64 4, .int .i64 id, .int .i64 old, .int .i64 x] 31) = w1 at *
  generalize W.heap.size = ob at *
  have oc1 : w1.cell? ⟨ob, 1, none⟩ = some (.int .i64 id) := (obj_cell hO1 1).trans rfl
  have HO1 := Lib.hid hO1
  clear hO1
  go_still_tail 5, (by kernel_rfl)
  change wpList _ _ _ _ _ (World.drew _)
  go_wp2_with fail
  refine (right_no id xs.length cu _ _ _ HI.out).mono ?_
  rintro e w2 ⟨rfl, hb2⟩
  have H2 := Lib.hid (H.out.drew.keep hb2)
  have hO2 : OpAt w2 ob 4 id old x := OpAt.below (OpAt.drew HO1.out) hb2
  clear m0 m1 oc1
  have m0 := H2.out.2.1.c0
  have m1 := H2.out.2.1.c1
  have mf := H2.out.2.1.f 1
  have oc0 : w2.cell? ⟨ob, 0, none⟩ = some (.int .i64 4) := (obj_cell hO2 0).trans rfl
  have oc1 : w2.cell? ⟨ob, 1, none⟩ = some (.int .i64 id) := (obj_cell hO2 1).trans rfl
  have oc2 : w2.cell? ⟨ob, 2, none⟩ = some (.int .i64 old) := (obj_cell hO2 2).trans rfl
  have oc3 : w2.cell? ⟨ob, 3, none⟩ = some (.int .i64 x) := (obj_cell hO2 3).trans rfl
  have hob : ob ≠ bm := obj_ne hO2 H2.out.2.1.1 (by decide)
  clear hb2 hO2
  go_wp2_with fail
  refine (add_none id x _ ba v xs st H2.out.1 HI.out).mono ?_
  rintro e w4 ⟨rfl, hw⟩
  obtain ⟨c4, b4⟩ := err_new hw
  have HC4 := Lib.hid c4
  have HB4 := Lib.hid b4
  clear hw c4 b4 m0 m1 mf oc0 oc1 oc2 oc3
  go_wp2_with (go_at_call 19; refine (isN_chain 3 _ 1 3 HC4.out (by decide)).mono ?_; rintro e w6 ⟨rfl, rfl⟩)
  go_ret
  exact ⟨rfl, _, _, _, _, (H2.out.keep HB4.out), by omega, by omega, by have := HS1.out; omega, HX.out⟩
end Go.Proofs.Ytofkcjoonjhdpaa
