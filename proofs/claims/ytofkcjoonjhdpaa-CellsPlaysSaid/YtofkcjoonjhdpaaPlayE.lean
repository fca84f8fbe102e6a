/-
  One thing done to both arenas (norialaw03.play), with a cell that there is: by contract. Conditions: both arenas are the same, at most 1000 cells and steps.
-/
import Derived.Test.YtofkcjoonjhdpaaPlayL
namespace Go.Proofs.Ytofkcjoonjhdpaa
open Go.RowKit

set_option maxRecDepth 100000 in
set_option maxHeartbeats 1000000 in
theorem playo_low_right (W0 W : World) (ba bm : Nat) (v u : Value) (xs : List Int) (st : Int) (k : Nat) (h : Two W0 W ba bm v u xs st xs st) (hk : k ≤ 1000) (hl : xs.length ≤ k) (hs0 : 0 ≤ st) (hs1 : st ≤ k) (hx : ∀ x ∈ xs, -9223372036854775808 ≤ x ∧ x ≤ 9223372036854775807)
    (kind : Int) (hkind : kind < 0) (i : Nat) (y old x : Int) (hy : xs[i]? = some y) :
    Calls Try.prog 10 #[.pointer (some ⟨ba, 0, none⟩), .pointer (some ⟨bm, 0, none⟩), .agg #[.int .i64 kind, .int .i64 i, .int .i64 old, .int .i64 x]] W fun e w' => e = .returned (.bool true) ∧ PS W0 w' ba bm (k + 1) := by
  have hi := get_lt hy
  have hs2 : st ≤ 1000 := by omega
  have H := Lib.hid (h.keep (balloc (Below.refl _ _) (.cells #[.int .i64 kind, .int .i64 i, .int .i64 old, .int .i64 x] 31)))
  have HX := Lib.hid hx
  have HY := Lib.hid hy
  have hyr := hx y (List.mem_of_getElem? hy)
  have HYR := Lib.hid hyr
  have HS1 := Lib.hid hs1
  obtain ⟨gu, cu, rfl, hgc, hcu⟩ := row_some h.2.1.2 (by omega)
  have m0 := H.out.2.1.c0
  have m1 := H.out.2.1.c1
  have hn9 : xs.length ≤ 9223372036854775807 := by omega
  clear h hx hy hs1 hcu hyr hgc
  have e0 : (kind == 0) = false := by rw [beq_eq_false_iff_ne]; omega
  have e1 : (kind == 1) = false := by rw [beq_eq_false_iff_ne]; omega
  have e2 : (kind == 2) = false := by rw [beq_eq_false_iff_ne]; omega
  have e3 : (kind == 3) = false := by rw [beq_eq_false_iff_ne]; omega
  have e4 : (kind == 4) = false := by rw [beq_eq_false_iff_ne]; omega
  go_enter Try.func10, Try.ntmps10
  go_wp2_with fail
  have hO1 : OpAt (W.alloc (.cells #[.int .i64 kind, .int .i64 i, .int .i64 old, .int .i64 x] 31)) W.heap.size kind i old x := obj_new W _
  generalize W.alloc (.cells #[.int .i64 kind, .int .i64 i, .int .i64 old, .int .i64 x] 31) = w1 at *
  generalize W.heap.size = ob at *
  have oc1 : w1.cell? ⟨ob, 1, none⟩ = some (.int .i64 i) := (obj_cell hO1 1).trans rfl
  have HO1 := Lib.hid hO1
  clear hO1
  go_still_tail 5, (by kernel_rfl)
  change wpList _ _ _ _ _ (World.drew _)
  go_wp2_with fail
  refine (right_yes i xs.length cu _ _ _ hi hn9).mono ?_
  rintro e w2 ⟨rfl, hb2⟩
  have H2 := Lib.hid (H.out.drew.keep hb2)
  have hO2 : OpAt w2 ob kind i old x := OpAt.below (OpAt.drew HO1.out) hb2
  clear m0 m1 oc1
  have m0 := H2.out.2.1.c0
  have m1 := H2.out.2.1.c1
  have mf := H2.out.2.1.f 1
  have oc0 : w2.cell? ⟨ob, 0, none⟩ = some (.int .i64 kind) := (obj_cell hO2 0).trans rfl
  have oc1 : w2.cell? ⟨ob, 1, none⟩ = some (.int .i64 i) := (obj_cell hO2 1).trans rfl
  have oc2 : w2.cell? ⟨ob, 2, none⟩ = some (.int .i64 old) := (obj_cell hO2 2).trans rfl
  have oc3 : w2.cell? ⟨ob, 3, none⟩ = some (.int .i64 x) := (obj_cell hO2 3).trans rfl
  have hob : ob ≠ bm := obj_ne hO2 H2.out.2.1.1 (by decide)
  have HO2 := Lib.hid hO2
  clear hb2 hO2
  go_wp2_with fail
  go_ret
  exact ⟨rfl, _, _, _, _, H2.out, by omega, by omega, by have := HS1.out; omega, HX.out⟩

set_option maxRecDepth 100000 in
set_option maxHeartbeats 1000000 in
theorem playo_low_none (W0 W : World) (ba bm : Nat) (v u : Value) (xs : List Int) (st : Int) (k : Nat) (h : Two W0 W ba bm v u xs st xs st) (hk : k ≤ 1000) (hl : xs.length ≤ k) (hs0 : 0 ≤ st) (hs1 : st ≤ k) (hx : ∀ x ∈ xs, -9223372036854775808 ≤ x ∧ x ≤ 9223372036854775807)
    (kind : Int) (hkind : kind < 0) (id old x : Int) (hid : id < 0 ∨ (xs.length : Int) ≤ id) :
    Calls Try.prog 10 #[.pointer (some ⟨ba, 0, none⟩), .pointer (some ⟨bm, 0, none⟩), .agg #[.int .i64 kind, .int .i64 id, .int .i64 old, .int .i64 x]] W fun e w' => e = .returned (.bool true) ∧ PS W0 w' ba bm (k + 1) := by
  have hs2 : st ≤ 1000 := by omega
  have H := Lib.hid (h.keep (balloc (Below.refl _ _) (.cells #[.int .i64 kind, .int .i64 id, .int .i64 old, .int .i64 x] 31)))
  have HX := Lib.hid hx
  have HI := Lib.hid hid
  have HS1 := Lib.hid hs1
  obtain ⟨pu, cu, rfl, hcu⟩ := row_form h.2.1.2
  have m0 := H.out.2.1.c0
  have m1 := H.out.2.1.c1
  clear h hx hid hs1 hcu
  have e0 : (kind == 0) = false := by rw [beq_eq_false_iff_ne]; omega
  have e1 : (kind == 1) = false := by rw [beq_eq_false_iff_ne]; omega
  have e2 : (kind == 2) = false := by rw [beq_eq_false_iff_ne]; omega
  have e3 : (kind == 3) = false := by rw [beq_eq_false_iff_ne]; omega
  have e4 : (kind == 4) = false := by rw [beq_eq_false_iff_ne]; omega
  go_enter Try.func10, Try.ntmps10
  go_wp2_with fail
  have hO1 : OpAt (W.alloc (.cells #[.int .i64 kind, .int .i64 id, .int .i64 old, .int .i64 x] 31)) W.heap.size kind id old x := obj_new W _
  generalize W.alloc (.cells #[.int .i64 kind, .int .i64 id, .int .i64 old, .int .i64 x] 31) = w1 at *
  generalize W.heap.size = ob at *
  have oc1 : w1.cell? ⟨ob, 1, none⟩ = some (.int .i64 id) := (obj_cell hO1 1).trans rfl
  have HO1 := Lib.hid hO1
  clear hO1
  go_still_tail 5, (by kernel_rfl)
  change wpList _ _ _ _ _ (World.drew _)
  go_wp2_with fail
  refine (right_no id xs.length cu _ _ _ HI.out).mono ?_
  rintro e w2 ⟨rfl, hb2⟩
  have H2 := Lib.hid (H.out.drew.keep hb2)
  have hO2 : OpAt w2 ob kind id old x := OpAt.below (OpAt.drew HO1.out) hb2
  clear m0 m1 oc1
  have m0 := H2.out.2.1.c0
  have m1 := H2.out.2.1.c1
  have mf := H2.out.2.1.f 1
  have oc0 : w2.cell? ⟨ob, 0, none⟩ = some (.int .i64 kind) := (obj_cell hO2 0).trans rfl
  have oc1 : w2.cell? ⟨ob, 1, none⟩ = some (.int .i64 id) := (obj_cell hO2 1).trans rfl
  have oc2 : w2.cell? ⟨ob, 2, none⟩ = some (.int .i64 old) := (obj_cell hO2 2).trans rfl
  have oc3 : w2.cell? ⟨ob, 3, none⟩ = some (.int .i64 x) := (obj_cell hO2 3).trans rfl
  have hob : ob ≠ bm := obj_ne hO2 H2.out.2.1.1 (by decide)
  clear hb2 hO2
  go_wp2_with fail
  go_ret
  exact ⟨rfl, _, _, _, _, H2.out, by omega, by omega, by have := HS1.out; omega, HX.out⟩

set_option maxRecDepth 100000 in
set_option maxHeartbeats 1000000 in
theorem playo_high_right (W0 W : World) (ba bm : Nat) (v u : Value) (xs : List Int) (st : Int) (k : Nat) (h : Two W0 W ba bm v u xs st xs st) (hk : k ≤ 1000) (hl : xs.length ≤ k) (hs0 : 0 ≤ st) (hs1 : st ≤ k) (hx : ∀ x ∈ xs, -9223372036854775808 ≤ x ∧ x ≤ 9223372036854775807)
    (kind : Int) (hkind : 4 < kind) (i : Nat) (y old x : Int) (hy : xs[i]? = some y) :
    Calls Try.prog 10 #[.pointer (some ⟨ba, 0, none⟩), .pointer (some ⟨bm, 0, none⟩), .agg #[.int .i64 kind, .int .i64 i, .int .i64 old, .int .i64 x]] W fun e w' => e = .returned (.bool true) ∧ PS W0 w' ba bm (k + 1) := by
  have hi := get_lt hy
  have hs2 : st ≤ 1000 := by omega
  have H := Lib.hid (h.keep (balloc (Below.refl _ _) (.cells #[.int .i64 kind, .int .i64 i, .int .i64 old, .int .i64 x] 31)))
  have HX := Lib.hid hx
  have HY := Lib.hid hy
  have hyr := hx y (List.mem_of_getElem? hy)
  have HYR := Lib.hid hyr
  have HS1 := Lib.hid hs1
  obtain ⟨gu, cu, rfl, hgc, hcu⟩ := row_some h.2.1.2 (by omega)
  have m0 := H.out.2.1.c0
  have m1 := H.out.2.1.c1
  have hn9 : xs.length ≤ 9223372036854775807 := by omega
  clear h hx hy hs1 hcu hyr hgc
  have k1 : 1 ≤ kind := by omega
  have e0 : (kind == 0) = false := by rw [beq_eq_false_iff_ne]; omega
  have e1 : (kind == 1) = false := by rw [beq_eq_false_iff_ne]; omega
  have e2 : (kind == 2) = false := by rw [beq_eq_false_iff_ne]; omega
  have e3 : (kind == 3) = false := by rw [beq_eq_false_iff_ne]; omega
  have e4 : (kind == 4) = false := by rw [beq_eq_false_iff_ne]; omega
  go_enter Try.func10, Try.ntmps10
  go_wp2_with fail
  have hO1 : OpAt (W.alloc (.cells #[.int .i64 kind, .int .i64 i, .int .i64 old, .int .i64 x] 31)) W.heap.size kind i old x := obj_new W _
  generalize W.alloc (.cells #[.int .i64 kind, .int .i64 i, .int .i64 old, .int .i64 x] 31) = w1 at *
  generalize W.heap.size = ob at *
  have oc1 : w1.cell? ⟨ob, 1, none⟩ = some (.int .i64 i) := (obj_cell hO1 1).trans rfl
  have HO1 := Lib.hid hO1
  clear hO1
  go_still_tail 5, (by kernel_rfl)
  change wpList _ _ _ _ _ (World.drew _)
  go_wp2_with fail
  refine (right_yes i xs.length cu _ _ _ hi hn9).mono ?_
  rintro e w2 ⟨rfl, hb2⟩
  have H2 := Lib.hid (H.out.drew.keep hb2)
  have hO2 : OpAt w2 ob kind i old x := OpAt.below (OpAt.drew HO1.out) hb2
  clear m0 m1 oc1
  have m0 := H2.out.2.1.c0
  have m1 := H2.out.2.1.c1
  have mf := H2.out.2.1.f 1
  have oc0 : w2.cell? ⟨ob, 0, none⟩ = some (.int .i64 kind) := (obj_cell hO2 0).trans rfl
  have oc1 : w2.cell? ⟨ob, 1, none⟩ = some (.int .i64 i) := (obj_cell hO2 1).trans rfl
  have oc2 : w2.cell? ⟨ob, 2, none⟩ = some (.int .i64 old) := (obj_cell hO2 2).trans rfl
  have oc3 : w2.cell? ⟨ob, 3, none⟩ = some (.int .i64 x) := (obj_cell hO2 3).trans rfl
  have hob : ob ≠ bm := obj_ne hO2 H2.out.2.1.1 (by decide)
  have HO2 := Lib.hid hO2
  clear hb2 hO2
  go_wp2_with fail
  go_ret
  exact ⟨rfl, _, _, _, _, H2.out, by omega, by omega, by have := HS1.out; omega, HX.out⟩

set_option maxRecDepth 100000 in
set_option maxHeartbeats 1000000 in
theorem playo_high_none (W0 W : World) (ba bm : Nat) (v u : Value) (xs : List Int) (st : Int) (k : Nat) (h : Two W0 W ba bm v u xs st xs st) (hk : k ≤ 1000) (hl : xs.length ≤ k) (hs0 : 0 ≤ st) (hs1 : st ≤ k) (hx : ∀ x ∈ xs, -9223372036854775808 ≤ x ∧ x ≤ 9223372036854775807)
    (kind : Int) (hkind : 4 < kind) (id old x : Int) (hid : id < 0 ∨ (xs.length : Int) ≤ id) :
    Calls Try.prog 10 #[.pointer (some ⟨ba, 0, none⟩), .pointer (some ⟨bm, 0, none⟩), .agg #[.int .i64 kind, .int .i64 id, .int .i64 old, .int .i64 x]] W fun e w' => e = .returned (.bool true) ∧ PS W0 w' ba bm (k + 1) := by
  have hs2 : st ≤ 1000 := by omega
  have H := Lib.hid (h.keep (balloc (Below.refl _ _) (.cells #[.int .i64 kind, .int .i64 id, .int .i64 old, .int .i64 x] 31)))
  have HX := Lib.hid hx
  have HI := Lib.hid hid
  have HS1 := Lib.hid hs1
  obtain ⟨pu, cu, rfl, hcu⟩ := row_form h.2.1.2
  have m0 := H.out.2.1.c0
  have m1 := H.out.2.1.c1
  clear h hx hid hs1 hcu
  have k1 : 1 ≤ kind := by omega
  have e0 : (kind == 0) = false := by rw [beq_eq_false_iff_ne]; omega
  have e1 : (kind == 1) = false := by rw [beq_eq_false_iff_ne]; omega
  have e2 : (kind == 2) = false := by rw [beq_eq_false_iff_ne]; omega
  have e3 : (kind == 3) = false := by rw [beq_eq_false_iff_ne]; omega
  have e4 : (kind == 4) = false := by rw [beq_eq_false_iff_ne]; omega
  go_enter Try.func10, Try.ntmps10
  go_wp2_with fail
  have hO1 : OpAt (W.alloc (.cells #[.int .i64 kind, .int .i64 id, .int .i64 old, .int .i64 x] 31)) W.heap.size kind id old x := obj_new W _
  generalize W.alloc (.cells #[.int .i64 kind, .int .i64 id, .int .i64 old, .int .i64 x] 31) = w1 at *
  generalize W.heap.size = ob at *
  have oc1 : w1.cell? ⟨ob, 1, none⟩ = some (.int .i64 id) := (obj_cell hO1 1).trans rfl
  have HO1 := Lib.hid hO1
  clear hO1
  go_still_tail 5, (by kernel_rfl)
  change wpList _ _ _ _ _ (World.drew _)
  go_wp2_with fail
  refine (right_no id xs.length cu _ _ _ HI.out).mono ?_
  rintro e w2 ⟨rfl, hb2⟩
  have H2 := Lib.hid (H.out.drew.keep hb2)
  have hO2 : OpAt w2 ob kind id old x := OpAt.below (OpAt.drew HO1.out) hb2
  clear m0 m1 oc1
  have m0 := H2.out.2.1.c0
  have m1 := H2.out.2.1.c1
  have mf := H2.out.2.1.f 1
  have oc0 : w2.cell? ⟨ob, 0, none⟩ = some (.int .i64 kind) := (obj_cell hO2 0).trans rfl
  have oc1 : w2.cell? ⟨ob, 1, none⟩ = some (.int .i64 id) := (obj_cell hO2 1).trans rfl
  have oc2 : w2.cell? ⟨ob, 2, none⟩ = some (.int .i64 old) := (obj_cell hO2 2).trans rfl
  have oc3 : w2.cell? ⟨ob, 3, none⟩ = some (.int .i64 x) := (obj_cell hO2 3).trans rfl
  have hob : ob ≠ bm := obj_ne hO2 H2.out.2.1.1 (by decide)
  clear hb2 hO2
  go_wp2_with fail
  go_ret
  exact ⟨rfl, _, _, _, _, H2.out, by omega, by omega, by have := HS1.out; omega, HX.out⟩
end Go.Proofs.Ytofkcjoonjhdpaa
