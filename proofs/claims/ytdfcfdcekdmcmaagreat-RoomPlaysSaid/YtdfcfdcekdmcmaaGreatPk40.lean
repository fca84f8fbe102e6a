/-
  The document's world of layer 14: TryNew by contract, where nobody holds back. Conditions: as each theorem names them.
-/
import Derived.Test.YtdfcfdcekdmcmaaGreatPk39
set_option linter.unusedVariables false
set_option linter.unusedSimpArgs false
namespace Go.Proofs.YtdfcfdcekdmcmaaGreat
open Go.RowKit
set_option linter.unusedVariables false
set_option linter.unusedSimpArgs false
section
variable {R R' : Rest} {W0 W w : World} {a : Nat} {cs : List Int} {st : Int} {d : Dw} {i p q : Nat} {x : Dr}
set_option maxHeartbeats 1000000 in
set_option maxRecDepth 100000 in
theorem dtrynew_none (h : Dm R W0 W a cs st d) (z n : Int) (hz : z < 0 ∨ (d.L.length : Int) ≤ z) (hl8 : d.L.length ≤ 8) :
    Calls Tryz.prog 110 #[.pointer (some ⟨d.wb, 0, none⟩), .int .i64 z, .int .i64 n] W fun e w' => e = .returned (.tuple #[.agg (t14 0 0 0 0 0 0 (.slice none 0 0)), .int .i64 3]) ∧ Dm R W0 w' a cs st d ∧ Below W.heap.size W w' := by
  obtain ⟨p, cap, hv, -⟩ := row_form h.rings
  have HV := Lib.hid hv
  have HI := Lib.hid (t14_info 0 0 0 0 0 0 (.slice none 0 0))
  have HO := Lib.hid (t14_one 0 0 0 0 0 0)
  have HBX := Lib.hid (balloc (Below.refl W.heap.size W) (.cells #[.int .i64 0, .int .i64 0, .int .i64 0, .int .i64 0, .int .i64 0, .int .i64 0, .slice none 0 0] 193))
  have HD := Lib.hid (h.boxNew #[.int .i64 0, .int .i64 0, .int .i64 0, .int .i64 0, .int .i64 0, .int .i64 0, .slice none 0 0] 193)
  clear h
  by_cases hn : z < 0
  · have e1 : decide (z < 0) = true := decide_eq_true hn
    go_enter Tryz.func110, Tryz.ntmps110
    go_upto_region 1 with fail
    generalize hX : World.alloc W (.cells _ 193) = X at *
    clear hX
    generalize hbz : W.heap.size = bz at *
    go_upto_region 2 with fail
    have HZ := Lib.hid HD.out.boxIs
    go_wp2_with (first
      | (refine wpList_store_row rfl 193 (.tmp 6) (.tmp 21) rfl bz (t14 0 0 0 0 0 0 (.slice none 0 0)) rfl rfl 193 _ HZ.out HI.out rfl HO.out ?_))
    exact bodyPost_ret (results_row_tmp (p := 6) (u := 7) (by kernel_rfl) _ _ bz 193 (t14 0 0 0 0 0 0 (.slice none 0 0)) (0, 0) _ rfl (setRow_heap _ _ _ _ _ _ HZ.out) Tryz.underlying193 rfl HI.out) rfl ⟨rfl, (HD.out.boxRow _).boxDrop, by subst hbz; exact bsetRow HBX.out (Nat.le_refl _) _⟩
  · have e1 : decide (z < 0) = false := decide_eq_false hn
    have e2 : decide ((d.L.length : Int) ≤ z) = true := decide_eq_true (by omega)
    go_enter Tryz.func110, Tryz.ntmps110
    go_upto_region 1 with fail
    generalize hX : World.alloc W (.cells _ 193) = X at *
    clear hX
    generalize hbz : W.heap.size = bz at *
    have k4 : X.cell? ⟨d.wb, 4, none⟩ = some (.slice p d.L.length cap) := (obj_cell HD.out.box 4).trans (by simp [Dw.cells, HV.out])
    generalize d.L.length = len at *
    go_upto_region 2 with fail
    have HZ := Lib.hid HD.out.boxIs
    go_wp2_with (first
      | (refine wpList_store_row rfl 193 (.tmp 6) (.tmp 21) rfl bz (t14 0 0 0 0 0 0 (.slice none 0 0)) rfl rfl 193 _ HZ.out HI.out rfl HO.out ?_))
    exact bodyPost_ret (results_row_tmp (p := 6) (u := 7) (by kernel_rfl) _ _ bz 193 (t14 0 0 0 0 0 0 (.slice none 0 0)) (0, 0) _ rfl (setRow_heap _ _ _ _ _ _ HZ.out) Tryz.underlying193 rfl HI.out) rfl ⟨rfl, (HD.out.boxRow _).boxDrop, by subst hbz; exact bsetRow HBX.out (Nat.le_refl _) _⟩
set_option maxHeartbeats 1000000 in
set_option maxRecDepth 100000 in
theorem dtrynew_arg (h : Dm R W0 W a cs st d) (hx : d.L[i]? = some x) (hl8 : d.L.length ≤ 8) (n : Int) (hn : n < 1 ∨ two x.k < n) :
    Calls Tryz.prog 110 #[.pointer (some ⟨d.wb, 0, none⟩), .int .i64 i, .int .i64 n] W fun e w' => e = .returned (.tuple #[.agg (t14 0 0 0 0 0 0 (.slice none 0 0)), .int .i64 1]) ∧ Dm R W0 w' a cs st d ∧ Below W.heap.size W w' := by
  obtain ⟨rb, cap, hv, -⟩ := h.rd hx
  have hil : i < d.L.length := (List.getElem?_eq_some_iff.1 hx).1
  have HX := Lib.hid hx
  have HV := Lib.hid hv
  have b0 : (0 : Int) ≤ (i : Int) := by omega
  have b1 : (i : Int) < (d.L.length : Int) := by omega
  have e0 : decide ((i : Int) < 0) = false := decide_eq_false (by omega)
  have e00 : decide ((d.L.length : Int) ≤ (i : Int)) = false := decide_eq_false (by omega)
  have HI := Lib.hid (t14_info 0 0 0 0 0 0 (.slice none 0 0))
  have HO := Lib.hid (t14_one 0 0 0 0 0 0)
  have HBX := Lib.hid (balloc (Below.refl W.heap.size W) (.cells #[.int .i64 0, .int .i64 0, .int .i64 0, .int .i64 0, .int .i64 0, .int .i64 0, .slice none 0 0] 193))
  have HD := Lib.hid (h.boxNew #[.int .i64 0, .int .i64 0, .int .i64 0, .int .i64 0, .int .i64 0, .int .i64 0, .slice none 0 0] 193)
  clear h
  clear hx hv
  by_cases hn1 : n < 1
  · have e1 : decide (n < 1) = true := decide_eq_true hn1
    go_enter Tryz.func110, Tryz.ntmps110
    go_upto_region 1 with fail
    generalize hX : World.alloc W (.cells _ 193) = X at *
    clear hX
    generalize hbz : W.heap.size = bz at *
    obtain ⟨k4, r0, r1, r2, r3, r4, r7, r8, rf⟩ := HD.out.rd' HX.out HV.out
    go_upto_region 5 with fail
    have HZ := Lib.hid HD.out.boxIs
    go_wp2_with (first
      | (refine wpList_store_row rfl 193 (.tmp 6) (.tmp 38) rfl bz (t14 0 0 0 0 0 0 (.slice none 0 0)) rfl rfl 193 _ HZ.out HI.out rfl HO.out ?_))
    exact bodyPost_ret (results_row_tmp (p := 6) (u := 7) (by kernel_rfl) _ _ bz 193 (t14 0 0 0 0 0 0 (.slice none 0 0)) (0, 0) _ rfl (setRow_heap _ _ _ _ _ _ HZ.out) Tryz.underlying193 rfl HI.out) rfl ⟨rfl, (HD.out.boxRow _).boxDrop, by subst hbz; exact bsetRow HBX.out (Nat.le_refl _) _⟩
  · have e1 : decide (n < 1) = false := decide_eq_false hn1
    have e2 : decide (two x.k < n) = true := decide_eq_true (by omega)
    go_enter Tryz.func110, Tryz.ntmps110
    go_upto_region 1 with fail
    generalize hX : World.alloc W (.cells _ 193) = X at *
    clear hX
    generalize hbz : W.heap.size = bz at *
    obtain ⟨k4, r0, r1, r2, r3, r4, r7, r8, rf⟩ := HD.out.rd' HX.out HV.out
    go_upto_region 5 with fail
    have HZ := Lib.hid HD.out.boxIs
    go_wp2_with (first
      | (refine wpList_store_row rfl 193 (.tmp 6) (.tmp 38) rfl bz (t14 0 0 0 0 0 0 (.slice none 0 0)) rfl rfl 193 _ HZ.out HI.out rfl HO.out ?_))
    exact bodyPost_ret (results_row_tmp (p := 6) (u := 7) (by kernel_rfl) _ _ bz 193 (t14 0 0 0 0 0 0 (.slice none 0 0)) (0, 0) _ rfl (setRow_heap _ _ _ _ _ _ HZ.out) Tryz.underlying193 rfl HI.out) rfl ⟨rfl, (HD.out.boxRow _).boxDrop, by subst hbz; exact bsetRow HBX.out (Nat.le_refl _) _⟩
set_option maxHeartbeats 8000000 in
set_option maxRecDepth 100000 in
theorem dtrynew_many (h : Dm R W0 W a cs st d) (hx : d.L[i]? = some x) (hl8 : d.L.length ≤ 8) (hk : x.k ≤ 20) (hm : x.many = true) (n : Int) (hn1 : 1 ≤ n) (hn2 : n ≤ two x.k) :
    Calls Tryz.prog 110 #[.pointer (some ⟨d.wb, 0, none⟩), .int .i64 i, .int .i64 n] W fun e w' => e = .returned (.tuple #[.agg (t14 i n 0 0 0 0 (.slice none 0 0)), .int .i64 0]) ∧ Dm R W0 w' a cs st d := by
  obtain ⟨rb, cap, hv, -⟩ := h.rd hx
  have hil : i < d.L.length := (List.getElem?_eq_some_iff.1 hx).1
  have HX := Lib.hid hx
  have HV := Lib.hid hv
  have HM := Lib.hid hm
  have hp2 : two x.k ≤ 1048576 := two_le hk
  have b0 : (0 : Int) ≤ (i : Int) := by omega
  have b1 : (i : Int) < (d.L.length : Int) := by omega
  have e0 : decide ((i : Int) < 0) = false := decide_eq_false (by omega)
  have e00 : decide ((d.L.length : Int) ≤ (i : Int)) = false := decide_eq_false (by omega)
  have e1 : decide (n < 1) = false := decide_eq_false (by omega)
  have e2 : decide (two x.k < n) = false := decide_eq_false (by omega)
  have HI := Lib.hid (t14_info  i n 0 0 0 0 (.slice none 0 0))
  have HO := Lib.hid (t14_one  i n 0 0 0 0)
  have HD := Lib.hid (h.boxNew #[.int .i64 0, .int .i64 0, .int .i64 0, .int .i64 0, .int .i64 0, .int .i64 0, .slice none 0 0] 193)
  clear h hx hv hm
  go_enter Tryz.func110, Tryz.ntmps110
  go_upto_region 1 with fail
  generalize hX : World.alloc W (.cells _ 193) = X at *
  have hX' := hX
  clear hX
  have hsz : X.heap.size = W.heap.size + 1 := by rw [← hX']; simp
  generalize hbz : W.heap.size = bz at *
  obtain ⟨k4, r0, r1, r2, r3, r4, r7, r8, rf⟩ := HD.out.rd' HX.out HV.out
  rw [HM.out] at r1
  clear r3 r7 r8 rf
  have HD1 := Lib.hid (HD.out.boxNew #[.int .i64 i, .int .i64 n, .int .i64 0, .int .i64 0, .int .i64 0, .int .i64 0, .slice none 0 0] 193)
  rw [hsz] at HD1
  go_upto_region 7 with fail
  generalize hX1 : World.alloc X (.cells _ 193) = X1 at *
  clear hX1 HD k4 r0 r1 r2 r4
  have HD2 : Hid (Dm ((R.box W0.heap.size bz #[.int .i64 0, .int .i64 0, .int .i64 0, .int .i64 0, .int .i64 0, .int .i64 0, .slice none 0 0] 193).box W0.heap.size (bz + 1) (t14 i n 0 0 0 0 (.slice none 0 0)) 193) W0 X1 a cs st d) := HD1
  clear HD1
  obtain ⟨k4, r0, r1, r2, r3, r4, r7, r8, rf⟩ := HD2.out.rd' HX.out HV.out
  rw [HM.out] at r1
  go_upto_region 8 with fail
  have HT := Lib.hid HD2.out.boxIs
  have HZ := Lib.hid HD2.out.swap.boxIs
  go_wp2_with (first
    | (refine wpList_load_row rfl 193 (.tmp 9) rfl (bz + 1) rfl 193 (t14 i n 0 0 0 0 (.slice none 0 0)) (0, 0) _ HT.out Tryz.underlying193 rfl HI.out ?_)
    | (refine wpList_store_row rfl 193 (.tmp 6) (.tmp 46) rfl bz (t14 i n 0 0 0 0 (.slice none 0 0)) rfl rfl 193 _ HZ.out HI.out rfl HO.out ?_))
  exact bodyPost_ret (results_row_tmp (p := 6) (u := 7) (by kernel_rfl) _ _ bz 193 (t14 i n 0 0 0 0 (.slice none 0 0)) (0, 0) _ rfl (setRow_heap _ _ _ _ _ _ HZ.out) Tryz.underlying193 rfl HI.out) rfl ⟨rfl, (HD2.out.swap.boxRow _).boxDrop.boxDrop⟩
set_option maxHeartbeats 8000000 in
set_option maxRecDepth 100000 in
theorem dtrynew_got (h : Dm R W0 W a cs st d) (hx : d.L[i]? = some x) (hl8 : d.L.length ≤ 8) (hk : x.k ≤ 20) (hm : x.many = false) (n : Int) (hn1 : 1 ≤ n) (hn2 : n ≤ two x.k) (hc : -1 ≤ x.c) (hc2 : x.c ≤ 2305843009213693952) (hs1 : -1 ≤ x.sn) (he : x.c + n - two x.k ≤ x.sn ∧ x.sn ≤ x.c) :
    Calls Tryz.prog 110 #[.pointer (some ⟨d.wb, 0, none⟩), .int .i64 i, .int .i64 n] W fun e w' => e = .returned (.tuple #[.agg (t14 i n 5 x.c (x.c + n) 0 (.slice none 0 0)), .int .i64 0]) ∧ Dm R W0 w' a cs st { d with L := d.L.set i { x with c := x.c + n } } := by
  obtain ⟨rb, cap, hv, -⟩ := h.rd hx
  have hil : i < d.L.length := (List.getElem?_eq_some_iff.1 hx).1
  have HX := Lib.hid hx
  have HV := Lib.hid hv
  have HM := Lib.hid hm
  have hp2 : two x.k ≤ 1048576 := two_le hk
  have b0 : (0 : Int) ≤ (i : Int) := by omega
  have b1 : (i : Int) < (d.L.length : Int) := by omega
  have e0 : decide ((i : Int) < 0) = false := decide_eq_false (by omega)
  have e00 : decide ((d.L.length : Int) ≤ (i : Int)) = false := decide_eq_false (by omega)
  have e1 : decide (n < 1) = false := decide_eq_false (by omega)
  have e2 : decide (two x.k < n) = false := decide_eq_false (by omega)
  have HI := Lib.hid (t14_info  i n 5 x.c (x.c + n) 0 (.slice none 0 0))
  have HO := Lib.hid (t14_one  i n 5 x.c (x.c + n) 0)
  have HD := Lib.hid (h.boxNew #[.int .i64 0, .int .i64 0, .int .i64 0, .int .i64 0, .int .i64 0, .int .i64 0, .slice none 0 0] 193)
  have e3 : decide (4611686018427387904 - n < x.c) = false := decide_eq_false (by omega)
  clear h hx hv hm
  go_enter Tryz.func110, Tryz.ntmps110
  go_upto_region 1 with fail
  generalize hX : World.alloc W (.cells _ 193) = X at *
  have hX' := hX
  clear hX
  have hsz : X.heap.size = W.heap.size + 1 := by rw [← hX']; simp
  generalize hbz : W.heap.size = bz at *
  obtain ⟨k4, r0, r1, r2, r3, r4, r7, r8, rf⟩ := HD.out.rd' HX.out HV.out
  rw [HM.out] at r1
  clear r3 r7 r8 rf
  have HD1 := Lib.hid (HD.out.boxNew #[.int .i64 i, .int .i64 n, .int .i64 0, .int .i64 0, .int .i64 0, .int .i64 0, .slice none 0 0] 193)
  rw [hsz] at HD1
  go_upto_region 7 with fail
  generalize hX1 : World.alloc X (.cells _ 193) = X1 at *
  clear hX1 HD k4 r0 r1 r2 r4
  have HD2 : Hid (Dm ((R.box W0.heap.size bz #[.int .i64 0, .int .i64 0, .int .i64 0, .int .i64 0, .int .i64 0, .int .i64 0, .slice none 0 0] 193).box W0.heap.size (bz + 1) (t14 i n 0 0 0 0 (.slice none 0 0)) 193) W0 X1 a cs st d) := HD1
  clear HD1
  obtain ⟨k4, r0, r1, r2, r3, r4, r7, r8, rf⟩ := HD2.out.rd' HX.out HV.out
  rw [HM.out] at r1
  obtain ⟨c0, c1, c2, c3, c4, c5, c6, cf⟩ := tc7 HD2.out.boxIs
  have f3 := cf 3
  have f4 := cf 4
  go_upto_region 13 with fail
  have HD3 := Lib.hid ((HD2.out.boxSet 3 (.int .i64 x.c)).boxSet 4 (.int .i64 (x.c + n)))
  rw [show ((t14 i n 0 0 0 0 (.slice none 0 0)).setIfInBounds 3 (.int .i64 x.c)).setIfInBounds 4 (.int .i64 (x.c + n)) = t14 i n 0 x.c (x.c + n) 0 (.slice none 0 0) from rfl] at HD3
  generalize World.setCell (World.setCell X1 _ _) _ _ = X2 at *
  clear c0 c1 c2 c3 c4 c5 c6 cf f3 f4 k4 r0 r1 r2 r3 r4 r7 r8 rf HD2
  obtain ⟨c0, c1, c2, c3, c4, c5, c6, cf⟩ := tc7 HD3.out.boxIs
  obtain ⟨k4, r0, r1, r2, r3, r4, r7, r8, rf⟩ := HD3.out.rd' HX.out HV.out
  clear c0 c1 c2 c3 c5 c6 cf k4 r1 r3 r7 r8 rf
  have g1 : decide (x.c + n - two x.k ≤ x.sn) = true := decide_eq_true (by omega)
  have g2 : decide (x.sn ≤ x.c) = true := decide_eq_true (by omega)
  go_quiet (fail)
  go_upto_region 14 with fail
  generalize hX3 : World.drewN X2 _ = X3
  have HD4 := Lib.hid (HD3.out.keep (hX3 ▸ bdrewN X2 _))
  clear hX3 c4 r0 r2 r4 HD3 g1 g2
  have c4 := (tc7 HD4.out.boxIs).c4
  obtain ⟨-, -, -, r2, -, -, -, -, rf⟩ := HD4.out.rd' HX.out HV.out
  have f2 := rf (i * 9 + 2)
  go_upto_region 15 with fail
  have HD5 := Lib.hid (HD4.out.set (u := .int .i64 (x.c + n)) (j := 2) (y := { x with c := x.c + n }) HX.out HV.out (by decide) rfl rfl)
  generalize World.setCell X3 _ _ = X4 at *
  clear c4 r2 rf f2 HD4
  have f2 := (tc7 HD5.out.boxIs).f 2
  have c2 := (tc7 HD5.out.boxIs).c2
  go_upto_region 16 with fail
  have HD6 := Lib.hid (HD5.out.boxSet 2 (.int .i64 5))
  rw [show (t14 i n 0 x.c (x.c + n) 0 (.slice none 0 0)).setIfInBounds 2 (.int .i64 5) = t14 i n 5 x.c (x.c + n) 0 (.slice none 0 0) from rfl] at HD6
  generalize World.setCell X4 _ _ = X5 at *
  clear f2 c2 HD5
  go_upto_region 16 with fail
  have HT := Lib.hid HD6.out.boxIs
  have HZ := Lib.hid HD6.out.swap.boxIs
  go_wp2_with (first
    | (refine wpList_load_row rfl 193 (.tmp 9) rfl (bz + 1) rfl 193 (t14 i n 5 x.c (x.c + n) 0 (.slice none 0 0)) (0, 0) _ HT.out Tryz.underlying193 rfl HI.out ?_)
    | (refine wpList_store_row rfl 193 (.tmp 6) (.tmp 96) rfl bz (t14 i n 5 x.c (x.c + n) 0 (.slice none 0 0)) rfl rfl 193 _ HZ.out HI.out rfl HO.out ?_))
  exact bodyPost_ret (results_row_tmp (p := 6) (u := 7) (by kernel_rfl) _ _ bz 193 (t14 i n 5 x.c (x.c + n) 0 (.slice none 0 0)) (0, 0) _ rfl (setRow_heap _ _ _ _ _ _ HZ.out) Tryz.underlying193 rfl HI.out) rfl ⟨rfl, (HD6.out.swap.boxRow _).boxDrop.boxDrop⟩
set_option maxHeartbeats 8000000 in
set_option maxRecDepth 100000 in
theorem dtrynew_short (h : Dm R W0 W a cs st d) (hx : d.L[i]? = some x) (hl8 : d.L.length ≤ 8) (hk : x.k ≤ 20) (hm : x.many = false) (n : Int) (hn1 : 1 ≤ n) (hn2 : n ≤ two x.k) (hc : -1 ≤ x.c) (hc2 : x.c ≤ 2305843009213693952) (hs1 : -1 ≤ x.sn) (he : ¬ (x.c + n - two x.k ≤ x.sn ∧ x.sn ≤ x.c)) :
    Calls Tryz.prog 110 #[.pointer (some ⟨d.wb, 0, none⟩), .int .i64 i, .int .i64 n] W fun e w' => e = .returned (.tuple #[.agg (t14 i n 0 x.c (x.c + n) 0 (.slice none 0 0)), .int .i64 0]) ∧ Dm R W0 w' a cs st d := by
  obtain ⟨rb, cap, hv, -⟩ := h.rd hx
  have hil : i < d.L.length := (List.getElem?_eq_some_iff.1 hx).1
  have HX := Lib.hid hx
  have HV := Lib.hid hv
  have HM := Lib.hid hm
  have hp2 : two x.k ≤ 1048576 := two_le hk
  have b0 : (0 : Int) ≤ (i : Int) := by omega
  have b1 : (i : Int) < (d.L.length : Int) := by omega
  have e0 : decide ((i : Int) < 0) = false := decide_eq_false (by omega)
  have e00 : decide ((d.L.length : Int) ≤ (i : Int)) = false := decide_eq_false (by omega)
  have e1 : decide (n < 1) = false := decide_eq_false (by omega)
  have e2 : decide (two x.k < n) = false := decide_eq_false (by omega)
  have HI := Lib.hid (t14_info  i n 0 x.c (x.c + n) 0 (.slice none 0 0))
  have HO := Lib.hid (t14_one  i n 0 x.c (x.c + n) 0)
  have HD := Lib.hid (h.boxNew #[.int .i64 0, .int .i64 0, .int .i64 0, .int .i64 0, .int .i64 0, .int .i64 0, .slice none 0 0] 193)
  have e3 : decide (4611686018427387904 - n < x.c) = false := decide_eq_false (by omega)
  clear h hx hv hm
  go_enter Tryz.func110, Tryz.ntmps110
  go_upto_region 1 with fail
  generalize hX : World.alloc W (.cells _ 193) = X at *
  have hX' := hX
  clear hX
  have hsz : X.heap.size = W.heap.size + 1 := by rw [← hX']; simp
  generalize hbz : W.heap.size = bz at *
  obtain ⟨k4, r0, r1, r2, r3, r4, r7, r8, rf⟩ := HD.out.rd' HX.out HV.out
  rw [HM.out] at r1
  clear r3 r7 r8 rf
  have HD1 := Lib.hid (HD.out.boxNew #[.int .i64 i, .int .i64 n, .int .i64 0, .int .i64 0, .int .i64 0, .int .i64 0, .slice none 0 0] 193)
  rw [hsz] at HD1
  go_upto_region 7 with fail
  generalize hX1 : World.alloc X (.cells _ 193) = X1 at *
  clear hX1 HD k4 r0 r1 r2 r4
  have HD2 : Hid (Dm ((R.box W0.heap.size bz #[.int .i64 0, .int .i64 0, .int .i64 0, .int .i64 0, .int .i64 0, .int .i64 0, .slice none 0 0] 193).box W0.heap.size (bz + 1) (t14 i n 0 0 0 0 (.slice none 0 0)) 193) W0 X1 a cs st d) := HD1
  clear HD1
  obtain ⟨k4, r0, r1, r2, r3, r4, r7, r8, rf⟩ := HD2.out.rd' HX.out HV.out
  rw [HM.out] at r1
  obtain ⟨c0, c1, c2, c3, c4, c5, c6, cf⟩ := tc7 HD2.out.boxIs
  have f3 := cf 3
  have f4 := cf 4
  go_upto_region 13 with fail
  have HD3 := Lib.hid ((HD2.out.boxSet 3 (.int .i64 x.c)).boxSet 4 (.int .i64 (x.c + n)))
  rw [show ((t14 i n 0 0 0 0 (.slice none 0 0)).setIfInBounds 3 (.int .i64 x.c)).setIfInBounds 4 (.int .i64 (x.c + n)) = t14 i n 0 x.c (x.c + n) 0 (.slice none 0 0) from rfl] at HD3
  generalize World.setCell (World.setCell X1 _ _) _ _ = X2 at *
  clear c0 c1 c2 c3 c4 c5 c6 cf f3 f4 k4 r0 r1 r2 r3 r4 r7 r8 rf HD2
  obtain ⟨c0, c1, c2, c3, c4, c5, c6, cf⟩ := tc7 HD3.out.boxIs
  obtain ⟨k4, r0, r1, r2, r3, r4, r7, r8, rf⟩ := HD3.out.rd' HX.out HV.out
  clear c0 c1 c2 c3 c5 c6 cf k4 r1 r3 r7 r8 rf
  by_cases hA : x.c + n - two x.k ≤ x.sn
  · have g1 : decide (x.c + n - two x.k ≤ x.sn) = true := decide_eq_true (by omega)
    have g2 : decide (x.sn ≤ x.c) = false := decide_eq_false (by omega)
    go_quiet (fail)
    go_upto_region 16 with fail
    generalize hX3 : World.drewN X2 _ = X3
    have HD4 := Lib.hid (HD3.out.keep (hX3 ▸ bdrewN X2 _))
    clear hX3 c4 r0 r2 r4 HD3
    go_upto_region 16 with fail
    have HT := Lib.hid HD4.out.boxIs
    have HZ := Lib.hid HD4.out.swap.boxIs
    go_wp2_with (first
      | (refine wpList_load_row rfl 193 (.tmp 9) rfl (bz + 1) rfl 193 (t14 i n 0 x.c (x.c + n) 0 (.slice none 0 0)) (0, 0) _ HT.out Tryz.underlying193 rfl HI.out ?_)
      | (refine wpList_store_row rfl 193 (.tmp 6) (.tmp 96) rfl bz (t14 i n 0 x.c (x.c + n) 0 (.slice none 0 0)) rfl rfl 193 _ HZ.out HI.out rfl HO.out ?_))
    exact bodyPost_ret (results_row_tmp (p := 6) (u := 7) (by kernel_rfl) _ _ bz 193 (t14 i n 0 x.c (x.c + n) 0 (.slice none 0 0)) (0, 0) _ rfl (setRow_heap _ _ _ _ _ _ HZ.out) Tryz.underlying193 rfl HI.out) rfl ⟨rfl, (HD4.out.swap.boxRow _).boxDrop.boxDrop⟩
  · have g1 : decide (x.c + n - two x.k ≤ x.sn) = false := decide_eq_false (by omega)
    go_quiet (fail)
    go_upto_region 16 with fail
    generalize hX3 : World.drewN X2 _ = X3
    have HD4 := Lib.hid (HD3.out.keep (hX3 ▸ bdrewN X2 _))
    clear hX3 c4 r0 r2 r4 HD3
    go_upto_region 16 with fail
    have HT := Lib.hid HD4.out.boxIs
    have HZ := Lib.hid HD4.out.swap.boxIs
    go_wp2_with (first
      | (refine wpList_load_row rfl 193 (.tmp 9) rfl (bz + 1) rfl 193 (t14 i n 0 x.c (x.c + n) 0 (.slice none 0 0)) (0, 0) _ HT.out Tryz.underlying193 rfl HI.out ?_)
      | (refine wpList_store_row rfl 193 (.tmp 6) (.tmp 96) rfl bz (t14 i n 0 x.c (x.c + n) 0 (.slice none 0 0)) rfl rfl 193 _ HZ.out HI.out rfl HO.out ?_))
    exact bodyPost_ret (results_row_tmp (p := 6) (u := 7) (by kernel_rfl) _ _ bz 193 (t14 i n 0 x.c (x.c + n) 0 (.slice none 0 0)) (0, 0) _ rfl (setRow_heap _ _ _ _ _ _ HZ.out) Tryz.underlying193 rfl HI.out) rfl ⟨rfl, (HD4.out.swap.boxRow _).boxDrop.boxDrop⟩
end
end Go.Proofs.YtdfcfdcekdmcmaaGreat
