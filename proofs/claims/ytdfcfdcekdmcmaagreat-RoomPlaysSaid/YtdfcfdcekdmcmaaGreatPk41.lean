/-
  The document's world of layer 14: TryStep by contract, where nobody holds back. Conditions: as each theorem names them.
-/
import Derived.Test.YtdfcfdcekdmcmaaGreatPk40
set_option linter.unusedVariables false
set_option linter.unusedSimpArgs false
namespace Go.Proofs.YtdfcfdcekdmcmaaGreat
open Go.RowKit
set_option linter.unusedVariables false
set_option linter.unusedSimpArgs false
section
variable {R R' : Rest} {W0 W w : World} {a : Nat} {cs : List Int} {st : Int} {d : Dw} {i p q : Nat} {x : Dr}
set_option maxHeartbeats 8000000 in
set_option maxRecDepth 100000 in
theorem dstep_0m (h : Dm R W0 W a cs st d) (hx : d.L[i]? = some x) (hl8 : d.L.length ≤ 8) (hk : x.k ≤ 20) (hm : x.many = true) (n c0 h0 l : Int) (hn1 : 1 ≤ n) (hn2 : n ≤ two x.k) (hc : -1 ≤ x.c) (hc2 : x.c ≤ 2305843009213693952) :
    Calls Tryz.prog 111 #[.pointer (some ⟨d.wb, 0, none⟩), .agg (t14 i n 0 c0 h0 l (.slice none 0 0))] W fun e w' => e = .returned (.tuple #[.agg (t14 i n 1 x.c (x.c + n) l (.slice none 0 0)), .int .i64 0]) ∧ Dm R W0 w' a cs st d := by
  obtain ⟨rb, cap, hv, -⟩ := h.rd hx
  have hil : i < d.L.length := (List.getElem?_eq_some_iff.1 hx).1
  have HX := Lib.hid hx
  have HV := Lib.hid hv
  have HM := Lib.hid hm
  have hp2 : two x.k ≤ 1048576 := two_le hk
  have hp0 := two_pos x.k
  have b0 : (0 : Int) ≤ (i : Int) := by omega
  have b1 : (i : Int) < (d.L.length : Int) := by omega
  have HI := Lib.hid (t14_info i n 1 x.c (x.c + n) l (.slice none 0 0))
  have HIV := Lib.hid (t14_info i n 0 c0 h0 l (.slice none 0 0))
  have HO := Lib.hid (t14_one i n 1 x.c (x.c + n) l)
  have e3 : decide (4611686018427387904 - n < x.c) = false := decide_eq_false (by omega)
  have HD0 := Lib.hid (h.two (t14 i n 0 c0 h0 l (.slice none 0 0)) #[.int .i64 0, .int .i64 0, .int .i64 0, .int .i64 0, .int .i64 0, .int .i64 0, .slice none 0 0] 193 193)
  clear h hx hv hm
  go_enter Tryz.func111, Tryz.ntmps111
  go_upto_region 1 with fail
  generalize hX : World.alloc (World.alloc W (.cells _ 193)) (.cells _ 193) = X0 at *
  clear hX
  generalize hbz : W.heap.size = bz at *
  obtain ⟨k4, -, -, -, -, -, -, -, -⟩ := HD0.out.rd' HX.out HV.out
  obtain ⟨c0, -, c2, -, -, -, -, -⟩ := tc7 HD0.out.boxIs
  go_upto_region 3 with fail
  go_quiet (fail)
  go_upto_region 4 with fail
  generalize hX1 : World.drewN X0 _ = X
  have HD := Lib.hid (HD0.out.keep (hX1 ▸ bdrewN X0 _))
  clear hX1 k4 c0 c2 HD0
  obtain ⟨k4, r0, r1, r2, r3, r4, r7, r8, rf⟩ := HD.out.rd' HX.out HV.out
  obtain ⟨p0, p1, p2, p3, p4, p5, p6, pf⟩ := tc7 HD.out.boxIs
  rw [HM.out] at r1
  clear r7 r8 rf p6 pf
  go_upto_region 7 with fail
  go_quiet (fail)
  go_upto_region 9 with fail
  generalize hX1 : World.drewN X _ = X1
  have HD1 := Lib.hid (HD.out.keep (hX1 ▸ bdrewN X _))
  clear hX1
  clear k4 r0 r1 r2 r3 r4 p0 p1 p2 p3 p4 p5 HD e3
  obtain ⟨p0, p1, p2, p3, p4, p5, p6, pf⟩ := tc7 HD1.out.boxIs
  obtain ⟨-, -, -, r2, -, -, -, -, -⟩ := HD1.out.rd' HX.out HV.out
  have f3 := pf 3
  have f4 := pf 4
  have f2 := pf 2
  clear pf p0 p6
  go_upto_region 10 with fail
  have HD2 := Lib.hid (HD1.out.boxSet 3 (.int .i64 x.c))
  rw [show (t14 i n 0 c0 h0 l (.slice none 0 0)).setIfInBounds 3 (.int .i64 x.c) = t14 i n 0 x.c h0 l (.slice none 0 0) from rfl] at HD2
  generalize World.setCell X1 _ _ = X2 at *
  clear p1 p2 p3 p4 p5 r2 f2 f3 f4 HD1
  obtain ⟨p0, p1, p2, p3, p4, p5, p6, pf⟩ := tc7 HD2.out.boxIs
  have f4 := pf 4
  have f2 := pf 2
  clear pf p0 p6
  go_upto_region 12 with fail
  have HD3 := Lib.hid ((HD2.out.boxSet 4 (.int .i64 (x.c + n))).boxSet 2 (.int .i64 1))
  rw [show ((t14 i n 0 x.c h0 l (.slice none 0 0)).setIfInBounds 4 (.int .i64 (x.c + n))).setIfInBounds 2 (.int .i64 1) = t14 i n 1 x.c (x.c + n) l (.slice none 0 0) from rfl] at HD3
  generalize World.setCell (World.setCell X2 _ _) _ _ = X3 at *
  clear p1 p2 p3 p4 p5 f2 f4 HD2
  go_upto_region 12 with fail
  have HT := Lib.hid HD3.out.boxIs
  have HZ := Lib.hid HD3.out.swap.boxIs
  go_wp2_with (first
    | (refine wpList_load_row rfl 193 (.tmp 3) rfl bz rfl 193 (t14 i n 1 x.c (x.c + n) l (.slice none 0 0)) (0, 0) _ HT.out Tryz.underlying193 rfl HI.out ?_)
    | (refine wpList_store_row rfl 193 (.tmp 4) (.tmp 59) rfl (bz + 1) (t14 i n 1 x.c (x.c + n) l (.slice none 0 0)) rfl rfl 193 _ HZ.out HI.out rfl HO.out ?_))
  exact bodyPost_ret (results_row_tmp (p := 4) (u := 5) (by kernel_rfl) _ _ (bz + 1) 193 (t14 i n 1 x.c (x.c + n) l (.slice none 0 0)) (0, 0) _ rfl (setRow_heap _ _ _ _ _ _ HZ.out) Tryz.underlying193 rfl HI.out) rfl ⟨rfl, (HD3.out.swap.boxRow _).boxDrop.boxDrop⟩
set_option maxHeartbeats 8000000 in
set_option maxRecDepth 100000 in
theorem dstep_1n (h : Dm R W0 W a cs st d) (hx : d.L[i]? = some x) (hl8 : d.L.length ≤ 8) (hk : x.k ≤ 20) (hm : x.many = true) (n c hi l : Int) (h1 : -1 ≤ hi) (h2 : hi ≤ 4611686018427387904) (h3 : ¬ c < hi - two x.k) (he : ¬ (hi - two x.k ≤ x.sn ∧ x.sn ≤ c)) :
    Calls Tryz.prog 111 #[.pointer (some ⟨d.wb, 0, none⟩), .agg (t14 i n 1 c hi l (.slice none 0 0))] W fun e w' => e = .returned (.tuple #[.agg (t14 i n 3 c hi c (.slice none 0 0)), .int .i64 0]) ∧ Dm R W0 w' a cs st d := by
  obtain ⟨rb, cap, hv, -⟩ := h.rd hx
  have hil : i < d.L.length := (List.getElem?_eq_some_iff.1 hx).1
  have HX := Lib.hid hx
  have HV := Lib.hid hv
  have HM := Lib.hid hm
  have hp2 : two x.k ≤ 1048576 := two_le hk
  have hp0 := two_pos x.k
  have b0 : (0 : Int) ≤ (i : Int) := by omega
  have b1 : (i : Int) < (d.L.length : Int) := by omega
  have HI := Lib.hid (t14_info i n 3 c hi c (.slice none 0 0))
  have HIV := Lib.hid (t14_info i n 1 c hi l (.slice none 0 0))
  have HO := Lib.hid (t14_one i n 3 c hi c)
  have HJ : Hid (∀ (R' : Rest) (w : World), Dm R' W0 w a cs st d → Calls Tryz.prog 142 #[.pointer (some ⟨d.wb, 0, none⟩), .agg (t14 i n 1 c hi l (.slice none 0 0)), .int .i64 c] w fun e w' => e = .returned (.agg (t14 i n 3 c hi c (.slice none 0 0))) ∧ Dm R' W0 w' a cs st d) := Lib.hid fun R' w hd => dscan_many hd hx hl8 hk hm n 1 c hi l c h1 h2 h3
  have HD0 := Lib.hid (h.two (t14 i n 1 c hi l (.slice none 0 0)) #[.int .i64 0, .int .i64 0, .int .i64 0, .int .i64 0, .int .i64 0, .int .i64 0, .slice none 0 0] 193 193)
  clear h hx hv hm
  go_enter Tryz.func111, Tryz.ntmps111
  go_upto_region 1 with fail
  generalize hX : World.alloc (World.alloc W (.cells _ 193)) (.cells _ 193) = X0 at *
  clear hX
  generalize hbz : W.heap.size = bz at *
  obtain ⟨k4, -, -, -, -, -, -, -, -⟩ := HD0.out.rd' HX.out HV.out
  obtain ⟨c0, -, c2, -, -, -, -, -⟩ := tc7 HD0.out.boxIs
  go_upto_region 3 with fail
  go_quiet (fail)
  go_upto_region 4 with fail
  generalize hX1 : World.drewN X0 _ = X
  have HD := Lib.hid (HD0.out.keep (hX1 ▸ bdrewN X0 _))
  clear hX1 k4 c0 c2 HD0
  obtain ⟨k4, r0, r1, r2, r3, r4, r7, r8, rf⟩ := HD.out.rd' HX.out HV.out
  obtain ⟨c0, c1, c2, c3, c4, c5, c6, cf⟩ := tc7 HD.out.boxIs
  rw [HM.out] at r1
  clear r7 r8 rf c6 cf
  go_upto_region 14 with fail
  by_cases hA : hi - two x.k ≤ x.sn
  · have g1 : decide (hi - two x.k ≤ x.sn) = true := decide_eq_true hA
    have g2 : decide (x.sn ≤ c) = false := decide_eq_false (by omega)
    go_quiet (fail)
    go_upto_region 17 with fail
    generalize hX1 : World.drewN X _ = X1
    have HD1 := Lib.hid (HD.out.keep (hX1 ▸ bdrewN X _))
    clear hX1
    clear k4 r0 r1 r2 r3 r4 c0 c1 c2 c3 c4 c5 HD
    have HT := Lib.hid HD1.out.boxIs
    have HJ2 := Lib.hid (HJ.out _ X1 HD1.out)
    have c3 := (tc7 HD1.out.boxIs).c3
    clear HJ
    go_wp2_with (first
      | (refine wpList_load_row rfl 193 (.tmp 3) rfl bz rfl 193 (t14 i n 1 c hi l (.slice none 0 0)) (0, 0) _ HT.out Tryz.underlying193 rfl HIV.out ?_)
      | (go_at_call 142; refine HJ2.out.mono ?_; rintro e w1 ⟨rfl, hd⟩; have HD3 := Lib.hid hd; have HZ := Lib.hid hd.swap.boxIs; clear hd HT)
      | (refine wpList_store_row rfl 193 (.tmp 4) (.tmp 90) rfl (bz + 1) (t14 i n 3 c hi c (.slice none 0 0)) rfl rfl 193 _ HZ.out HI.out rfl HO.out ?_))
    exact bodyPost_ret (results_row_tmp (p := 4) (u := 5) (by kernel_rfl) _ _ (bz + 1) 193 (t14 i n 3 c hi c (.slice none 0 0)) (0, 0) _ rfl (setRow_heap _ _ _ _ _ _ HZ.out) Tryz.underlying193 rfl HI.out) rfl ⟨rfl, (HD3.out.swap.boxRow _).boxDrop.boxDrop⟩
  · have g1 : decide (hi - two x.k ≤ x.sn) = false := decide_eq_false hA
    go_quiet (fail)
    go_upto_region 17 with fail
    generalize hX1 : World.drewN X _ = X1
    have HD1 := Lib.hid (HD.out.keep (hX1 ▸ bdrewN X _))
    clear hX1
    clear k4 r0 r1 r2 r3 r4 c0 c1 c2 c3 c4 c5 HD
    have HT := Lib.hid HD1.out.boxIs
    have HJ2 := Lib.hid (HJ.out _ X1 HD1.out)
    have c3 := (tc7 HD1.out.boxIs).c3
    clear HJ
    go_wp2_with (first
      | (refine wpList_load_row rfl 193 (.tmp 3) rfl bz rfl 193 (t14 i n 1 c hi l (.slice none 0 0)) (0, 0) _ HT.out Tryz.underlying193 rfl HIV.out ?_)
      | (go_at_call 142; refine HJ2.out.mono ?_; rintro e w1 ⟨rfl, hd⟩; have HD3 := Lib.hid hd; have HZ := Lib.hid hd.swap.boxIs; clear hd HT)
      | (refine wpList_store_row rfl 193 (.tmp 4) (.tmp 90) rfl (bz + 1) (t14 i n 3 c hi c (.slice none 0 0)) rfl rfl 193 _ HZ.out HI.out rfl HO.out ?_))
    exact bodyPost_ret (results_row_tmp (p := 4) (u := 5) (by kernel_rfl) _ _ (bz + 1) 193 (t14 i n 3 c hi c (.slice none 0 0)) (0, 0) _ rfl (setRow_heap _ _ _ _ _ _ HZ.out) Tryz.underlying193 rfl HI.out) rfl ⟨rfl, (HD3.out.swap.boxRow _).boxDrop.boxDrop⟩
set_option maxHeartbeats 8000000 in
set_option maxRecDepth 100000 in
theorem dstep_0full (h : Dm R W0 W a cs st d) (hx : d.L[i]? = some x) (hl8 : d.L.length ≤ 8) (hk : x.k ≤ 20) (hm : x.many = false) (n c hi l : Int) (h1 : -1 ≤ hi) (h2 : hi ≤ 4611686018427387904) (h3 : x.p < hi - two x.k) :
    Calls Tryz.prog 111 #[.pointer (some ⟨d.wb, 0, none⟩), .agg (t14 i n 0 c hi l (.slice none 0 0))] W fun e w' => e = .returned (.tuple #[.agg (t14 i n 6 c hi x.p (.slice none 0 0)), .int .i64 0]) ∧ Dm R W0 w' a cs st { d with L := d.L.set i { x with sn := x.p } } := by
  obtain ⟨rb, cap, hv, -⟩ := h.rd hx
  have hil : i < d.L.length := (List.getElem?_eq_some_iff.1 hx).1
  have HX := Lib.hid hx
  have HV := Lib.hid hv
  have HM := Lib.hid hm
  have hp2 : two x.k ≤ 1048576 := two_le hk
  have hp0 := two_pos x.k
  have b0 : (0 : Int) ≤ (i : Int) := by omega
  have b1 : (i : Int) < (d.L.length : Int) := by omega
  have HI := Lib.hid (t14_info i n 6 c hi x.p (.slice none 0 0))
  have HIV := Lib.hid (t14_info i n 0 c hi l (.slice none 0 0))
  have HO := Lib.hid (t14_one i n 6 c hi x.p)
  have HJ : Hid (∀ (R' : Rest) (w : World), Dm R' W0 w a cs st d → Calls Tryz.prog 142 #[.pointer (some ⟨d.wb, 0, none⟩), .agg (t14 i n 0 c hi l (.slice none 0 0)), .int .i64 x.p] w fun e w' => e = .returned (.agg (t14 i n 6 c hi x.p (.slice none 0 0))) ∧ Dm R' W0 w' a cs st { d with L := d.L.set i { x with sn := x.p } }) := Lib.hid fun R' w hd => dscan_full hd hx hl8 hk hm n 0 c hi l x.p h1 h2 h3
  have HD0 := Lib.hid (h.two (t14 i n 0 c hi l (.slice none 0 0)) #[.int .i64 0, .int .i64 0, .int .i64 0, .int .i64 0, .int .i64 0, .int .i64 0, .slice none 0 0] 193 193)
  clear h hx hv hm
  go_enter Tryz.func111, Tryz.ntmps111
  go_upto_region 1 with fail
  generalize hX : World.alloc (World.alloc W (.cells _ 193)) (.cells _ 193) = X0 at *
  clear hX
  generalize hbz : W.heap.size = bz at *
  obtain ⟨k4, -, -, -, -, -, -, -, -⟩ := HD0.out.rd' HX.out HV.out
  obtain ⟨c0, -, c2, -, -, -, -, -⟩ := tc7 HD0.out.boxIs
  go_upto_region 3 with fail
  go_quiet (fail)
  go_upto_region 4 with fail
  generalize hX1 : World.drewN X0 _ = X
  have HD := Lib.hid (HD0.out.keep (hX1 ▸ bdrewN X0 _))
  clear hX1 k4 c0 c2 HD0
  obtain ⟨k4, r0, r1, r2, r3, r4, r7, r8, rf⟩ := HD.out.rd' HX.out HV.out
  obtain ⟨c0, c1, c2, c3, c4, c5, c6, cf⟩ := tc7 HD.out.boxIs
  rw [HM.out] at r1
  clear r7 r8 rf c6 cf
  have HD1 := HD
  clear k4 r2 r4 r3 c1 c3 c4 c5 HD
  go_upto_region 5 with fail
  clear r0 r1 c0 c2
  have HJ2 := Lib.hid (fun (w2 : World) (hb : Below X.heap.size X w2) => HJ.out _ w2 (HD1.out.keep hb))
  have HR2 := Lib.hid (fun (w2 : World) (hb : Below X.heap.size X w2) => ((HD1.out.keep hb).rd' HX.out HV.out).r3)
  have HLA : Hid (∀ w', (∃ y : Later X, w' = y.to) → w'.heap[bz]? = some (.cells (t14 i n 0 c hi l (.slice none 0 0)) 193 (0, 0))) := Lib.hid (by
    rintro w' ⟨y, rfl⟩
    exact (HD1.out.keep y.below).boxIs)
  have n3 : ∀ x1 : Later X, x1.to.cell? ⟨rb, i * 9 + 3, none⟩ = some (.int .i64 x.p) := fun x1 => HR2.out _ x1.below
  clear HJ HR2
  refine wp_region_later_tail 6 (by kernel_rfl) (by kernel_rfl) ?_
  simp only [List.take_succ_cons, List.take_zero, List.drop_succ_cons, List.drop_zero]
  repeat (first
    | (go_big_quiet_want; refine quiet_load_rowG 193 (.tmp 3) rfl bz rfl 193 (t14 i n 0 c hi l (.slice none 0 0)) (0, 0) _ HLA.out Tryz.underlying193 rfl HIV.out ?_; go_big_quiet_on; go_frame)
    | go_big_quiet_step (fail))
  refine wpQuiet_nil ?_
  intro w5 hw'
  obtain ⟨⟨w5', hb5⟩, hw5⟩ := hw'
  obtain rfl : w5 = w5' := hw5
  have HJ5 := Lib.hid (HJ2.out w5 hb5)
  clear n3 hb5 HJ2 HLA
  go_wp2_with (first
    | (go_at_call 142; refine HJ5.out.mono ?_; rintro e w6 ⟨rfl, hd⟩; have HD3 := Lib.hid hd; have HZ := Lib.hid hd.swap.boxIs; clear hd)
    | (refine wpList_store_row rfl 193 (.tmp 4) (.tmp 34) rfl (bz + 1) (t14 i n 6 c hi x.p (.slice none 0 0)) rfl rfl 193 _ HZ.out HI.out rfl HO.out ?_))
  exact bodyPost_ret (results_row_tmp (p := 4) (u := 5) (by kernel_rfl) _ _ (bz + 1) 193 (t14 i n 6 c hi x.p (.slice none 0 0)) (0, 0) _ rfl (setRow_heap _ _ _ _ _ _ HZ.out) Tryz.underlying193 rfl HI.out) rfl ⟨rfl, (HD3.out.swap.boxRow _).boxDrop.boxDrop⟩
set_option maxHeartbeats 8000000 in
set_option maxRecDepth 100000 in
theorem dstep_0got (h : Dm R W0 W a cs st d) (hx : d.L[i]? = some x) (hl8 : d.L.length ≤ 8) (hk : x.k ≤ 20) (hm : x.many = false) (n c hi l : Int) (h1 : -1 ≤ hi) (h2 : hi ≤ 4611686018427387904) (h3 : ¬ x.p < hi - two x.k) :
    Calls Tryz.prog 111 #[.pointer (some ⟨d.wb, 0, none⟩), .agg (t14 i n 0 c hi l (.slice none 0 0))] W fun e w' => e = .returned (.tuple #[.agg (t14 i n 5 c hi x.p (.slice none 0 0)), .int .i64 0]) ∧ Dm R W0 w' a cs st { d with L := d.L.set i { x with sn := x.p, c := hi } } := by
  obtain ⟨rb, cap, hv, -⟩ := h.rd hx
  have hil : i < d.L.length := (List.getElem?_eq_some_iff.1 hx).1
  have HX := Lib.hid hx
  have HV := Lib.hid hv
  have HM := Lib.hid hm
  have hp2 : two x.k ≤ 1048576 := two_le hk
  have hp0 := two_pos x.k
  have b0 : (0 : Int) ≤ (i : Int) := by omega
  have b1 : (i : Int) < (d.L.length : Int) := by omega
  have HI := Lib.hid (t14_info i n 5 c hi x.p (.slice none 0 0))
  have HIV := Lib.hid (t14_info i n 0 c hi l (.slice none 0 0))
  have HO := Lib.hid (t14_one i n 5 c hi x.p)
  have HJ : Hid (∀ (R' : Rest) (w : World), Dm R' W0 w a cs st d → Calls Tryz.prog 142 #[.pointer (some ⟨d.wb, 0, none⟩), .agg (t14 i n 0 c hi l (.slice none 0 0)), .int .i64 x.p] w fun e w' => e = .returned (.agg (t14 i n 5 c hi x.p (.slice none 0 0))) ∧ Dm R' W0 w' a cs st { d with L := d.L.set i { x with sn := x.p, c := hi } }) := Lib.hid fun R' w hd => dscan_got hd hx hl8 hk hm n 0 c hi l x.p h1 h2 h3
  have HD0 := Lib.hid (h.two (t14 i n 0 c hi l (.slice none 0 0)) #[.int .i64 0, .int .i64 0, .int .i64 0, .int .i64 0, .int .i64 0, .int .i64 0, .slice none 0 0] 193 193)
  clear h hx hv hm
  go_enter Tryz.func111, Tryz.ntmps111
  go_upto_region 1 with fail
  generalize hX : World.alloc (World.alloc W (.cells _ 193)) (.cells _ 193) = X0 at *
  clear hX
  generalize hbz : W.heap.size = bz at *
  obtain ⟨k4, -, -, -, -, -, -, -, -⟩ := HD0.out.rd' HX.out HV.out
  obtain ⟨c0, -, c2, -, -, -, -, -⟩ := tc7 HD0.out.boxIs
  go_upto_region 3 with fail
  go_quiet (fail)
  go_upto_region 4 with fail
  generalize hX1 : World.drewN X0 _ = X
  have HD := Lib.hid (HD0.out.keep (hX1 ▸ bdrewN X0 _))
  clear hX1 k4 c0 c2 HD0
  obtain ⟨k4, r0, r1, r2, r3, r4, r7, r8, rf⟩ := HD.out.rd' HX.out HV.out
  obtain ⟨c0, c1, c2, c3, c4, c5, c6, cf⟩ := tc7 HD.out.boxIs
  rw [HM.out] at r1
  clear r7 r8 rf c6 cf
  have HD1 := HD
  clear k4 r2 r4 r3 c1 c3 c4 c5 HD
  go_upto_region 5 with fail
  clear r0 r1 c0 c2
  have HJ2 := Lib.hid (fun (w2 : World) (hb : Below X.heap.size X w2) => HJ.out _ w2 (HD1.out.keep hb))
  have HR2 := Lib.hid (fun (w2 : World) (hb : Below X.heap.size X w2) => ((HD1.out.keep hb).rd' HX.out HV.out).r3)
  have HLA : Hid (∀ w', (∃ y : Later X, w' = y.to) → w'.heap[bz]? = some (.cells (t14 i n 0 c hi l (.slice none 0 0)) 193 (0, 0))) := Lib.hid (by
    rintro w' ⟨y, rfl⟩
    exact (HD1.out.keep y.below).boxIs)
  have n3 : ∀ x1 : Later X, x1.to.cell? ⟨rb, i * 9 + 3, none⟩ = some (.int .i64 x.p) := fun x1 => HR2.out _ x1.below
  clear HJ HR2
  refine wp_region_later_tail 6 (by kernel_rfl) (by kernel_rfl) ?_
  simp only [List.take_succ_cons, List.take_zero, List.drop_succ_cons, List.drop_zero]
  repeat (first
    | (go_big_quiet_want; refine quiet_load_rowG 193 (.tmp 3) rfl bz rfl 193 (t14 i n 0 c hi l (.slice none 0 0)) (0, 0) _ HLA.out Tryz.underlying193 rfl HIV.out ?_; go_big_quiet_on; go_frame)
    | go_big_quiet_step (fail))
  refine wpQuiet_nil ?_
  intro w5 hw'
  obtain ⟨⟨w5', hb5⟩, hw5⟩ := hw'
  obtain rfl : w5 = w5' := hw5
  have HJ5 := Lib.hid (HJ2.out w5 hb5)
  clear n3 hb5 HJ2 HLA
  go_wp2_with (first
    | (go_at_call 142; refine HJ5.out.mono ?_; rintro e w6 ⟨rfl, hd⟩; have HD3 := Lib.hid hd; have HZ := Lib.hid hd.swap.boxIs; clear hd)
    | (refine wpList_store_row rfl 193 (.tmp 4) (.tmp 34) rfl (bz + 1) (t14 i n 5 c hi x.p (.slice none 0 0)) rfl rfl 193 _ HZ.out HI.out rfl HO.out ?_))
  exact bodyPost_ret (results_row_tmp (p := 4) (u := 5) (by kernel_rfl) _ _ (bz + 1) 193 (t14 i n 5 c hi x.p (.slice none 0 0)) (0, 0) _ rfl (setRow_heap _ _ _ _ _ _ HZ.out) Tryz.underlying193 rfl HI.out) rfl ⟨rfl, (HD3.out.swap.boxRow _).boxDrop.boxDrop⟩
set_option maxHeartbeats 8000000 in
set_option maxRecDepth 100000 in
theorem dstep_1y (h : Dm R W0 W a cs st d) (hx : d.L[i]? = some x) (hl8 : d.L.length ≤ 8) (hk : x.k ≤ 20) (hm : x.many = true) (n c hi l : Int) (h1 : -1 ≤ hi) (h2 : hi ≤ 4611686018427387904) (he : hi - two x.k ≤ x.sn ∧ x.sn ≤ c) :
    Calls Tryz.prog 111 #[.pointer (some ⟨d.wb, 0, none⟩), .agg (t14 i n 1 c hi l (.slice none 0 0))] W fun e w' => e = .returned (.tuple #[.agg (t14 i n 4 c hi l (.slice none 0 0)), .int .i64 0]) ∧ Dm R W0 w' a cs st d := by
  obtain ⟨rb, cap, hv, -⟩ := h.rd hx
  have hil : i < d.L.length := (List.getElem?_eq_some_iff.1 hx).1
  have HX := Lib.hid hx
  have HV := Lib.hid hv
  have HM := Lib.hid hm
  have hp2 : two x.k ≤ 1048576 := two_le hk
  have hp0 := two_pos x.k
  have b0 : (0 : Int) ≤ (i : Int) := by omega
  have b1 : (i : Int) < (d.L.length : Int) := by omega
  have HI := Lib.hid (t14_info i n 4 c hi l (.slice none 0 0))
  have HIV := Lib.hid (t14_info i n 1 c hi l (.slice none 0 0))
  have HO := Lib.hid (t14_one i n 4 c hi l)
  have g1 : decide (hi - two x.k ≤ x.sn) = true := decide_eq_true he.1
  have g2 : decide (x.sn ≤ c) = true := decide_eq_true he.2
  have HD0 := Lib.hid (h.two (t14 i n 1 c hi l (.slice none 0 0)) #[.int .i64 0, .int .i64 0, .int .i64 0, .int .i64 0, .int .i64 0, .int .i64 0, .slice none 0 0] 193 193)
  clear h hx hv hm
  go_enter Tryz.func111, Tryz.ntmps111
  go_upto_region 1 with fail
  generalize hX : World.alloc (World.alloc W (.cells _ 193)) (.cells _ 193) = X0 at *
  clear hX
  generalize hbz : W.heap.size = bz at *
  obtain ⟨k4, -, -, -, -, -, -, -, -⟩ := HD0.out.rd' HX.out HV.out
  obtain ⟨c0, -, c2, -, -, -, -, -⟩ := tc7 HD0.out.boxIs
  go_upto_region 3 with fail
  go_quiet (fail)
  go_upto_region 4 with fail
  generalize hX1 : World.drewN X0 _ = X
  have HD := Lib.hid (HD0.out.keep (hX1 ▸ bdrewN X0 _))
  clear hX1 k4 c0 c2 HD0
  obtain ⟨k4, r0, r1, r2, r3, r4, r7, r8, rf⟩ := HD.out.rd' HX.out HV.out
  obtain ⟨c0, c1, c2, c3, c4, c5, c6, cf⟩ := tc7 HD.out.boxIs
  rw [HM.out] at r1
  clear r7 r8 rf c6 cf
  go_upto_region 14 with fail
  go_quiet (fail)
  go_upto_region 15 with fail
  generalize hX1 : World.drewN X _ = X1
  have HD1 := Lib.hid (HD.out.keep (hX1 ▸ bdrewN X _))
  clear hX1
  clear k4 r0 r1 r2 r3 r4 c0 c1 c2 c3 c4 c5 HD g1 g2
  have f2 := (tc7 HD1.out.boxIs).f 2
  have c2 := (tc7 HD1.out.boxIs).c2
  go_upto_region 16 with fail
  have HD2 := Lib.hid (HD1.out.boxSet 2 (.int .i64 4))
  rw [show (t14 i n 1 c hi l (.slice none 0 0)).setIfInBounds 2 (.int .i64 4) = t14 i n 4 c hi l (.slice none 0 0) from rfl] at HD2
  generalize World.setCell X1 _ _ = X2 at *
  clear f2 c2 HD1
  go_upto_region 16 with fail
  have HT := Lib.hid HD2.out.boxIs
  have HZ := Lib.hid HD2.out.swap.boxIs
  go_wp2_with (first
    | (refine wpList_load_row rfl 193 (.tmp 3) rfl bz rfl 193 (t14 i n 4 c hi l (.slice none 0 0)) (0, 0) _ HT.out Tryz.underlying193 rfl HI.out ?_)
    | (refine wpList_store_row rfl 193 (.tmp 4) (.tmp 85) rfl (bz + 1) (t14 i n 4 c hi l (.slice none 0 0)) rfl rfl 193 _ HZ.out HI.out rfl HO.out ?_))
  exact bodyPost_ret (results_row_tmp (p := 4) (u := 5) (by kernel_rfl) _ _ (bz + 1) 193 (t14 i n 4 c hi l (.slice none 0 0)) (0, 0) _ rfl (setRow_heap _ _ _ _ _ _ HZ.out) Tryz.underlying193 rfl HI.out) rfl ⟨rfl, (HD2.out.swap.boxRow _).boxDrop.boxDrop⟩
set_option maxHeartbeats 8000000 in
set_option maxRecDepth 100000 in
theorem dstep_3 (h : Dm R W0 W a cs st d) (hx : d.L[i]? = some x) (hl8 : d.L.length ≤ 8) (hk : x.k ≤ 20) (hm : x.many = true) (n c hi l : Int) :
    Calls Tryz.prog 111 #[.pointer (some ⟨d.wb, 0, none⟩), .agg (t14 i n 3 c hi l (.slice none 0 0))] W fun e w' => e = .returned (.tuple #[.agg (t14 i n 4 c hi l (.slice none 0 0)), .int .i64 0]) ∧ Dm R W0 w' a cs st { d with L := d.L.set i { x with sn := l } } := by
  obtain ⟨rb, cap, hv, -⟩ := h.rd hx
  have hil : i < d.L.length := (List.getElem?_eq_some_iff.1 hx).1
  have HX := Lib.hid hx
  have HV := Lib.hid hv
  have HM := Lib.hid hm
  have hp2 : two x.k ≤ 1048576 := two_le hk
  have hp0 := two_pos x.k
  have b0 : (0 : Int) ≤ (i : Int) := by omega
  have b1 : (i : Int) < (d.L.length : Int) := by omega
  have HI := Lib.hid (t14_info i n 4 c hi l (.slice none 0 0))
  have HIV := Lib.hid (t14_info i n 3 c hi l (.slice none 0 0))
  have HO := Lib.hid (t14_one i n 4 c hi l)
  have HD0 := Lib.hid (h.two (t14 i n 3 c hi l (.slice none 0 0)) #[.int .i64 0, .int .i64 0, .int .i64 0, .int .i64 0, .int .i64 0, .int .i64 0, .slice none 0 0] 193 193)
  clear h hx hv hm
  go_enter Tryz.func111, Tryz.ntmps111
  go_upto_region 1 with fail
  generalize hX : World.alloc (World.alloc W (.cells _ 193)) (.cells _ 193) = X0 at *
  clear hX
  generalize hbz : W.heap.size = bz at *
  obtain ⟨k4, -, -, -, -, -, -, -, -⟩ := HD0.out.rd' HX.out HV.out
  obtain ⟨c0, -, c2, -, -, -, -, -⟩ := tc7 HD0.out.boxIs
  go_upto_region 3 with fail
  go_quiet (fail)
  go_upto_region 4 with fail
  generalize hX1 : World.drewN X0 _ = X
  have HD := Lib.hid (HD0.out.keep (hX1 ▸ bdrewN X0 _))
  clear hX1 k4 c0 c2 HD0
  obtain ⟨k4, r0, r1, r2, r3, r4, r7, r8, rf⟩ := HD.out.rd' HX.out HV.out
  obtain ⟨c0, c1, c2, c3, c4, c5, c6, cf⟩ := tc7 HD.out.boxIs
  rw [HM.out] at r1
  clear r7 r8 rf c6 cf
  go_upto_region 26 with fail
  have HD1 := HD
  clear k4 r0 r1 r2 r3 r4 c0 c1 c2 c3 c4 c5 HD
  have c5 := (tc7 HD1.out.boxIs).c5
  obtain ⟨-, -, -, -, -, r4, -, -, rf⟩ := HD1.out.rd' HX.out HV.out
  have f4 := rf (i * 9 + 4)
  go_upto_region 27 with fail
  have HD2 := Lib.hid (HD1.out.set (u := .int .i64 l) (j := 4) (y := { x with sn := l }) HX.out HV.out (by decide) rfl rfl)
  generalize World.setCell X _ _ = X2 at *
  clear c5 r4 rf f4 HD1
  have f2 := (tc7 HD2.out.boxIs).f 2
  have c2 := (tc7 HD2.out.boxIs).c2
  go_upto_region 28 with fail
  have HD3 := Lib.hid (HD2.out.boxSet 2 (.int .i64 4))
  rw [show (t14 i n 3 c hi l (.slice none 0 0)).setIfInBounds 2 (.int .i64 4) = t14 i n 4 c hi l (.slice none 0 0) from rfl] at HD3
  generalize World.setCell X2 _ _ = X3 at *
  clear f2 c2 HD2
  go_upto_region 28 with fail
  have HT := Lib.hid HD3.out.boxIs
  have HZ := Lib.hid HD3.out.swap.boxIs
  go_wp2_with (first
    | (refine wpList_load_row rfl 193 (.tmp 3) rfl bz rfl 193 (t14 i n 4 c hi l (.slice none 0 0)) (0, 0) _ HT.out Tryz.underlying193 rfl HI.out ?_)
    | (refine wpList_store_row rfl 193 (.tmp 4) (.tmp 139) rfl (bz + 1) (t14 i n 4 c hi l (.slice none 0 0)) rfl rfl 193 _ HZ.out HI.out rfl HO.out ?_))
  exact bodyPost_ret (results_row_tmp (p := 4) (u := 5) (by kernel_rfl) _ _ (bz + 1) 193 (t14 i n 4 c hi l (.slice none 0 0)) (0, 0) _ rfl (setRow_heap _ _ _ _ _ _ HZ.out) Tryz.underlying193 rfl HI.out) rfl ⟨rfl, (HD3.out.swap.boxRow _).boxDrop.boxDrop⟩
set_option maxHeartbeats 8000000 in
set_option maxRecDepth 100000 in
theorem dstep_4 (h : Dm R W0 W a cs st d) (hx : d.L[i]? = some x) (hl8 : d.L.length ≤ 8) (hk : x.k ≤ 20) (hm : x.many = true) (n hi l : Int) :
    Calls Tryz.prog 111 #[.pointer (some ⟨d.wb, 0, none⟩), .agg (t14 i n 4 x.c hi l (.slice none 0 0))] W fun e w' => e = .returned (.tuple #[.agg (t14 i n 5 x.c hi l (.slice none 0 0)), .int .i64 0]) ∧ Dm R W0 w' a cs st { d with L := d.L.set i { x with c := hi } } := by
  obtain ⟨rb, cap, hv, -⟩ := h.rd hx
  have hil : i < d.L.length := (List.getElem?_eq_some_iff.1 hx).1
  have HX := Lib.hid hx
  have HV := Lib.hid hv
  have HM := Lib.hid hm
  have hp2 : two x.k ≤ 1048576 := two_le hk
  have hp0 := two_pos x.k
  have b0 : (0 : Int) ≤ (i : Int) := by omega
  have b1 : (i : Int) < (d.L.length : Int) := by omega
  have HI := Lib.hid (t14_info i n 5 x.c hi l (.slice none 0 0))
  have HIV := Lib.hid (t14_info i n 4 x.c hi l (.slice none 0 0))
  have HO := Lib.hid (t14_one i n 5 x.c hi l)
  have gg : (x.c == x.c) = true := by simp
  have HD0 := Lib.hid (h.two (t14 i n 4 x.c hi l (.slice none 0 0)) #[.int .i64 0, .int .i64 0, .int .i64 0, .int .i64 0, .int .i64 0, .int .i64 0, .slice none 0 0] 193 193)
  clear h hx hv hm
  go_enter Tryz.func111, Tryz.ntmps111
  go_upto_region 1 with fail
  generalize hX : World.alloc (World.alloc W (.cells _ 193)) (.cells _ 193) = X0 at *
  clear hX
  generalize hbz : W.heap.size = bz at *
  obtain ⟨k4, -, -, -, -, -, -, -, -⟩ := HD0.out.rd' HX.out HV.out
  obtain ⟨c0, -, c2, -, -, -, -, -⟩ := tc7 HD0.out.boxIs
  go_upto_region 3 with fail
  go_quiet (fail)
  go_upto_region 4 with fail
  generalize hX1 : World.drewN X0 _ = X
  have HD := Lib.hid (HD0.out.keep (hX1 ▸ bdrewN X0 _))
  clear hX1 k4 c0 c2 HD0
  obtain ⟨k4, r0, r1, r2, r3, r4, r7, r8, rf⟩ := HD.out.rd' HX.out HV.out
  obtain ⟨c0, c1, c2, c3, c4, c5, c6, cf⟩ := tc7 HD.out.boxIs
  rw [HM.out] at r1
  clear r7 r8 rf c6 cf
  go_upto_region 29 with fail
  have HD1 := HD
  clear k4 r0 r1 r2 r3 r4 c0 c1 c2 c3 c4 c5 HD
  have f2 := (tc7 HD1.out.boxIs).f 2
  have c2 := (tc7 HD1.out.boxIs).c2
  go_upto_region 30 with fail
  have HD2 := Lib.hid (HD1.out.boxSet 2 (.int .i64 0))
  rw [show (t14 i n 4 x.c hi l (.slice none 0 0)).setIfInBounds 2 (.int .i64 0) = t14 i n 0 x.c hi l (.slice none 0 0) from rfl] at HD2
  generalize World.setCell X _ _ = X2 at *
  clear f2 c2 HD1
  have c3 := (tc7 HD2.out.boxIs).c3
  have r2 := (HD2.out.rd' HX.out HV.out).r2
  go_quiet (fail)
  go_upto_region 31 with fail
  generalize hX1 : World.drewN X2 _ = X3
  have HD3 := Lib.hid (HD2.out.keep (hX1 ▸ bdrewN X2 _))
  clear hX1
  clear c3 r2 HD2 gg
  have c4 := (tc7 HD3.out.boxIs).c4
  obtain ⟨-, -, -, r2, -, -, -, -, rf⟩ := HD3.out.rd' HX.out HV.out
  have f4 := rf (i * 9 + 2)
  go_upto_region 32 with fail
  have HD4 := Lib.hid (HD3.out.set (u := .int .i64 hi) (j := 2) (y := { x with c := hi }) HX.out HV.out (by decide) rfl rfl)
  generalize World.setCell X3 _ _ = X4 at *
  clear c4 r2 rf f4 HD3
  have f2 := (tc7 HD4.out.boxIs).f 2
  have c2 := (tc7 HD4.out.boxIs).c2
  go_upto_region 33 with fail
  have HD5 := Lib.hid (HD4.out.boxSet 2 (.int .i64 5))
  rw [show (t14 i n 0 x.c hi l (.slice none 0 0)).setIfInBounds 2 (.int .i64 5) = t14 i n 5 x.c hi l (.slice none 0 0) from rfl] at HD5
  generalize World.setCell X4 _ _ = X5 at *
  clear f2 c2 HD4
  go_upto_region 33 with fail
  have HT := Lib.hid HD5.out.boxIs
  have HZ := Lib.hid HD5.out.swap.boxIs
  go_wp2_with (first
    | (refine wpList_load_row rfl 193 (.tmp 3) rfl bz rfl 193 (t14 i n 5 x.c hi l (.slice none 0 0)) (0, 0) _ HT.out Tryz.underlying193 rfl HI.out ?_)
    | (refine wpList_store_row rfl 193 (.tmp 4) (.tmp 154) rfl (bz + 1) (t14 i n 5 x.c hi l (.slice none 0 0)) rfl rfl 193 _ HZ.out HI.out rfl HO.out ?_))
  exact bodyPost_ret (results_row_tmp (p := 4) (u := 5) (by kernel_rfl) _ _ (bz + 1) 193 (t14 i n 5 x.c hi l (.slice none 0 0)) (0, 0) _ rfl (setRow_heap _ _ _ _ _ _ HZ.out) Tryz.underlying193 rfl HI.out) rfl ⟨rfl, (HD5.out.swap.boxRow _).boxDrop.boxDrop⟩
end
end Go.Proofs.YtdfcfdcekdmcmaaGreat
