/-
  The document's world of layer 14: scan, TryNew, TryStep by contract, where nobody holds back. Conditions: as each theorem names them.
-/
import Derived.Test.YtdfcfdcekdmcmaaGreatPk34
set_option linter.unusedVariables false
set_option linter.unusedSimpArgs false
namespace Go.Proofs.YtdfcfdcekdmcmaaGreat
open Go.RowKit
set_option linter.unusedVariables false
set_option linter.unusedSimpArgs false
section
variable {R R' : Rest} {W0 W w : World} {a : Nat} {cs : List Int} {st : Int} {d : Dw} {i p q : Nat} {x : Dr}
set_option maxHeartbeats 4000000 in
set_option maxRecDepth 100000 in
theorem dscan_many (h : Dm R W0 W a cs st d) (hx : d.L[i]? = some x) (hl8 : d.L.length ≤ 8) (hk : x.k ≤ 20) (hm : x.many = true) (n s c hi l0 l : Int) (h1 : -1 ≤ hi) (h2 : hi ≤ 4611686018427387904) (h3 : ¬ l < hi - two x.k) :
    Calls Tryz.prog 142 #[.pointer (some ⟨d.wb, 0, none⟩), .agg (t14 i n s c hi l0 (.slice none 0 0)), .int .i64 l] W fun e w' => e = .returned (.agg (t14 i n 3 c hi l (.slice none 0 0))) ∧ Dm R W0 w' a cs st d := by
  obtain ⟨rb, cap, hv, -⟩ := h.rd hx
  have hil : i < d.L.length := (List.getElem?_eq_some_iff.1 hx).1
  have HX := Lib.hid hx
  have HI := Lib.hid (t14_info i n 3 c hi l (.slice none 0 0))
  have HI2 := Lib.hid (t14_info i n 2 c hi l (.slice none 0 0))
  have HO := Lib.hid (t14_one i n 3 c hi l)
  have b0 : (0 : Int) ≤ (i : Int) := by omega
  have b1 : (i : Int) < (d.L.length : Int) := by omega
  have HD := Lib.hid (h.two (t14 i n s c hi l0 (.slice none 0 0)) #[.int .i64 0, .int .i64 0, .int .i64 0, .int .i64 0, .int .i64 0, .int .i64 0, .slice none 0 0] 193 193)
  have HV := Lib.hid hv
  have HJ : Hid (∀ (R' : Rest) (w : World), Dm R' W0 w a cs st d → Calls Tryz.prog 143 #[.pointer (some ⟨d.wb, 0, none⟩), .agg (t14 i n 2 c hi l (.slice none 0 0))] w fun e w' => e = .returned (.agg (t14 i n 3 c hi l (.slice none 0 0))) ∧ Dm R' W0 w' a cs st d) := Lib.hid fun R' w hd => djudge_many hd hx hl8 hk hm n 2 c hi l h1 h2 h3
  clear h hx hv hm h1 h2 h3
  go_enter Tryz.func142, Tryz.ntmps142
  go_upto_region 1 with fail
  generalize hX : World.alloc (World.alloc W (.cells _ 193)) (.cells _ 193) = X at *
  clear hX
  obtain ⟨c0, c1, c2, c3, c4, c5, c6, cf⟩ := tc7 HD.out.boxIs
  generalize hbz : W.heap.size = bz at *
  have f5 := cf 5
  have f2 := cf 2
  have f6 := cf 6
  go_upto_region 4 with fail
  have HD1 := Lib.hid (((HD.out.boxSet 5 (.int .i64 l)).boxSet 2 (.int .i64 2)).boxSet 6 (.slice none 0 0))
  rw [show (((t14 i n s c hi l0 (.slice none 0 0)).setIfInBounds 5 (.int .i64 l)).setIfInBounds 2 (.int .i64 2)).setIfInBounds 6 (.slice none 0 0) = t14 i n 2 c hi l (.slice none 0 0) from rfl] at HD1
  generalize World.setCell (World.setCell (World.setCell X _ _) _ _) _ _ = X1 at *
  clear c0 c1 c2 c3 c4 c5 c6 cf f5 f2 f6 HD
  obtain ⟨c0, c1, c2, c3, c4, c5, c6, cf⟩ := tc7 HD1.out.boxIs
  obtain ⟨k4, r0, r1, r2, r3, r4, r7, r8, rf⟩ := HD1.out.rd' HX.out HV.out
  have f6 := cf 6
  clear c1 c2 c3 c4 c5 cf r0 r1 r2 r3 r4 r8 rf
  go_region
  have HD2 := Lib.hid ((HD1.out.boxSet 6 (.slice none 0 0)).keep (Below.drew (Below.refl _ _)))
  rw [show (t14 i n 2 c hi l (.slice none 0 0)).setIfInBounds 6 (.slice none 0 0) = t14 i n 2 c hi l (.slice none 0 0) from rfl] at HD2
  clear c0 c6 k4 r7 f6 HD1
  generalize World.drew _ = X2 at *
  obtain ⟨c0, c1, c2, c3, c4, c5, c6, cf⟩ := tc7 HD2.out.boxIs
  clear c0 c1 c2 c3 c4 c5 cf
  go_upto_region 6 with fail
  have HT := Lib.hid HD2.out.boxIs
  have HJ2 := Lib.hid (HJ.out _ X2 HD2.out)
  clear c6 HJ
  go_wp2_with (first
    | (refine wpList_load_row rfl 193 (.tmp 4) rfl bz rfl 193 (t14 i n 2 c hi l (.slice none 0 0)) (0, 0) _ HT.out Tryz.underlying193 rfl HI2.out ?_)
    | (go_at_call 143; refine HJ2.out.mono ?_; rintro e w1 ⟨rfl, hd⟩; have HD3 := Lib.hid hd; have HZ := Lib.hid hd.swap.boxIs; clear hd HT)
    | (refine wpList_store_row rfl 193 (.tmp 6) (.tmp 30) rfl (bz + 1) (t14 i n 3 c hi l (.slice none 0 0)) rfl rfl 193 _ HZ.out HI.out rfl HO.out ?_))
  exact bodyPost_ret (results_row (p := 6) (by kernel_rfl) _ _ (bz + 1) 193 (t14 i n 3 c hi l (.slice none 0 0)) _ rfl (setRow_heap _ _ _ _ _ _ HZ.out) Tryz.underlying193 rfl HI.out) rfl ⟨rfl, (HD3.out.swap.boxRow _).boxDrop.boxDrop⟩
set_option maxHeartbeats 4000000 in
set_option maxRecDepth 100000 in
theorem dscan_full (h : Dm R W0 W a cs st d) (hx : d.L[i]? = some x) (hl8 : d.L.length ≤ 8) (hk : x.k ≤ 20) (hm : x.many = false) (n s c hi l0 l : Int) (h1 : -1 ≤ hi) (h2 : hi ≤ 4611686018427387904) (h3 : l < hi - two x.k) :
    Calls Tryz.prog 142 #[.pointer (some ⟨d.wb, 0, none⟩), .agg (t14 i n s c hi l0 (.slice none 0 0)), .int .i64 l] W fun e w' => e = .returned (.agg (t14 i n 6 c hi l (.slice none 0 0))) ∧ Dm R W0 w' a cs st { d with L := d.L.set i { x with sn := l } } := by
  obtain ⟨rb, cap, hv, -⟩ := h.rd hx
  have hil : i < d.L.length := (List.getElem?_eq_some_iff.1 hx).1
  have HX := Lib.hid hx
  have HI := Lib.hid (t14_info i n 6 c hi l (.slice none 0 0))
  have HI2 := Lib.hid (t14_info i n 2 c hi l (.slice none 0 0))
  have HO := Lib.hid (t14_one i n 6 c hi l)
  have b0 : (0 : Int) ≤ (i : Int) := by omega
  have b1 : (i : Int) < (d.L.length : Int) := by omega
  have HD := Lib.hid (h.two (t14 i n s c hi l0 (.slice none 0 0)) #[.int .i64 0, .int .i64 0, .int .i64 0, .int .i64 0, .int .i64 0, .int .i64 0, .slice none 0 0] 193 193)
  have HV := Lib.hid hv
  have HJ : Hid (∀ (R' : Rest) (w : World), Dm R' W0 w a cs st d → Calls Tryz.prog 143 #[.pointer (some ⟨d.wb, 0, none⟩), .agg (t14 i n 2 c hi l (.slice none 0 0))] w fun e w' => e = .returned (.agg (t14 i n 6 c hi l (.slice none 0 0))) ∧ Dm R' W0 w' a cs st { d with L := d.L.set i { x with sn := l } }) := Lib.hid fun R' w hd => djudge_full hd hx hl8 hk hm n 2 c hi l h1 h2 h3
  clear h hx hv hm h1 h2 h3
  go_enter Tryz.func142, Tryz.ntmps142
  go_upto_region 1 with fail
  generalize hX : World.alloc (World.alloc W (.cells _ 193)) (.cells _ 193) = X at *
  clear hX
  obtain ⟨c0, c1, c2, c3, c4, c5, c6, cf⟩ := tc7 HD.out.boxIs
  generalize hbz : W.heap.size = bz at *
  have f5 := cf 5
  have f2 := cf 2
  have f6 := cf 6
  go_upto_region 4 with fail
  have HD1 := Lib.hid (((HD.out.boxSet 5 (.int .i64 l)).boxSet 2 (.int .i64 2)).boxSet 6 (.slice none 0 0))
  rw [show (((t14 i n s c hi l0 (.slice none 0 0)).setIfInBounds 5 (.int .i64 l)).setIfInBounds 2 (.int .i64 2)).setIfInBounds 6 (.slice none 0 0) = t14 i n 2 c hi l (.slice none 0 0) from rfl] at HD1
  generalize World.setCell (World.setCell (World.setCell X _ _) _ _) _ _ = X1 at *
  clear c0 c1 c2 c3 c4 c5 c6 cf f5 f2 f6 HD
  obtain ⟨c0, c1, c2, c3, c4, c5, c6, cf⟩ := tc7 HD1.out.boxIs
  obtain ⟨k4, r0, r1, r2, r3, r4, r7, r8, rf⟩ := HD1.out.rd' HX.out HV.out
  have f6 := cf 6
  clear c1 c2 c3 c4 c5 cf r0 r1 r2 r3 r4 r8 rf
  go_region
  have HD2 := Lib.hid ((HD1.out.boxSet 6 (.slice none 0 0)).keep (Below.drew (Below.refl _ _)))
  rw [show (t14 i n 2 c hi l (.slice none 0 0)).setIfInBounds 6 (.slice none 0 0) = t14 i n 2 c hi l (.slice none 0 0) from rfl] at HD2
  clear c0 c6 k4 r7 f6 HD1
  generalize World.drew _ = X2 at *
  obtain ⟨c0, c1, c2, c3, c4, c5, c6, cf⟩ := tc7 HD2.out.boxIs
  clear c0 c1 c2 c3 c4 c5 cf
  go_upto_region 6 with fail
  have HT := Lib.hid HD2.out.boxIs
  have HJ2 := Lib.hid (HJ.out _ X2 HD2.out)
  clear c6 HJ
  go_wp2_with (first
    | (refine wpList_load_row rfl 193 (.tmp 4) rfl bz rfl 193 (t14 i n 2 c hi l (.slice none 0 0)) (0, 0) _ HT.out Tryz.underlying193 rfl HI2.out ?_)
    | (go_at_call 143; refine HJ2.out.mono ?_; rintro e w1 ⟨rfl, hd⟩; have HD3 := Lib.hid hd; have HZ := Lib.hid hd.swap.boxIs; clear hd HT)
    | (refine wpList_store_row rfl 193 (.tmp 6) (.tmp 30) rfl (bz + 1) (t14 i n 6 c hi l (.slice none 0 0)) rfl rfl 193 _ HZ.out HI.out rfl HO.out ?_))
  exact bodyPost_ret (results_row (p := 6) (by kernel_rfl) _ _ (bz + 1) 193 (t14 i n 6 c hi l (.slice none 0 0)) _ rfl (setRow_heap _ _ _ _ _ _ HZ.out) Tryz.underlying193 rfl HI.out) rfl ⟨rfl, (HD3.out.swap.boxRow _).boxDrop.boxDrop⟩
set_option maxHeartbeats 4000000 in
set_option maxRecDepth 100000 in
theorem dscan_got (h : Dm R W0 W a cs st d) (hx : d.L[i]? = some x) (hl8 : d.L.length ≤ 8) (hk : x.k ≤ 20) (hm : x.many = false) (n s c hi l0 l : Int) (h1 : -1 ≤ hi) (h2 : hi ≤ 4611686018427387904) (h3 : ¬ l < hi - two x.k) :
    Calls Tryz.prog 142 #[.pointer (some ⟨d.wb, 0, none⟩), .agg (t14 i n s c hi l0 (.slice none 0 0)), .int .i64 l] W fun e w' => e = .returned (.agg (t14 i n 5 c hi l (.slice none 0 0))) ∧ Dm R W0 w' a cs st { d with L := d.L.set i { x with sn := l, c := hi } } := by
  obtain ⟨rb, cap, hv, -⟩ := h.rd hx
  have hil : i < d.L.length := (List.getElem?_eq_some_iff.1 hx).1
  have HX := Lib.hid hx
  have HI := Lib.hid (t14_info i n 5 c hi l (.slice none 0 0))
  have HI2 := Lib.hid (t14_info i n 2 c hi l (.slice none 0 0))
  have HO := Lib.hid (t14_one i n 5 c hi l)
  have b0 : (0 : Int) ≤ (i : Int) := by omega
  have b1 : (i : Int) < (d.L.length : Int) := by omega
  have HD := Lib.hid (h.two (t14 i n s c hi l0 (.slice none 0 0)) #[.int .i64 0, .int .i64 0, .int .i64 0, .int .i64 0, .int .i64 0, .int .i64 0, .slice none 0 0] 193 193)
  have HV := Lib.hid hv
  have HJ : Hid (∀ (R' : Rest) (w : World), Dm R' W0 w a cs st d → Calls Tryz.prog 143 #[.pointer (some ⟨d.wb, 0, none⟩), .agg (t14 i n 2 c hi l (.slice none 0 0))] w fun e w' => e = .returned (.agg (t14 i n 5 c hi l (.slice none 0 0))) ∧ Dm R' W0 w' a cs st { d with L := d.L.set i { x with sn := l, c := hi } }) := Lib.hid fun R' w hd => djudge_got hd hx hl8 hk hm n 2 c hi l h1 h2 h3
  clear h hx hv hm h1 h2 h3
  go_enter Tryz.func142, Tryz.ntmps142
  go_upto_region 1 with fail
  generalize hX : World.alloc (World.alloc W (.cells _ 193)) (.cells _ 193) = X at *
  clear hX
  obtain ⟨c0, c1, c2, c3, c4, c5, c6, cf⟩ := tc7 HD.out.boxIs
  generalize hbz : W.heap.size = bz at *
  have f5 := cf 5
  have f2 := cf 2
  have f6 := cf 6
  go_upto_region 4 with fail
  have HD1 := Lib.hid (((HD.out.boxSet 5 (.int .i64 l)).boxSet 2 (.int .i64 2)).boxSet 6 (.slice none 0 0))
  rw [show (((t14 i n s c hi l0 (.slice none 0 0)).setIfInBounds 5 (.int .i64 l)).setIfInBounds 2 (.int .i64 2)).setIfInBounds 6 (.slice none 0 0) = t14 i n 2 c hi l (.slice none 0 0) from rfl] at HD1
  generalize World.setCell (World.setCell (World.setCell X _ _) _ _) _ _ = X1 at *
  clear c0 c1 c2 c3 c4 c5 c6 cf f5 f2 f6 HD
  obtain ⟨c0, c1, c2, c3, c4, c5, c6, cf⟩ := tc7 HD1.out.boxIs
  obtain ⟨k4, r0, r1, r2, r3, r4, r7, r8, rf⟩ := HD1.out.rd' HX.out HV.out
  have f6 := cf 6
  clear c1 c2 c3 c4 c5 cf r0 r1 r2 r3 r4 r8 rf
  go_region
  have HD2 := Lib.hid ((HD1.out.boxSet 6 (.slice none 0 0)).keep (Below.drew (Below.refl _ _)))
  rw [show (t14 i n 2 c hi l (.slice none 0 0)).setIfInBounds 6 (.slice none 0 0) = t14 i n 2 c hi l (.slice none 0 0) from rfl] at HD2
  clear c0 c6 k4 r7 f6 HD1
  generalize World.drew _ = X2 at *
  obtain ⟨c0, c1, c2, c3, c4, c5, c6, cf⟩ := tc7 HD2.out.boxIs
  clear c0 c1 c2 c3 c4 c5 cf
  go_upto_region 6 with fail
  have HT := Lib.hid HD2.out.boxIs
  have HJ2 := Lib.hid (HJ.out _ X2 HD2.out)
  clear c6 HJ
  go_wp2_with (first
    | (refine wpList_load_row rfl 193 (.tmp 4) rfl bz rfl 193 (t14 i n 2 c hi l (.slice none 0 0)) (0, 0) _ HT.out Tryz.underlying193 rfl HI2.out ?_)
    | (go_at_call 143; refine HJ2.out.mono ?_; rintro e w1 ⟨rfl, hd⟩; have HD3 := Lib.hid hd; have HZ := Lib.hid hd.swap.boxIs; clear hd HT)
    | (refine wpList_store_row rfl 193 (.tmp 6) (.tmp 30) rfl (bz + 1) (t14 i n 5 c hi l (.slice none 0 0)) rfl rfl 193 _ HZ.out HI.out rfl HO.out ?_))
  exact bodyPost_ret (results_row (p := 6) (by kernel_rfl) _ _ (bz + 1) 193 (t14 i n 5 c hi l (.slice none 0 0)) _ rfl (setRow_heap _ _ _ _ _ _ HZ.out) Tryz.underlying193 rfl HI.out) rfl ⟨rfl, (HD3.out.swap.boxRow _).boxDrop.boxDrop⟩
end
end Go.Proofs.YtdfcfdcekdmcmaaGreat
