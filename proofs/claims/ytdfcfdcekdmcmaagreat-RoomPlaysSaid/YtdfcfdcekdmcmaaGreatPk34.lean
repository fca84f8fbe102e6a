/-
  The document's world of layer 14: boxes of a call beside it; judge by contract. No condition but those that each theorem names.
-/
import Derived.Test.YtdfcfdcekdmcmaaGreatPk07
import Derived.Test.YtdfcfdcekdmcmaaGreatPk33
import Derived.BigQuiet
set_option linter.unusedVariables false
set_option linter.unusedSimpArgs false
namespace Go.Proofs.YtdfcfdcekdmcmaaGreat
open Go.RowKit
set_option linter.unusedVariables false
set_option linter.unusedSimpArgs false
section
variable {R R' : Rest} {W0 W w : World} {a : Nat} {cs : List Int} {st : Int} {d : Dw} {i p q : Nat} {x : Dr} {bx cx : Array Value} {U V : TypeId}
theorem Dm.le (h : Dm R W0 W a cs st d) (hl : R.le R') : Dm R' W0 W a cs st d := Mv.le h (lay_mono hl _)
theorem Dm.out (h : Dm (R.box W0.heap.size p bx U) W0 W a cs st d) : Mv ((lay W0.heap.size d.lys R).box W0.heap.size p bx U) W0 W a cs st := by
  refine Mv.le h ?_
  show (lay W0.heap.size d.lys (lay W0.heap.size [.box p bx U] R)).le (lay W0.heap.size (.box p bx U :: d.lys) R)
  rw [← lay_app]
  exact lay_perm (List.perm_append_singleton _ _)
theorem Dm.into (h : Mv ((lay W0.heap.size d.lys R).box W0.heap.size p bx U) W0 W a cs st) : Dm (R.box W0.heap.size p bx U) W0 W a cs st d := by
  refine Mv.le h ?_
  show (lay W0.heap.size (.box p bx U :: d.lys) R).le (lay W0.heap.size d.lys (lay W0.heap.size [.box p bx U] R))
  rw [← lay_app]
  exact lay_perm (List.perm_append_singleton _ _).symm
theorem Dm.boxNew (h : Dm R W0 W a cs st d) (bx : Array Value) (U : TypeId) : Dm (R.box W0.heap.size W.heap.size bx U) W0 (W.alloc (.cells bx U)) a cs st d := Dm.into (Mv.boxNew h bx U)
theorem Dm.boxIs (h : Dm (R.box W0.heap.size p bx U) W0 W a cs st d) : W.heap[p]? = some (.cells bx U (0, 0)) := h.out.boxIs
theorem Dm.boxDrop (h : Dm (R.box W0.heap.size p bx U) W0 W a cs st d) : Dm R W0 W a cs st d := h.out.boxDrop
theorem Dm.boxSet (h : Dm (R.box W0.heap.size p bx U) W0 W a cs st d) (j : Nat) (u : Value) : Dm (R.box W0.heap.size p (bx.setIfInBounds j u) U) W0 (W.setCell ⟨p, j, none⟩ u) a cs st d := Dm.into (h.out.boxSet j u)
theorem Dm.boxRow (h : Dm (R.box W0.heap.size p bx U) W0 W a cs st d) (cx : Array Value) : Dm (R.box W0.heap.size p cx U) W0 (W.setRow p cx) a cs st d := Dm.into (h.out.boxRow cx)
theorem Dm.swap (h : Dm ((R.box W0.heap.size p bx U).box W0.heap.size q cx V) W0 W a cs st d) : Dm ((R.box W0.heap.size q cx V).box W0.heap.size p bx U) W0 W a cs st d := h.le Rest.bb
theorem Dm.two (h : Dm R W0 W a cs st d) (bx cx : Array Value) (U V : TypeId) : Dm ((R.box W0.heap.size (W.heap.size + 1) cx V).box W0.heap.size W.heap.size bx U) W0 ((W.alloc (.cells bx U)).alloc (.cells cx V)) a cs st d := by
  have h1 := (h.boxNew bx U).boxNew cx V
  have e : (W.alloc (.cells bx U)).heap.size = W.heap.size + 1 := by simp
  rw [e] at h1
  exact h1.swap
structure Rd (w : World) (wb rb cap n i : Nat) (x : Dr) : Prop where
  k4 : w.cell? ⟨wb, 4, none⟩ = some (.slice (some ⟨rb, 0, none⟩) n cap)
  r0 : w.cell? ⟨rb, i * 9, none⟩ = some (.int .i64 (two x.k))
  r1 : w.cell? ⟨rb, i * 9 + 1, none⟩ = some (.bool x.many)
  r2 : w.cell? ⟨rb, i * 9 + 2, none⟩ = some (.int .i64 x.c)
  r3 : w.cell? ⟨rb, i * 9 + 3, none⟩ = some (.int .i64 x.p)
  r4 : w.cell? ⟨rb, i * 9 + 4, none⟩ = some (.int .i64 x.sn)
  r7 : w.cell? ⟨rb, i * 9 + 7, none⟩ = some (.slice none 0 0)
  r8 : w.cell? ⟨rb, i * 9 + 8, none⟩ = some x.wv
  f : ∀ j, w.frozen? ⟨rb, j, none⟩ = false
theorem Dm.rd' (h : Dm R W0 W a cs st d) (hx : d.L[i]? = some x) {rb cap n : Nat} (hv : d.rv = .slice (some ⟨rb, 0, none⟩) n cap) : Rd W d.wb rb cap n i x := by
  obtain ⟨rb', cap', hv', hc, hf⟩ := h.at hx
  rw [hv] at hv'
  injection hv' with e1 e2 e3
  simp only [Option.some.injEq, Addr.mk.injEq] at e1
  obtain ⟨rfl, _, _⟩ := e1
  have k4 : W.cell? ⟨d.wb, 4, none⟩ = some (.slice (some ⟨rb, 0, none⟩) n cap) := (obj_cell h.box 4).trans (by simp [Dw.cells, hv])
  exact ⟨k4, hc 0 _ rfl, hc 1 _ rfl, hc 2 _ rfl, hc 3 _ rfl, hc 4 _ rfl, hc 7 _ rfl, hc 8 _ rfl, hf⟩
theorem Dm.rd (h : Dm R W0 W a cs st d) (hx : d.L[i]? = some x) : ∃ rb cap, d.rv = .slice (some ⟨rb, 0, none⟩) d.L.length cap ∧ Rd W d.wb rb cap d.L.length i x := by
  obtain ⟨rb, cap, hv, _⟩ := h.at hx
  exact ⟨rb, cap, hv, h.rd' hx hv⟩
end
theorem t14_info (r n s c h l : Int) (v : Value) : (Tryz.prog.info? 193).map (·.size) = some (t14 r n s c h l v).size := by kernel_rfl
theorem t14_one (r n s c h l : Int) : (t14 r n s c h l (.slice none 0 0)).all (·.oneCell') = true := by
  rw [Array.all_eq_true_iff_forall_mem]
  intro y hy
  simp only [t14, List.mem_toArray, List.mem_cons, List.not_mem_nil, or_false] at hy
  rcases hy with rfl | rfl | rfl | rfl | rfl | rfl | rfl <;> rfl
structure Tc7 (w : World) (b : Nat) (r n s c h l : Int) : Prop where
  c0 : w.cell? ⟨b, 0, none⟩ = some (.int .i64 r)
  c1 : w.cell? ⟨b, 1, none⟩ = some (.int .i64 n)
  c2 : w.cell? ⟨b, 2, none⟩ = some (.int .i64 s)
  c3 : w.cell? ⟨b, 3, none⟩ = some (.int .i64 c)
  c4 : w.cell? ⟨b, 4, none⟩ = some (.int .i64 h)
  c5 : w.cell? ⟨b, 5, none⟩ = some (.int .i64 l)
  c6 : w.cell? ⟨b, 6, none⟩ = some (.slice none 0 0)
  f : ∀ j, w.frozen? ⟨b, j, none⟩ = false
theorem tc7 {w : World} {b : Nat} {r n s c h l : Int} {T : TypeId} (hb : w.heap[b]? = some (.cells (t14 r n s c h l (.slice none 0 0)) T (0, 0))) : Tc7 w b r n s c h l :=
  ⟨(obj_cell hb 0).trans rfl, (obj_cell hb 1).trans rfl, (obj_cell hb 2).trans rfl, (obj_cell hb 3).trans rfl, (obj_cell hb 4).trans rfl, (obj_cell hb 5).trans rfl, (obj_cell hb 6).trans rfl, fun j => obj_free hb j⟩
theorem bdrewN (w : World) (n : Nat) : Below w.heap.size w (w.drewN n) := ⟨rfl, rfl, rfl, Nat.le_refl _, fun _ _ => rfl⟩
section
variable {R R' : Rest} {W0 W w : World} {a : Nat} {cs : List Int} {st : Int} {d : Dw} {i p q : Nat} {x : Dr}
set_option maxHeartbeats 4000000 in
set_option maxRecDepth 100000 in
theorem djudge_many (h : Dm R W0 W a cs st d) (hx : d.L[i]? = some x) (hl8 : d.L.length ≤ 8) (hk : x.k ≤ 20) (hm : x.many = true) (n s c hi l : Int) (h1 : -1 ≤ hi) (h2 : hi ≤ 4611686018427387904) (h3 : ¬ l < hi - two x.k) :
    Calls Tryz.prog 143 #[.pointer (some ⟨d.wb, 0, none⟩), .agg (t14 i n s c hi l (.slice none 0 0))] W fun e w' => e = .returned (.agg (t14 i n 3 c hi l (.slice none 0 0))) ∧ Dm R W0 w' a cs st d := by
  obtain ⟨rb, cap, hv, -⟩ := h.rd hx
  have hil : i < d.L.length := (List.getElem?_eq_some_iff.1 hx).1
  have HX := Lib.hid hx
  have HI := Lib.hid (t14_info i n 3 c hi l (.slice none 0 0))
  have HO := Lib.hid (t14_one i n 3 c hi l)
  have b0 : (0 : Int) ≤ (i : Int) := by omega
  have b1 : (i : Int) < (d.L.length : Int) := by omega
  have hp := two_pos x.k
  have hp2 : two x.k ≤ 1048576 := two_le hk
  have d1 : decide (l < hi - two x.k) = false := decide_eq_false h3
  have HD := Lib.hid (h.two (t14 i n s c hi l (.slice none 0 0)) #[.int .i64 0, .int .i64 0, .int .i64 0, .int .i64 0, .int .i64 0, .int .i64 0, .slice none 0 0] 193 193)
  have HV := Lib.hid hv
  have HLEN : Hid (d.L.length ≤ 8) := Lib.hid hl8
  clear h hx
  go_enter Tryz.func143, Tryz.ntmps143
  go_upto_region 1 with fail
  generalize hX : World.alloc (World.alloc W (.cells _ 193)) (.cells _ 193) = X at *
  clear hX
  obtain ⟨k4, r0, r1, r2, r3, r4, r7, r8, rf⟩ := HD.out.rd' HX.out hv
  obtain ⟨c0, c1, c2, c3, c4, c5, c6, cf⟩ := tc7 HD.out.boxIs
  rw [hm] at r1
  clear hv hm c1 c3 c6 c2 r2 r3 r4 r7 r8
  generalize hbz : W.heap.size = bz at *
  generalize hNN : two x.k = NN at *
  go_quiet (fail)
  go_upto_region 2 with fail
  go_quiet (fail)
  go_upto_region 4 with fail
  generalize hX1 : World.drewN X _ = X1
  have HD1 := Lib.hid (HD.out.keep (hX1 ▸ bdrewN X _))
  clear hX1 k4 r0 r1 c0 c4 c5 rf cf HD
  have f2 := (tc7 HD1.out.boxIs).f 2
  have c2 := (tc7 HD1.out.boxIs).c2
  go_upto_region 9 with fail
  have HD2 := Lib.hid (HD1.out.boxSet 2 (.int .i64 3))
  rw [show (t14 i n s c hi l (.slice none 0 0)).setIfInBounds 2 (.int .i64 3) = t14 i n 3 c hi l (.slice none 0 0) from rfl] at HD2
  generalize World.setCell X1 _ _ = X2 at *
  clear f2 c2 HD1
  go_upto_region 11 with fail
  have HT := Lib.hid HD2.out.boxIs
  have HZ := Lib.hid HD2.out.swap.boxIs
  go_wp2_with (first
    | (refine wpList_load_row rfl 193 (.tmp 3) rfl bz rfl 193 (t14 i n 3 c hi l (.slice none 0 0)) (0, 0) _ HT.out Tryz.underlying193 rfl HI.out ?_)
    | (refine wpList_store_row rfl 193 (.tmp 4) (.tmp 44) rfl (bz + 1) (t14 i n 3 c hi l (.slice none 0 0)) rfl rfl 193 _ HZ.out HI.out rfl HO.out ?_))
  exact bodyPost_ret (results_row (p := 4) (by kernel_rfl) _ _ (bz + 1) 193 (t14 i n 3 c hi l (.slice none 0 0)) _ rfl (setRow_heap _ _ _ _ _ _ HZ.out) Tryz.underlying193 rfl HI.out) rfl ⟨rfl, (HD2.out.swap.boxRow _).boxDrop.boxDrop⟩
set_option maxHeartbeats 4000000 in
set_option maxRecDepth 100000 in
theorem djudge_full (h : Dm R W0 W a cs st d) (hx : d.L[i]? = some x) (hl8 : d.L.length ≤ 8) (hk : x.k ≤ 20) (hm : x.many = false) (n s c hi l : Int) (h1 : -1 ≤ hi) (h2 : hi ≤ 4611686018427387904) (h3 : l < hi - two x.k) :
    Calls Tryz.prog 143 #[.pointer (some ⟨d.wb, 0, none⟩), .agg (t14 i n s c hi l (.slice none 0 0))] W fun e w' => e = .returned (.agg (t14 i n 6 c hi l (.slice none 0 0))) ∧ Dm R W0 w' a cs st { d with L := d.L.set i { x with sn := l } } := by
  obtain ⟨rb, cap, hv, -⟩ := h.rd hx
  have hil : i < d.L.length := (List.getElem?_eq_some_iff.1 hx).1
  have HX := Lib.hid hx
  have HI := Lib.hid (t14_info i n 6 c hi l (.slice none 0 0))
  have HO := Lib.hid (t14_one i n 6 c hi l)
  have b0 : (0 : Int) ≤ (i : Int) := by omega
  have b1 : (i : Int) < (d.L.length : Int) := by omega
  have hp := two_pos x.k
  have hp2 : two x.k ≤ 1048576 := two_le hk
  have d1 : decide (l < hi - two x.k) = true := decide_eq_true h3
  have HD := Lib.hid (h.two (t14 i n s c hi l (.slice none 0 0)) #[.int .i64 0, .int .i64 0, .int .i64 0, .int .i64 0, .int .i64 0, .int .i64 0, .slice none 0 0] 193 193)
  have HV := Lib.hid hv
  have HV2 := Lib.hid hv
  have HLEN : Hid (d.L.length ≤ 8) := Lib.hid hl8
  clear h hx
  go_enter Tryz.func143, Tryz.ntmps143
  go_upto_region 1 with fail
  generalize hX : World.alloc (World.alloc W (.cells _ 193)) (.cells _ 193) = X at *
  clear hX
  obtain ⟨k4, r0, r1, r2, r3, r4, r7, r8, rf⟩ := HD.out.rd' HX.out hv
  obtain ⟨c0, c1, c2, c3, c4, c5, c6, cf⟩ := tc7 HD.out.boxIs
  rw [hm] at r1
  clear hv hm c1 c3 c6 c2 r2 r3 r4 r7 r8
  generalize hbz : W.heap.size = bz at *
  generalize hNN : two x.k = NN at *
  go_quiet (fail)
  go_upto_region 2 with fail
  go_quiet (fail)
  go_upto_region 5 with fail
  generalize hX1 : World.drewN X _ = X1
  have HD1 := Lib.hid (HD.out.keep (hX1 ▸ bdrewN X _))
  clear hX1 k4 r0 r1 c0 c4 c5 rf cf HD
  have c5 := (tc7 HD1.out.boxIs).c5
  obtain ⟨-, -, -, -, -, r4, -, -, rf⟩ := HD1.out.rd' HX.out HV.out
  have f4 := rf (i * 9 + 4)
  go_upto_region 6 with fail
  have HD2 := Lib.hid (HD1.out.set (u := .int .i64 l) (j := 4) (y := { x with sn := l }) HX.out HV2.out (by decide) rfl rfl)
  generalize World.setCell X1 _ _ = X2 at *
  clear c5 r4 rf f4 HD1
  have f2 := (tc7 HD2.out.boxIs).f 2
  have c2 := (tc7 HD2.out.boxIs).c2
  go_upto_region 7 with fail
  have HD3 := Lib.hid (HD2.out.boxSet 2 (.int .i64 5))
  rw [show (t14 i n s c hi l (.slice none 0 0)).setIfInBounds 2 (.int .i64 5) = t14 i n 5 c hi l (.slice none 0 0) from rfl] at HD3
  generalize World.setCell X2 _ _ = X3 at *
  clear f2 c2 HD2
  have f2 := (tc7 HD3.out.boxIs).f 2
  have c2 := (tc7 HD3.out.boxIs).c2
  go_upto_region 11 with fail
  have HD4 := Lib.hid (HD3.out.boxSet 2 (.int .i64 6))
  rw [show (t14 i n 5 c hi l (.slice none 0 0)).setIfInBounds 2 (.int .i64 6) = t14 i n 6 c hi l (.slice none 0 0) from rfl] at HD4
  generalize World.setCell X3 _ _ = X4 at *
  clear f2 c2 HD3
  have HT := Lib.hid HD4.out.boxIs
  have HZ := Lib.hid HD4.out.swap.boxIs
  go_wp2_with (first
    | (refine wpList_load_row rfl 193 (.tmp 3) rfl bz rfl 193 (t14 i n 6 c hi l (.slice none 0 0)) (0, 0) _ HT.out Tryz.underlying193 rfl HI.out ?_)
    | (refine wpList_store_row rfl 193 (.tmp 4) (.tmp 44) rfl (bz + 1) (t14 i n 6 c hi l (.slice none 0 0)) rfl rfl 193 _ HZ.out HI.out rfl HO.out ?_))
  exact bodyPost_ret (results_row (p := 4) (by kernel_rfl) _ _ (bz + 1) 193 (t14 i n 6 c hi l (.slice none 0 0)) _ rfl (setRow_heap _ _ _ _ _ _ HZ.out) Tryz.underlying193 rfl HI.out) rfl ⟨rfl, (HD4.out.swap.boxRow _).boxDrop.boxDrop⟩
set_option maxHeartbeats 4000000 in
set_option maxRecDepth 100000 in
theorem djudge_got (h : Dm R W0 W a cs st d) (hx : d.L[i]? = some x) (hl8 : d.L.length ≤ 8) (hk : x.k ≤ 20) (hm : x.many = false) (n s c hi l : Int) (h1 : -1 ≤ hi) (h2 : hi ≤ 4611686018427387904) (h3 : ¬ l < hi - two x.k) :
    Calls Tryz.prog 143 #[.pointer (some ⟨d.wb, 0, none⟩), .agg (t14 i n s c hi l (.slice none 0 0))] W fun e w' => e = .returned (.agg (t14 i n 5 c hi l (.slice none 0 0))) ∧ Dm R W0 w' a cs st { d with L := d.L.set i { x with sn := l, c := hi } } := by
  obtain ⟨rb, cap, hv, -⟩ := h.rd hx
  have hil : i < d.L.length := (List.getElem?_eq_some_iff.1 hx).1
  have HX := Lib.hid hx
  have HI := Lib.hid (t14_info i n 5 c hi l (.slice none 0 0))
  have HO := Lib.hid (t14_one i n 5 c hi l)
  have b0 : (0 : Int) ≤ (i : Int) := by omega
  have b1 : (i : Int) < (d.L.length : Int) := by omega
  have hp := two_pos x.k
  have hp2 : two x.k ≤ 1048576 := two_le hk
  have d1 : decide (l < hi - two x.k) = false := decide_eq_false h3
  have HD := Lib.hid (h.two (t14 i n s c hi l (.slice none 0 0)) #[.int .i64 0, .int .i64 0, .int .i64 0, .int .i64 0, .int .i64 0, .int .i64 0, .slice none 0 0] 193 193)
  have HV := Lib.hid hv
  have HV2 := Lib.hid hv
  have HV3 : Hid (({ d with L := d.L.set i { x with sn := l } } : Dw).rv = .slice (some ⟨rb, 0, none⟩) (d.L.set i { x with sn := l }).length cap) := Lib.hid (by rw [List.length_set]; exact hv)
  have HLEN : Hid (d.L.length ≤ 8) := Lib.hid hl8
  clear h hx
  go_enter Tryz.func143, Tryz.ntmps143
  go_upto_region 1 with fail
  generalize hX : World.alloc (World.alloc W (.cells _ 193)) (.cells _ 193) = X at *
  clear hX
  obtain ⟨k4, r0, r1, r2, r3, r4, r7, r8, rf⟩ := HD.out.rd' HX.out hv
  obtain ⟨c0, c1, c2, c3, c4, c5, c6, cf⟩ := tc7 HD.out.boxIs
  rw [hm] at r1
  clear hv hm c1 c3 c6 c2 r2 r3 r4 r7 r8
  generalize hbz : W.heap.size = bz at *
  generalize hNN : two x.k = NN at *
  go_quiet (fail)
  go_upto_region 2 with fail
  go_quiet (fail)
  go_upto_region 5 with fail
  generalize hX1 : World.drewN X _ = X1
  have HD1 := Lib.hid (HD.out.keep (hX1 ▸ bdrewN X _))
  clear hX1 k4 r0 r1 c0 c4 c5 rf cf HD
  have c5 := (tc7 HD1.out.boxIs).c5
  obtain ⟨-, -, -, -, -, r4, -, -, rf⟩ := HD1.out.rd' HX.out HV.out
  have f4 := rf (i * 9 + 4)
  go_upto_region 6 with fail
  have HD2 := Lib.hid (HD1.out.set (u := .int .i64 l) (j := 4) (y := { x with sn := l }) HX.out HV2.out (by decide) rfl rfl)
  generalize World.setCell X1 _ _ = X2 at *
  clear c5 r4 rf f4 HD1
  have f2 := (tc7 HD2.out.boxIs).f 2
  have c2 := (tc7 HD2.out.boxIs).c2
  go_upto_region 8 with fail
  have HD3 := Lib.hid (HD2.out.boxSet 2 (.int .i64 5))
  rw [show (t14 i n s c hi l (.slice none 0 0)).setIfInBounds 2 (.int .i64 5) = t14 i n 5 c hi l (.slice none 0 0) from rfl] at HD3
  generalize World.setCell X2 _ _ = X3 at *
  clear f2 c2 HD2
  have HX3 : Hid (({ d with L := d.L.set i { x with sn := l } } : Dw).L[i]? = some { x with sn := l }) := Lib.hid (List.getElem?_set_self (List.getElem?_eq_some_iff.1 HX.out).1)
  have c4 := (tc7 HD3.out.boxIs).c4
  obtain ⟨-, -, -, r2, -, -, -, -, rf⟩ := HD3.out.rd' HX3.out HV.out
  have f4 := rf (i * 9 + 2)
  go_upto_region 9 with fail
  have HD4 : Hid (Dm _ W0 _ a cs st { d with L := d.L.set i { x with sn := l, c := hi } }) := Lib.hid (by
    have := HD3.out.set (u := .int .i64 hi) (j := 2) (y := { x with sn := l, c := hi }) HX3.out HV3.out (by decide) rfl rfl
    simp only [List.set_set] at this
    exact this)
  generalize World.setCell X3 _ _ = X4 at *
  clear c4 r2 rf f4 HD3
  go_upto_region 11 with fail
  have HT := Lib.hid HD4.out.boxIs
  have HZ := Lib.hid HD4.out.swap.boxIs
  go_wp2_with (first
    | (refine wpList_load_row rfl 193 (.tmp 3) rfl bz rfl 193 (t14 i n 5 c hi l (.slice none 0 0)) (0, 0) _ HT.out Tryz.underlying193 rfl HI.out ?_)
    | (refine wpList_store_row rfl 193 (.tmp 4) (.tmp 44) rfl (bz + 1) (t14 i n 5 c hi l (.slice none 0 0)) rfl rfl 193 _ HZ.out HI.out rfl HO.out ?_))
  exact bodyPost_ret (results_row (p := 4) (by kernel_rfl) _ _ (bz + 1) 193 (t14 i n 5 c hi l (.slice none 0 0)) _ rfl (setRow_heap _ _ _ _ _ _ HZ.out) Tryz.underlying193 rfl HI.out) rfl ⟨rfl, (HD4.out.swap.boxRow _).boxDrop.boxDrop⟩
end
end Go.Proofs.YtdfcfdcekdmcmaaGreat
