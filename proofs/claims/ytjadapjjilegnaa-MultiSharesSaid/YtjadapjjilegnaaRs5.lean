/-
  The document's Step of layer 10 by contract: each way that doesn't judge. Conditions: the numbers are modest.
-/
import Derived.Test.YtjadapjjilegnaaRs1
import Derived.Test.YtjadapjjilegnaaTail
namespace Go.Proofs.Ytjadapjjilegnaa
open Go.RowKit
set_option linter.unusedVariables false

set_option maxHeartbeats 4000000 in
set_option maxRecDepth 100000 in
theorem rstep_2lj {W : World} (N c sn n d h l o : Int) (ps : Option Addr) (ng cg ns cs : Nat) (gb off j : Nat) (x : Int) (hN : 1 ≤ N ∧ N ≤ 1048576) (hh : -1 ≤ h ∧ h ≤ 4611686018427387904) (hj : j < ng) (hgm : ng ≤ 1000000) (hk : W.cell? ⟨gb, off + j, none⟩ = some (.int .i64 x)) (hx : x < l) (ho : (j : Int) + 1 = o) :
    Calls Try.prog 108 #[.agg (s10 N c (.slice (some ⟨gb, off, none⟩) ng cg) sn (.slice ps ns cs)), .agg (t10 n 2 d h l (j : Int) o)] W fun e w' => e = .returned (.tuple #[.agg (s10 N c (.slice (some ⟨gb, off, none⟩) ng cg) sn (.slice ps ns cs)), .agg (t10 n (judg N h (x)) (d) (h) (x) ((j : Int) + 1) (o)), .int .i64 0]) ∧ Below W.heap.size W w' := by
  have g0 : ((2 : Int) == 0) = false := rfl
  have d1 : decide (x < l) = true := decide_eq_true hx
  have d2 : ((j : Int) + 1 == o) = true := by simpa using ho
  clear ho
  go_enter Try.func108, Try.ntmps108
  go_upto_region 1 with fail
  generalize hX : World.alloc (World.alloc (World.alloc (W.alloc (.cells _ 125)) (.cells _ 169)) (.cells _ 125)) (.cells _ 169) = X at *
  have HA0 : Hid (B10 X W.heap.size (s10 N c (.slice (some ⟨gb, off, none⟩) ng cg) sn (.slice ps ns cs))) := hX ▸ Lib.hid (obj_old _ (obj_old _ (obj_old _ (obj_new W _))))
  have HT : Hid (X.heap[W.heap.size + 1]? = some (.cells (t10 n 2 d h l (j : Int) o) 169 (0, 0))) := hX ▸ Lib.hid (obj_old _ (obj_old _ (by have := obj_new (W.alloc (.cells (s10 N c (.slice (some ⟨gb, off, none⟩) ng cg) sn (.slice ps ns cs)) 125)) (.cells (t10 n 2 d h l (j : Int) o) 169); simpa using this)))
  have HZA : Hid (X.heap[W.heap.size + 1 + 1]? = some (.cells #[.int .i64 0, .int .i64 0, .int .i64 0, .slice none 0 0, .int .i64 0, .int .i64 0, .slice none 0 0] 125 (0, 0))) := hX ▸ Lib.hid (obj_old _ (by have := obj_new ((W.alloc (.cells (s10 N c (.slice (some ⟨gb, off, none⟩) ng cg) sn (.slice ps ns cs)) 125)).alloc (.cells (t10 n 2 d h l (j : Int) o) 169)) (.cells #[.int .i64 0, .int .i64 0, .int .i64 0, .slice none 0 0, .int .i64 0, .int .i64 0, .slice none 0 0] 125); simpa using this))
  have HZB : Hid (X.heap[W.heap.size + 1 + 1 + 1]? = some (.cells #[.int .i64 0, .int .i64 0, .int .i64 0, .int .i64 0, .int .i64 0, .int .i64 0, .int .i64 0] 169 (0, 0))) := hX ▸ Lib.hid (by have := obj_new (((W.alloc (.cells (s10 N c (.slice (some ⟨gb, off, none⟩) ng cg) sn (.slice ps ns cs)) 125)).alloc (.cells (t10 n 2 d h l (j : Int) o) 169)).alloc (.cells #[.int .i64 0, .int .i64 0, .int .i64 0, .slice none 0 0, .int .i64 0, .int .i64 0, .slice none 0 0] 125)) (.cells #[.int .i64 0, .int .i64 0, .int .i64 0, .int .i64 0, .int .i64 0, .int .i64 0, .int .i64 0] 169); simpa using this)
  have HB0 : Hid (Below W.heap.size W X) := hX ▸ Lib.hid (balloc (balloc (balloc (balloc (Below.refl _ _) _) _) _) _)
  have kg : X.cell? ⟨gb, off + j, none⟩ = some (.int .i64 x) := keepc HB0.out hk
  have bj0 : (0 : Int) ≤ (j : Int) := by omega
  have bj1 : (j : Int) < (ng : Int) := by omega
  clear hk
  clear hX
  have a0 : X.cell? ⟨W.heap.size, 0, none⟩ = some (.int .i64 (N)) := (obj_cell HA0.out 0).trans rfl
  have b0 : X.cell? ⟨W.heap.size + 1, 0, none⟩ = some (.int .i64 (n)) := (obj_cell HT.out 0).trans rfl
  have fa0 := obj_free HA0.out 0
  have fb0 := obj_free HT.out 0
  have a1 : X.cell? ⟨W.heap.size, 1, none⟩ = some (.int .i64 (c)) := (obj_cell HA0.out 1).trans rfl
  have b1 : X.cell? ⟨W.heap.size + 1, 1, none⟩ = some (.int .i64 (2)) := (obj_cell HT.out 1).trans rfl
  have fa1 := obj_free HA0.out 1
  have fb1 := obj_free HT.out 1
  have a2 : X.cell? ⟨W.heap.size, 2, none⟩ = some (.int .i64 (c)) := (obj_cell HA0.out 2).trans rfl
  have b2 : X.cell? ⟨W.heap.size + 1, 2, none⟩ = some (.int .i64 (d)) := (obj_cell HT.out 2).trans rfl
  have fa2 := obj_free HA0.out 2
  have fb2 := obj_free HT.out 2
  have a3 : X.cell? ⟨W.heap.size, 3, none⟩ = some (.slice (some ⟨gb, off, none⟩) ng cg) := (obj_cell HA0.out 3).trans rfl
  have b3 : X.cell? ⟨W.heap.size + 1, 3, none⟩ = some (.int .i64 (h)) := (obj_cell HT.out 3).trans rfl
  have fa3 := obj_free HA0.out 3
  have fb3 := obj_free HT.out 3
  have a4 : X.cell? ⟨W.heap.size, 4, none⟩ = some (.int .i64 (sn)) := (obj_cell HA0.out 4).trans rfl
  have b4 : X.cell? ⟨W.heap.size + 1, 4, none⟩ = some (.int .i64 (l)) := (obj_cell HT.out 4).trans rfl
  have fa4 := obj_free HA0.out 4
  have fb4 := obj_free HT.out 4
  have a5 : X.cell? ⟨W.heap.size, 5, none⟩ = some (.int .i64 0) := (obj_cell HA0.out 5).trans rfl
  have b5 : X.cell? ⟨W.heap.size + 1, 5, none⟩ = some (.int .i64 ((j : Int))) := (obj_cell HT.out 5).trans rfl
  have fa5 := obj_free HA0.out 5
  have fb5 := obj_free HT.out 5
  have a6 : X.cell? ⟨W.heap.size, 6, none⟩ = some (.slice ps ns cs) := (obj_cell HA0.out 6).trans rfl
  have b6 : X.cell? ⟨W.heap.size + 1, 6, none⟩ = some (.int .i64 (o)) := (obj_cell HT.out 6).trans rfl
  have fa6 := obj_free HA0.out 6
  have fb6 := obj_free HT.out 6
  have HEP : Hid (∀ y, y = (((X).setCell ⟨W.heap.size + 1, 4, none⟩ (.int .i64 (x))).setCell ⟨W.heap.size + 1, 5, none⟩ (.int .i64 ((j : Int) + 1))).drew → y.heap[W.heap.size]? = some (.cells (s10 N c (.slice (some ⟨gb, off, none⟩) ng cg) sn (.slice ps ns cs)) 125 (0, 0)) ∧ y.heap[W.heap.size + 1]? = some (.cells (t10 n 2 (d) (h) (x) ((j : Int) + 1) (o)) 169 (0, 0)) ∧ y.heap[W.heap.size + 1 + 1]? = some (.cells #[.int .i64 0, .int .i64 0, .int .i64 0, .slice none 0 0, .int .i64 0, .int .i64 0, .slice none 0 0] 125 (0, 0)) ∧ y.heap[W.heap.size + 1 + 1 + 1]? = some (.cells #[.int .i64 0, .int .i64 0, .int .i64 0, .int .i64 0, .int .i64 0, .int .i64 0, .int .i64 0] 169 (0, 0)) ∧ Below W.heap.size W y) := Lib.hid (by
    rintro y rfl
    simp only [show ∀ w : World, w.drew.heap = w.heap from fun _ => rfl]
    have hS := ((heap_setCell_other _ ⟨W.heap.size + 1, 5, none⟩ (W.heap.size) (.int .i64 ((j : Int) + 1)) (by simp <;> omega)).trans ((heap_setCell_other _ ⟨W.heap.size + 1, 4, none⟩ (W.heap.size) (.int .i64 (x)) (by simp <;> omega)).trans HA0.out))
    have hT := (obj_setCell (i := 5) (.int .i64 ((j : Int) + 1)) (obj_setCell (i := 4) (.int .i64 (x)) HT.out))
    have hP := ((heap_setCell_other _ ⟨W.heap.size + 1, 5, none⟩ (W.heap.size + 1 + 1) (.int .i64 ((j : Int) + 1)) (by simp <;> omega)).trans ((heap_setCell_other _ ⟨W.heap.size + 1, 4, none⟩ (W.heap.size + 1 + 1) (.int .i64 (x)) (by simp <;> omega)).trans HZA.out))
    have hQ := ((heap_setCell_other _ ⟨W.heap.size + 1, 5, none⟩ (W.heap.size + 1 + 1 + 1) (.int .i64 ((j : Int) + 1)) (by simp <;> omega)).trans ((heap_setCell_other _ ⟨W.heap.size + 1, 4, none⟩ (W.heap.size + 1 + 1 + 1) (.int .i64 (x)) (by simp <;> omega)).trans HZB.out))
    exact ⟨by simpa [s10] using hS, by simpa [t10] using hT, hP, hQ, Below.drew (bset (bset HB0.out 4 _ _ (by omega)) 5 _ _ (by omega))⟩)
  go_upto_region 16 with fail
  go_region
  go_wp2_with fail
  generalize hY0 : World.drew _ = Y0
  obtain ⟨y1, y2, y3, y4, y5⟩ := HEP.out Y0 hY0.symm
  have HA1 := Lib.hid y1
  have HT1 := Lib.hid y2
  have HZA1 := Lib.hid y3
  have HZB1 := Lib.hid y4
  have HB1 := Lib.hid y5
  clear hY0 y1 y2 y3 y4 y5 HEP HA0 HT HZA HZB HB0 a0 b0 fa0 fb0 a1 b1 fa1 fb1 a2 b2 fa2 fb2 a3 b3 fa3 fb3 a4 b4 fa4 fb4 a5 b5 fa5 fb5 a6 b6 fa6 fb6
  have a0 : Y0.cell? ⟨W.heap.size, 0, none⟩ = some (.int .i64 (N)) := (obj_cell HA1.out 0).trans rfl
  have b0 : Y0.cell? ⟨W.heap.size + 1, 0, none⟩ = some (.int .i64 (n)) := (obj_cell HT1.out 0).trans rfl
  have p0 : Y0.cell? ⟨W.heap.size + 1 + 1, 0, none⟩ = some (.int .i64 0) := (obj_cell HZA1.out 0).trans rfl
  have q0 : Y0.cell? ⟨W.heap.size + 1 + 1 + 1, 0, none⟩ = some (.int .i64 0) := (obj_cell HZB1.out 0).trans rfl
  have fp0 := obj_free HZA1.out 0
  have fq0 := obj_free HZB1.out 0
  have a1 : Y0.cell? ⟨W.heap.size, 1, none⟩ = some (.int .i64 (c)) := (obj_cell HA1.out 1).trans rfl
  have b1 : Y0.cell? ⟨W.heap.size + 1, 1, none⟩ = some (.int .i64 2) := (obj_cell HT1.out 1).trans rfl
  have p1 : Y0.cell? ⟨W.heap.size + 1 + 1, 1, none⟩ = some (.int .i64 0) := (obj_cell HZA1.out 1).trans rfl
  have q1 : Y0.cell? ⟨W.heap.size + 1 + 1 + 1, 1, none⟩ = some (.int .i64 0) := (obj_cell HZB1.out 1).trans rfl
  have fp1 := obj_free HZA1.out 1
  have fq1 := obj_free HZB1.out 1
  have a2 : Y0.cell? ⟨W.heap.size, 2, none⟩ = some (.int .i64 (c)) := (obj_cell HA1.out 2).trans rfl
  have b2 : Y0.cell? ⟨W.heap.size + 1, 2, none⟩ = some (.int .i64 (d)) := (obj_cell HT1.out 2).trans rfl
  have p2 : Y0.cell? ⟨W.heap.size + 1 + 1, 2, none⟩ = some (.int .i64 0) := (obj_cell HZA1.out 2).trans rfl
  have q2 : Y0.cell? ⟨W.heap.size + 1 + 1 + 1, 2, none⟩ = some (.int .i64 0) := (obj_cell HZB1.out 2).trans rfl
  have fp2 := obj_free HZA1.out 2
  have fq2 := obj_free HZB1.out 2
  have a3 : Y0.cell? ⟨W.heap.size, 3, none⟩ = some (.slice (some ⟨gb, off, none⟩) ng cg) := (obj_cell HA1.out 3).trans rfl
  have b3 : Y0.cell? ⟨W.heap.size + 1, 3, none⟩ = some (.int .i64 (h)) := (obj_cell HT1.out 3).trans rfl
  have p3 : Y0.cell? ⟨W.heap.size + 1 + 1, 3, none⟩ = some (.slice none 0 0) := (obj_cell HZA1.out 3).trans rfl
  have q3 : Y0.cell? ⟨W.heap.size + 1 + 1 + 1, 3, none⟩ = some (.int .i64 0) := (obj_cell HZB1.out 3).trans rfl
  have fp3 := obj_free HZA1.out 3
  have fq3 := obj_free HZB1.out 3
  have a4 : Y0.cell? ⟨W.heap.size, 4, none⟩ = some (.int .i64 (sn)) := (obj_cell HA1.out 4).trans rfl
  have b4 : Y0.cell? ⟨W.heap.size + 1, 4, none⟩ = some (.int .i64 (x)) := (obj_cell HT1.out 4).trans rfl
  have p4 : Y0.cell? ⟨W.heap.size + 1 + 1, 4, none⟩ = some (.int .i64 0) := (obj_cell HZA1.out 4).trans rfl
  have q4 : Y0.cell? ⟨W.heap.size + 1 + 1 + 1, 4, none⟩ = some (.int .i64 0) := (obj_cell HZB1.out 4).trans rfl
  have fp4 := obj_free HZA1.out 4
  have fq4 := obj_free HZB1.out 4
  have a5 : Y0.cell? ⟨W.heap.size, 5, none⟩ = some (.int .i64 0) := (obj_cell HA1.out 5).trans rfl
  have b5 : Y0.cell? ⟨W.heap.size + 1, 5, none⟩ = some (.int .i64 ((j : Int) + 1)) := (obj_cell HT1.out 5).trans rfl
  have p5 : Y0.cell? ⟨W.heap.size + 1 + 1, 5, none⟩ = some (.int .i64 0) := (obj_cell HZA1.out 5).trans rfl
  have q5 : Y0.cell? ⟨W.heap.size + 1 + 1 + 1, 5, none⟩ = some (.int .i64 0) := (obj_cell HZB1.out 5).trans rfl
  have fp5 := obj_free HZA1.out 5
  have fq5 := obj_free HZB1.out 5
  have a6 : Y0.cell? ⟨W.heap.size, 6, none⟩ = some (.slice ps ns cs) := (obj_cell HA1.out 6).trans rfl
  have b6 : Y0.cell? ⟨W.heap.size + 1, 6, none⟩ = some (.int .i64 (o)) := (obj_cell HT1.out 6).trans rfl
  have p6 : Y0.cell? ⟨W.heap.size + 1 + 1, 6, none⟩ = some (.slice none 0 0) := (obj_cell HZA1.out 6).trans rfl
  have q6 : Y0.cell? ⟨W.heap.size + 1 + 1 + 1, 6, none⟩ = some (.int .i64 0) := (obj_cell HZB1.out 6).trans rfl
  have fp6 := obj_free HZA1.out 6
  have fq6 := obj_free HZB1.out 6
  have HI := Lib.hid (s10_info N (c) (.slice (some ⟨gb, off, none⟩) ng cg) (sn) (.slice ps ns cs))
  have HI1 := Lib.hid (s10_one (N := N) (c := c) (sn := sn) (gv := .slice (some ⟨gb, off, none⟩) ng cg) (sv := .slice ps ns cs) rfl rfl)
  have HJ0 := Lib.hid (t10_info n 2 (d) (h) (x) ((j : Int) + 1) (o))
  have HJ := Lib.hid (t10_info n (judg N h (x)) (d) (h) (x) ((j : Int) + 1) (o))
  have HJ1 := Lib.hid (t10_one n (judg N h (x)) (d) (h) (x) ((j : Int) + 1) (o))
  have HLA : Hid (∀ w, (∃ x : Later Y0, w = x.to) → w.heap[W.heap.size]? = some (.cells (s10 N c (.slice (some ⟨gb, off, none⟩) ng cg) sn (.slice ps ns cs)) 125 (0, 0))) := Lib.hid (fun w ⟨x, hx⟩ => hx ▸ (x.below.block _ (lt_of_block HA1.out)).trans HA1.out)
  have HLT : Hid (∀ w, (∃ x : Later Y0, w = x.to) → w.heap[W.heap.size + 1]? = some (.cells (t10 n 2 (d) (h) (x) ((j : Int) + 1) (o)) 169 (0, 0))) := Lib.hid (fun w ⟨x, hx⟩ => hx ▸ (x.below.block _ (lt_of_block HT1.out)).trans HT1.out)
  have HJQ : Hid (∀ xx : Later Y0, Calls Try.prog 155 #[.agg (s10 N c (.slice (some ⟨gb, off, none⟩) ng cg) sn (.slice ps ns cs)), .agg (t10 n 2 (d) (h) (x) ((j : Int) + 1) (o))] xx.to fun e w'' => e = .returned (.agg (t10 n (judg N h (x)) (d) (h) (x) ((j : Int) + 1) (o))) ∧ ∃ y : Later Y0, w'' = y.to) := Lib.hid fun xx => (rjudge10 N c sn n 2 _ h _ _ _ _ _ hN ⟨hh.1, by omega⟩).mono fun e w k => ⟨k.1, ⟨w, bthen xx.below k.2⟩, rfl⟩
  have HZ2 : Hid (∀ w, Below Y0.heap.size Y0 w → w.heap[W.heap.size + 1 + 1]? = Y0.heap[W.heap.size + 1 + 1]? ∧ w.heap[W.heap.size + 1 + 1 + 1]? = Y0.heap[W.heap.size + 1 + 1 + 1]?) := Lib.hid fun w hb => ⟨hb.block _ (lt_of_block HZA1.out), hb.block _ (lt_of_block HZB1.out)⟩
  clear a0 b0 p0 q0 fp0 fq0 a1 b1 p1 q1 fp1 fq1 a2 b2 p2 q2 fp2 fq2 a3 b3 p3 q3 fp3 fq3 a4 b4 p4 q4 fp4 fq4 a5 b5 p5 q5 fp5 fq5 a6 b6 p6 q6 fp6 fq6
  generalize hCS : s10 N c (.slice (some ⟨gb, off, none⟩) ng cg) sn (.slice ps ns cs) = cS at *
  generalize hCT : t10 n 2 (d) (h) (x) ((j : Int) + 1) (o) = cT at *
  generalize hCR : t10 n (judg N h (x)) (d) (h) (x) ((j : Int) + 1) (o) = cR at *
  have HCS := Lib.hid hCS
  have HCR := Lib.hid hCR
  clear hCS hCT hCR
  have hsz : Hid (cS.size = 7 ∧ cR.size = 7) := Lib.hid (by rw [← HCS.out, ← HCR.out]; exact ⟨rfl, rfl⟩)
  refine wp_region_later_tail 4 (by kernel_rfl) (by kernel_rfl) ?_
  simp only [List.take_succ_cons, List.take_zero, List.drop_succ_cons, List.drop_zero]
  repeat (first
    | (go_big_quiet_want; refine quiet_load_row 125 (.tmp 2) rfl W.heap.size rfl 125 cS (0, 0) _ HLA.out Try.underlying125 rfl HI.out ?_; go_big_quiet_on; go_frame)
    | (go_big_quiet_want; refine quiet_load_row 169 (.tmp 3) rfl (W.heap.size + 1) rfl 169 cT (0, 0) _ HLT.out Try.underlying169 rfl HJ0.out ?_; go_big_quiet_on; go_frame)
    | go_big_quiet_step ((go_at_call 155; exact HJQ.out _)))
  refine wpQuiet_nil ?_
  intro w2 hw'
  obtain ⟨⟨w2', hb2⟩, hw2⟩ := hw'
  obtain rfl : w2 = w2' := hw2
  have HP2 := Lib.hid ((HZ2.out w2 hb2).1.trans HZA1.out)
  have HQ2 := Lib.hid ((HZ2.out w2 hb2).2.trans HZB1.out)
  have HQ3 := Lib.hid (((Frm.refl (fun k => k = W.heap.size + 1 + 1) w2).setRow (g := W.heap.size + 1 + 1) rfl cS).obj HQ2.out (by omega))
  have HB2 := Lib.hid (bthen HB1.out hb2)
  have HP3 : Hid ((w2.setRow (W.heap.size + 1 + 1) cS).heap[W.heap.size + 1 + 1]? = some (.cells cS 125 (0, 0))) := Lib.hid (setRow_heap _ _ _ _ _ _ HP2.out)
  have HP4 := Lib.hid (((Frm.refl (fun k => k = W.heap.size + 1 + 1 + 1) (w2.setRow (W.heap.size + 1 + 1) cS)).setRow (g := W.heap.size + 1 + 1 + 1) rfl cR).obj HP3.out (by omega))
  have HQ4 : Hid (((w2.setRow (W.heap.size + 1 + 1) cS).setRow (W.heap.size + 1 + 1 + 1) cR).heap[W.heap.size + 1 + 1 + 1]? = some (.cells cR 169 (0, 0))) := Lib.hid (setRow_heap _ _ _ _ _ _ HQ3.out)
  have HB4 := Lib.hid (bsetRow (bsetRow HB2.out (show W.heap.size ≤ W.heap.size + 1 + 1 by omega) cS) (show W.heap.size ≤ W.heap.size + 1 + 1 + 1 by omega) cR)
  clear hb2
  go_wp2_with (first
    | (refine wpList_store_row rfl 125 (.tmp 4) (.tmp 100) rfl (W.heap.size + 1 + 1) cS rfl rfl 125 _ HP2.out HI.out (by rw [hsz.out.1]; rfl) HI1.out ?_)
    | (refine wpList_store_row rfl 169 (.tmp 5) (.tmp 103) rfl (W.heap.size + 1 + 1 + 1) cR rfl rfl 169 _ HQ3.out HJ.out (by rw [hsz.out.2]; rfl) HJ1.out ?_))
  exact bodyPost_ret (results_rows_tmp (p := 4) (q := 5) (u := 6) (by kernel_rfl) _ _ (W.heap.size + 1 + 1) (W.heap.size + 1 + 1 + 1) 125 169 _ _ (0, 0) (0, 0) _ _ _ rfl rfl rfl HP4.out HQ4.out Try.underlying125 rfl HI.out Try.underlying169 rfl HJ.out) rfl ⟨by rw [← HCS.out, ← HCR.out]; rfl, HB4.out⟩

set_option maxHeartbeats 4000000 in
set_option maxRecDepth 100000 in
theorem rstep_2gj {W : World} (N c sn n d h l o : Int) (ps : Option Addr) (ng cg ns cs : Nat) (gb off j : Nat) (x : Int) (hN : 1 ≤ N ∧ N ≤ 1048576) (hh : -1 ≤ h ∧ h ≤ 4611686018427387904) (hj : j < ng) (hgm : ng ≤ 1000000) (hk : W.cell? ⟨gb, off + j, none⟩ = some (.int .i64 x)) (hx : ¬ x < l) (ho : (j : Int) + 1 = o) :
    Calls Try.prog 108 #[.agg (s10 N c (.slice (some ⟨gb, off, none⟩) ng cg) sn (.slice ps ns cs)), .agg (t10 n 2 d h l (j : Int) o)] W fun e w' => e = .returned (.tuple #[.agg (s10 N c (.slice (some ⟨gb, off, none⟩) ng cg) sn (.slice ps ns cs)), .agg (t10 n (judg N h (l)) (d) (h) (l) ((j : Int) + 1) (o)), .int .i64 0]) ∧ Below W.heap.size W w' := by
  have g0 : ((2 : Int) == 0) = false := rfl
  have d1 : decide (x < l) = false := decide_eq_false hx
  have d2 : ((j : Int) + 1 == o) = true := by simpa using ho
  clear ho
  go_enter Try.func108, Try.ntmps108
  go_upto_region 1 with fail
  generalize hX : World.alloc (World.alloc (World.alloc (W.alloc (.cells _ 125)) (.cells _ 169)) (.cells _ 125)) (.cells _ 169) = X at *
  have HA0 : Hid (B10 X W.heap.size (s10 N c (.slice (some ⟨gb, off, none⟩) ng cg) sn (.slice ps ns cs))) := hX ▸ Lib.hid (obj_old _ (obj_old _ (obj_old _ (obj_new W _))))
  have HT : Hid (X.heap[W.heap.size + 1]? = some (.cells (t10 n 2 d h l (j : Int) o) 169 (0, 0))) := hX ▸ Lib.hid (obj_old _ (obj_old _ (by have := obj_new (W.alloc (.cells (s10 N c (.slice (some ⟨gb, off, none⟩) ng cg) sn (.slice ps ns cs)) 125)) (.cells (t10 n 2 d h l (j : Int) o) 169); simpa using this)))
  have HZA : Hid (X.heap[W.heap.size + 1 + 1]? = some (.cells #[.int .i64 0, .int .i64 0, .int .i64 0, .slice none 0 0, .int .i64 0, .int .i64 0, .slice none 0 0] 125 (0, 0))) := hX ▸ Lib.hid (obj_old _ (by have := obj_new ((W.alloc (.cells (s10 N c (.slice (some ⟨gb, off, none⟩) ng cg) sn (.slice ps ns cs)) 125)).alloc (.cells (t10 n 2 d h l (j : Int) o) 169)) (.cells #[.int .i64 0, .int .i64 0, .int .i64 0, .slice none 0 0, .int .i64 0, .int .i64 0, .slice none 0 0] 125); simpa using this))
  have HZB : Hid (X.heap[W.heap.size + 1 + 1 + 1]? = some (.cells #[.int .i64 0, .int .i64 0, .int .i64 0, .int .i64 0, .int .i64 0, .int .i64 0, .int .i64 0] 169 (0, 0))) := hX ▸ Lib.hid (by have := obj_new (((W.alloc (.cells (s10 N c (.slice (some ⟨gb, off, none⟩) ng cg) sn (.slice ps ns cs)) 125)).alloc (.cells (t10 n 2 d h l (j : Int) o) 169)).alloc (.cells #[.int .i64 0, .int .i64 0, .int .i64 0, .slice none 0 0, .int .i64 0, .int .i64 0, .slice none 0 0] 125)) (.cells #[.int .i64 0, .int .i64 0, .int .i64 0, .int .i64 0, .int .i64 0, .int .i64 0, .int .i64 0] 169); simpa using this)
  have HB0 : Hid (Below W.heap.size W X) := hX ▸ Lib.hid (balloc (balloc (balloc (balloc (Below.refl _ _) _) _) _) _)
  have kg : X.cell? ⟨gb, off + j, none⟩ = some (.int .i64 x) := keepc HB0.out hk
  have bj0 : (0 : Int) ≤ (j : Int) := by omega
  have bj1 : (j : Int) < (ng : Int) := by omega
  clear hk
  clear hX
  have a0 : X.cell? ⟨W.heap.size, 0, none⟩ = some (.int .i64 (N)) := (obj_cell HA0.out 0).trans rfl
  have b0 : X.cell? ⟨W.heap.size + 1, 0, none⟩ = some (.int .i64 (n)) := (obj_cell HT.out 0).trans rfl
  have fa0 := obj_free HA0.out 0
  have fb0 := obj_free HT.out 0
  have a1 : X.cell? ⟨W.heap.size, 1, none⟩ = some (.int .i64 (c)) := (obj_cell HA0.out 1).trans rfl
  have b1 : X.cell? ⟨W.heap.size + 1, 1, none⟩ = some (.int .i64 (2)) := (obj_cell HT.out 1).trans rfl
  have fa1 := obj_free HA0.out 1
  have fb1 := obj_free HT.out 1
  have a2 : X.cell? ⟨W.heap.size, 2, none⟩ = some (.int .i64 (c)) := (obj_cell HA0.out 2).trans rfl
  have b2 : X.cell? ⟨W.heap.size + 1, 2, none⟩ = some (.int .i64 (d)) := (obj_cell HT.out 2).trans rfl
  have fa2 := obj_free HA0.out 2
  have fb2 := obj_free HT.out 2
  have a3 : X.cell? ⟨W.heap.size, 3, none⟩ = some (.slice (some ⟨gb, off, none⟩) ng cg) := (obj_cell HA0.out 3).trans rfl
  have b3 : X.cell? ⟨W.heap.size + 1, 3, none⟩ = some (.int .i64 (h)) := (obj_cell HT.out 3).trans rfl
  have fa3 := obj_free HA0.out 3
  have fb3 := obj_free HT.out 3
  have a4 : X.cell? ⟨W.heap.size, 4, none⟩ = some (.int .i64 (sn)) := (obj_cell HA0.out 4).trans rfl
  have b4 : X.cell? ⟨W.heap.size + 1, 4, none⟩ = some (.int .i64 (l)) := (obj_cell HT.out 4).trans rfl
  have fa4 := obj_free HA0.out 4
  have fb4 := obj_free HT.out 4
  have a5 : X.cell? ⟨W.heap.size, 5, none⟩ = some (.int .i64 0) := (obj_cell HA0.out 5).trans rfl
  have b5 : X.cell? ⟨W.heap.size + 1, 5, none⟩ = some (.int .i64 ((j : Int))) := (obj_cell HT.out 5).trans rfl
  have fa5 := obj_free HA0.out 5
  have fb5 := obj_free HT.out 5
  have a6 : X.cell? ⟨W.heap.size, 6, none⟩ = some (.slice ps ns cs) := (obj_cell HA0.out 6).trans rfl
  have b6 : X.cell? ⟨W.heap.size + 1, 6, none⟩ = some (.int .i64 (o)) := (obj_cell HT.out 6).trans rfl
  have fa6 := obj_free HA0.out 6
  have fb6 := obj_free HT.out 6
  have HEP : Hid (∀ y, y = ((X).setCell ⟨W.heap.size + 1, 5, none⟩ (.int .i64 ((j : Int) + 1))).drew → y.heap[W.heap.size]? = some (.cells (s10 N c (.slice (some ⟨gb, off, none⟩) ng cg) sn (.slice ps ns cs)) 125 (0, 0)) ∧ y.heap[W.heap.size + 1]? = some (.cells (t10 n 2 (d) (h) (l) ((j : Int) + 1) (o)) 169 (0, 0)) ∧ y.heap[W.heap.size + 1 + 1]? = some (.cells #[.int .i64 0, .int .i64 0, .int .i64 0, .slice none 0 0, .int .i64 0, .int .i64 0, .slice none 0 0] 125 (0, 0)) ∧ y.heap[W.heap.size + 1 + 1 + 1]? = some (.cells #[.int .i64 0, .int .i64 0, .int .i64 0, .int .i64 0, .int .i64 0, .int .i64 0, .int .i64 0] 169 (0, 0)) ∧ Below W.heap.size W y) := Lib.hid (by
    rintro y rfl
    simp only [show ∀ w : World, w.drew.heap = w.heap from fun _ => rfl]
    have hS := ((heap_setCell_other _ ⟨W.heap.size + 1, 5, none⟩ (W.heap.size) (.int .i64 ((j : Int) + 1)) (by simp <;> omega)).trans HA0.out)
    have hT := (obj_setCell (i := 5) (.int .i64 ((j : Int) + 1)) HT.out)
    have hP := ((heap_setCell_other _ ⟨W.heap.size + 1, 5, none⟩ (W.heap.size + 1 + 1) (.int .i64 ((j : Int) + 1)) (by simp <;> omega)).trans HZA.out)
    have hQ := ((heap_setCell_other _ ⟨W.heap.size + 1, 5, none⟩ (W.heap.size + 1 + 1 + 1) (.int .i64 ((j : Int) + 1)) (by simp <;> omega)).trans HZB.out)
    exact ⟨by simpa [s10] using hS, by simpa [t10] using hT, hP, hQ, Below.drew (bset HB0.out 5 _ _ (by omega))⟩)
  go_upto_region 16 with fail
  go_region
  go_wp2_with fail
  generalize hY0 : World.drew _ = Y0
  obtain ⟨y1, y2, y3, y4, y5⟩ := HEP.out Y0 hY0.symm
  have HA1 := Lib.hid y1
  have HT1 := Lib.hid y2
  have HZA1 := Lib.hid y3
  have HZB1 := Lib.hid y4
  have HB1 := Lib.hid y5
  clear hY0 y1 y2 y3 y4 y5 HEP HA0 HT HZA HZB HB0 a0 b0 fa0 fb0 a1 b1 fa1 fb1 a2 b2 fa2 fb2 a3 b3 fa3 fb3 a4 b4 fa4 fb4 a5 b5 fa5 fb5 a6 b6 fa6 fb6
  have a0 : Y0.cell? ⟨W.heap.size, 0, none⟩ = some (.int .i64 (N)) := (obj_cell HA1.out 0).trans rfl
  have b0 : Y0.cell? ⟨W.heap.size + 1, 0, none⟩ = some (.int .i64 (n)) := (obj_cell HT1.out 0).trans rfl
  have p0 : Y0.cell? ⟨W.heap.size + 1 + 1, 0, none⟩ = some (.int .i64 0) := (obj_cell HZA1.out 0).trans rfl
  have q0 : Y0.cell? ⟨W.heap.size + 1 + 1 + 1, 0, none⟩ = some (.int .i64 0) := (obj_cell HZB1.out 0).trans rfl
  have fp0 := obj_free HZA1.out 0
  have fq0 := obj_free HZB1.out 0
  have a1 : Y0.cell? ⟨W.heap.size, 1, none⟩ = some (.int .i64 (c)) := (obj_cell HA1.out 1).trans rfl
  have b1 : Y0.cell? ⟨W.heap.size + 1, 1, none⟩ = some (.int .i64 2) := (obj_cell HT1.out 1).trans rfl
  have p1 : Y0.cell? ⟨W.heap.size + 1 + 1, 1, none⟩ = some (.int .i64 0) := (obj_cell HZA1.out 1).trans rfl
  have q1 : Y0.cell? ⟨W.heap.size + 1 + 1 + 1, 1, none⟩ = some (.int .i64 0) := (obj_cell HZB1.out 1).trans rfl
  have fp1 := obj_free HZA1.out 1
  have fq1 := obj_free HZB1.out 1
  have a2 : Y0.cell? ⟨W.heap.size, 2, none⟩ = some (.int .i64 (c)) := (obj_cell HA1.out 2).trans rfl
  have b2 : Y0.cell? ⟨W.heap.size + 1, 2, none⟩ = some (.int .i64 (d)) := (obj_cell HT1.out 2).trans rfl
  have p2 : Y0.cell? ⟨W.heap.size + 1 + 1, 2, none⟩ = some (.int .i64 0) := (obj_cell HZA1.out 2).trans rfl
  have q2 : Y0.cell? ⟨W.heap.size + 1 + 1 + 1, 2, none⟩ = some (.int .i64 0) := (obj_cell HZB1.out 2).trans rfl
  have fp2 := obj_free HZA1.out 2
  have fq2 := obj_free HZB1.out 2
  have a3 : Y0.cell? ⟨W.heap.size, 3, none⟩ = some (.slice (some ⟨gb, off, none⟩) ng cg) := (obj_cell HA1.out 3).trans rfl
  have b3 : Y0.cell? ⟨W.heap.size + 1, 3, none⟩ = some (.int .i64 (h)) := (obj_cell HT1.out 3).trans rfl
  have p3 : Y0.cell? ⟨W.heap.size + 1 + 1, 3, none⟩ = some (.slice none 0 0) := (obj_cell HZA1.out 3).trans rfl
  have q3 : Y0.cell? ⟨W.heap.size + 1 + 1 + 1, 3, none⟩ = some (.int .i64 0) := (obj_cell HZB1.out 3).trans rfl
  have fp3 := obj_free HZA1.out 3
  have fq3 := obj_free HZB1.out 3
  have a4 : Y0.cell? ⟨W.heap.size, 4, none⟩ = some (.int .i64 (sn)) := (obj_cell HA1.out 4).trans rfl
  have b4 : Y0.cell? ⟨W.heap.size + 1, 4, none⟩ = some (.int .i64 (l)) := (obj_cell HT1.out 4).trans rfl
  have p4 : Y0.cell? ⟨W.heap.size + 1 + 1, 4, none⟩ = some (.int .i64 0) := (obj_cell HZA1.out 4).trans rfl
  have q4 : Y0.cell? ⟨W.heap.size + 1 + 1 + 1, 4, none⟩ = some (.int .i64 0) := (obj_cell HZB1.out 4).trans rfl
  have fp4 := obj_free HZA1.out 4
  have fq4 := obj_free HZB1.out 4
  have a5 : Y0.cell? ⟨W.heap.size, 5, none⟩ = some (.int .i64 0) := (obj_cell HA1.out 5).trans rfl
  have b5 : Y0.cell? ⟨W.heap.size + 1, 5, none⟩ = some (.int .i64 ((j : Int) + 1)) := (obj_cell HT1.out 5).trans rfl
  have p5 : Y0.cell? ⟨W.heap.size + 1 + 1, 5, none⟩ = some (.int .i64 0) := (obj_cell HZA1.out 5).trans rfl
  have q5 : Y0.cell? ⟨W.heap.size + 1 + 1 + 1, 5, none⟩ = some (.int .i64 0) := (obj_cell HZB1.out 5).trans rfl
  have fp5 := obj_free HZA1.out 5
  have fq5 := obj_free HZB1.out 5
  have a6 : Y0.cell? ⟨W.heap.size, 6, none⟩ = some (.slice ps ns cs) := (obj_cell HA1.out 6).trans rfl
  have b6 : Y0.cell? ⟨W.heap.size + 1, 6, none⟩ = some (.int .i64 (o)) := (obj_cell HT1.out 6).trans rfl
  have p6 : Y0.cell? ⟨W.heap.size + 1 + 1, 6, none⟩ = some (.slice none 0 0) := (obj_cell HZA1.out 6).trans rfl
  have q6 : Y0.cell? ⟨W.heap.size + 1 + 1 + 1, 6, none⟩ = some (.int .i64 0) := (obj_cell HZB1.out 6).trans rfl
  have fp6 := obj_free HZA1.out 6
  have fq6 := obj_free HZB1.out 6
  have HI := Lib.hid (s10_info N (c) (.slice (some ⟨gb, off, none⟩) ng cg) (sn) (.slice ps ns cs))
  have HI1 := Lib.hid (s10_one (N := N) (c := c) (sn := sn) (gv := .slice (some ⟨gb, off, none⟩) ng cg) (sv := .slice ps ns cs) rfl rfl)
  have HJ0 := Lib.hid (t10_info n 2 (d) (h) (l) ((j : Int) + 1) (o))
  have HJ := Lib.hid (t10_info n (judg N h (l)) (d) (h) (l) ((j : Int) + 1) (o))
  have HJ1 := Lib.hid (t10_one n (judg N h (l)) (d) (h) (l) ((j : Int) + 1) (o))
  have HLA : Hid (∀ w, (∃ x : Later Y0, w = x.to) → w.heap[W.heap.size]? = some (.cells (s10 N c (.slice (some ⟨gb, off, none⟩) ng cg) sn (.slice ps ns cs)) 125 (0, 0))) := Lib.hid (fun w ⟨x, hx⟩ => hx ▸ (x.below.block _ (lt_of_block HA1.out)).trans HA1.out)
  have HLT : Hid (∀ w, (∃ x : Later Y0, w = x.to) → w.heap[W.heap.size + 1]? = some (.cells (t10 n 2 (d) (h) (l) ((j : Int) + 1) (o)) 169 (0, 0))) := Lib.hid (fun w ⟨x, hx⟩ => hx ▸ (x.below.block _ (lt_of_block HT1.out)).trans HT1.out)
  have HJQ : Hid (∀ xx : Later Y0, Calls Try.prog 155 #[.agg (s10 N c (.slice (some ⟨gb, off, none⟩) ng cg) sn (.slice ps ns cs)), .agg (t10 n 2 (d) (h) (l) ((j : Int) + 1) (o))] xx.to fun e w'' => e = .returned (.agg (t10 n (judg N h (l)) (d) (h) (l) ((j : Int) + 1) (o))) ∧ ∃ y : Later Y0, w'' = y.to) := Lib.hid fun xx => (rjudge10 N c sn n 2 _ h _ _ _ _ _ hN ⟨hh.1, by omega⟩).mono fun e w k => ⟨k.1, ⟨w, bthen xx.below k.2⟩, rfl⟩
  have HZ2 : Hid (∀ w, Below Y0.heap.size Y0 w → w.heap[W.heap.size + 1 + 1]? = Y0.heap[W.heap.size + 1 + 1]? ∧ w.heap[W.heap.size + 1 + 1 + 1]? = Y0.heap[W.heap.size + 1 + 1 + 1]?) := Lib.hid fun w hb => ⟨hb.block _ (lt_of_block HZA1.out), hb.block _ (lt_of_block HZB1.out)⟩
  clear a0 b0 p0 q0 fp0 fq0 a1 b1 p1 q1 fp1 fq1 a2 b2 p2 q2 fp2 fq2 a3 b3 p3 q3 fp3 fq3 a4 b4 p4 q4 fp4 fq4 a5 b5 p5 q5 fp5 fq5 a6 b6 p6 q6 fp6 fq6
  generalize hCS : s10 N c (.slice (some ⟨gb, off, none⟩) ng cg) sn (.slice ps ns cs) = cS at *
  generalize hCT : t10 n 2 (d) (h) (l) ((j : Int) + 1) (o) = cT at *
  generalize hCR : t10 n (judg N h (l)) (d) (h) (l) ((j : Int) + 1) (o) = cR at *
  have HCS := Lib.hid hCS
  have HCR := Lib.hid hCR
  clear hCS hCT hCR
  have hsz : Hid (cS.size = 7 ∧ cR.size = 7) := Lib.hid (by rw [← HCS.out, ← HCR.out]; exact ⟨rfl, rfl⟩)
  refine wp_region_later_tail 4 (by kernel_rfl) (by kernel_rfl) ?_
  simp only [List.take_succ_cons, List.take_zero, List.drop_succ_cons, List.drop_zero]
  repeat (first
    | (go_big_quiet_want; refine quiet_load_row 125 (.tmp 2) rfl W.heap.size rfl 125 cS (0, 0) _ HLA.out Try.underlying125 rfl HI.out ?_; go_big_quiet_on; go_frame)
    | (go_big_quiet_want; refine quiet_load_row 169 (.tmp 3) rfl (W.heap.size + 1) rfl 169 cT (0, 0) _ HLT.out Try.underlying169 rfl HJ0.out ?_; go_big_quiet_on; go_frame)
    | go_big_quiet_step ((go_at_call 155; exact HJQ.out _)))
  refine wpQuiet_nil ?_
  intro w2 hw'
  obtain ⟨⟨w2', hb2⟩, hw2⟩ := hw'
  obtain rfl : w2 = w2' := hw2
  have HP2 := Lib.hid ((HZ2.out w2 hb2).1.trans HZA1.out)
  have HQ2 := Lib.hid ((HZ2.out w2 hb2).2.trans HZB1.out)
  have HQ3 := Lib.hid (((Frm.refl (fun k => k = W.heap.size + 1 + 1) w2).setRow (g := W.heap.size + 1 + 1) rfl cS).obj HQ2.out (by omega))
  have HB2 := Lib.hid (bthen HB1.out hb2)
  have HP3 : Hid ((w2.setRow (W.heap.size + 1 + 1) cS).heap[W.heap.size + 1 + 1]? = some (.cells cS 125 (0, 0))) := Lib.hid (setRow_heap _ _ _ _ _ _ HP2.out)
  have HP4 := Lib.hid (((Frm.refl (fun k => k = W.heap.size + 1 + 1 + 1) (w2.setRow (W.heap.size + 1 + 1) cS)).setRow (g := W.heap.size + 1 + 1 + 1) rfl cR).obj HP3.out (by omega))
  have HQ4 : Hid (((w2.setRow (W.heap.size + 1 + 1) cS).setRow (W.heap.size + 1 + 1 + 1) cR).heap[W.heap.size + 1 + 1 + 1]? = some (.cells cR 169 (0, 0))) := Lib.hid (setRow_heap _ _ _ _ _ _ HQ3.out)
  have HB4 := Lib.hid (bsetRow (bsetRow HB2.out (show W.heap.size ≤ W.heap.size + 1 + 1 by omega) cS) (show W.heap.size ≤ W.heap.size + 1 + 1 + 1 by omega) cR)
  clear hb2
  go_wp2_with (first
    | (refine wpList_store_row rfl 125 (.tmp 4) (.tmp 100) rfl (W.heap.size + 1 + 1) cS rfl rfl 125 _ HP2.out HI.out (by rw [hsz.out.1]; rfl) HI1.out ?_)
    | (refine wpList_store_row rfl 169 (.tmp 5) (.tmp 103) rfl (W.heap.size + 1 + 1 + 1) cR rfl rfl 169 _ HQ3.out HJ.out (by rw [hsz.out.2]; rfl) HJ1.out ?_))
  exact bodyPost_ret (results_rows_tmp (p := 4) (q := 5) (u := 6) (by kernel_rfl) _ _ (W.heap.size + 1 + 1) (W.heap.size + 1 + 1 + 1) 125 169 _ _ (0, 0) (0, 0) _ _ _ rfl rfl rfl HP4.out HQ4.out Try.underlying125 rfl HI.out Try.underlying169 rfl HJ.out) rfl ⟨by rw [← HCS.out, ← HCR.out]; rfl, HB4.out⟩

set_option maxHeartbeats 4000000 in
set_option maxRecDepth 100000 in
theorem rstep_1nj {W : World} (N c sn n d h l a o : Int) (pg ps : Option Addr) (ng cg ns cs : Nat) (hN : 1 ≤ N ∧ N ≤ 1048576) (hh : -1 ≤ h ∧ h ≤ 4611686018427387904) (h1 : ¬ h - N ≤ sn) (hg : ng = 0) :
    Calls Try.prog 108 #[.agg (s10 N c (.slice pg ng cg) sn (.slice ps ns cs)), .agg (t10 n 1 d h l a o)] W fun e w' => e = .returned (.tuple #[.agg (s10 N c (.slice pg ng cg) sn (.slice ps ns cs)), .agg (t10 n (judg N h (d)) (d) (h) (d) (0) (ng)), .int .i64 0]) ∧ Below W.heap.size W w' := by
  have g0 : ((1 : Int) == 0) = false := rfl
  have d1 : decide (h - N ≤ sn) = false := decide_eq_false h1
  have d2 : ((ng : Int) == 0) = true := by simp [hg]
  have hgm : ng ≤ 1 := by omega
  clear hg
  go_enter Try.func108, Try.ntmps108
  go_upto_region 1 with fail
  generalize hX : World.alloc (World.alloc (World.alloc (W.alloc (.cells _ 125)) (.cells _ 169)) (.cells _ 125)) (.cells _ 169) = X at *
  have HA0 : Hid (B10 X W.heap.size (s10 N c (.slice pg ng cg) sn (.slice ps ns cs))) := hX ▸ Lib.hid (obj_old _ (obj_old _ (obj_old _ (obj_new W _))))
  have HT : Hid (X.heap[W.heap.size + 1]? = some (.cells (t10 n 1 d h l a o) 169 (0, 0))) := hX ▸ Lib.hid (obj_old _ (obj_old _ (by have := obj_new (W.alloc (.cells (s10 N c (.slice pg ng cg) sn (.slice ps ns cs)) 125)) (.cells (t10 n 1 d h l a o) 169); simpa using this)))
  have HZA : Hid (X.heap[W.heap.size + 1 + 1]? = some (.cells #[.int .i64 0, .int .i64 0, .int .i64 0, .slice none 0 0, .int .i64 0, .int .i64 0, .slice none 0 0] 125 (0, 0))) := hX ▸ Lib.hid (obj_old _ (by have := obj_new ((W.alloc (.cells (s10 N c (.slice pg ng cg) sn (.slice ps ns cs)) 125)).alloc (.cells (t10 n 1 d h l a o) 169)) (.cells #[.int .i64 0, .int .i64 0, .int .i64 0, .slice none 0 0, .int .i64 0, .int .i64 0, .slice none 0 0] 125); simpa using this))
  have HZB : Hid (X.heap[W.heap.size + 1 + 1 + 1]? = some (.cells #[.int .i64 0, .int .i64 0, .int .i64 0, .int .i64 0, .int .i64 0, .int .i64 0, .int .i64 0] 169 (0, 0))) := hX ▸ Lib.hid (by have := obj_new (((W.alloc (.cells (s10 N c (.slice pg ng cg) sn (.slice ps ns cs)) 125)).alloc (.cells (t10 n 1 d h l a o) 169)).alloc (.cells #[.int .i64 0, .int .i64 0, .int .i64 0, .slice none 0 0, .int .i64 0, .int .i64 0, .slice none 0 0] 125)) (.cells #[.int .i64 0, .int .i64 0, .int .i64 0, .int .i64 0, .int .i64 0, .int .i64 0, .int .i64 0] 169); simpa using this)
  have HB0 : Hid (Below W.heap.size W X) := hX ▸ Lib.hid (balloc (balloc (balloc (balloc (Below.refl _ _) _) _) _) _)
  clear hX
  have a0 : X.cell? ⟨W.heap.size, 0, none⟩ = some (.int .i64 (N)) := (obj_cell HA0.out 0).trans rfl
  have b0 : X.cell? ⟨W.heap.size + 1, 0, none⟩ = some (.int .i64 (n)) := (obj_cell HT.out 0).trans rfl
  have fa0 := obj_free HA0.out 0
  have fb0 := obj_free HT.out 0
  have a1 : X.cell? ⟨W.heap.size, 1, none⟩ = some (.int .i64 (c)) := (obj_cell HA0.out 1).trans rfl
  have b1 : X.cell? ⟨W.heap.size + 1, 1, none⟩ = some (.int .i64 (1)) := (obj_cell HT.out 1).trans rfl
  have fa1 := obj_free HA0.out 1
  have fb1 := obj_free HT.out 1
  have a2 : X.cell? ⟨W.heap.size, 2, none⟩ = some (.int .i64 (c)) := (obj_cell HA0.out 2).trans rfl
  have b2 : X.cell? ⟨W.heap.size + 1, 2, none⟩ = some (.int .i64 (d)) := (obj_cell HT.out 2).trans rfl
  have fa2 := obj_free HA0.out 2
  have fb2 := obj_free HT.out 2
  have a3 : X.cell? ⟨W.heap.size, 3, none⟩ = some (.slice pg ng cg) := (obj_cell HA0.out 3).trans rfl
  have b3 : X.cell? ⟨W.heap.size + 1, 3, none⟩ = some (.int .i64 (h)) := (obj_cell HT.out 3).trans rfl
  have fa3 := obj_free HA0.out 3
  have fb3 := obj_free HT.out 3
  have a4 : X.cell? ⟨W.heap.size, 4, none⟩ = some (.int .i64 (sn)) := (obj_cell HA0.out 4).trans rfl
  have b4 : X.cell? ⟨W.heap.size + 1, 4, none⟩ = some (.int .i64 (l)) := (obj_cell HT.out 4).trans rfl
  have fa4 := obj_free HA0.out 4
  have fb4 := obj_free HT.out 4
  have a5 : X.cell? ⟨W.heap.size, 5, none⟩ = some (.int .i64 0) := (obj_cell HA0.out 5).trans rfl
  have b5 : X.cell? ⟨W.heap.size + 1, 5, none⟩ = some (.int .i64 (a)) := (obj_cell HT.out 5).trans rfl
  have fa5 := obj_free HA0.out 5
  have fb5 := obj_free HT.out 5
  have a6 : X.cell? ⟨W.heap.size, 6, none⟩ = some (.slice ps ns cs) := (obj_cell HA0.out 6).trans rfl
  have b6 : X.cell? ⟨W.heap.size + 1, 6, none⟩ = some (.int .i64 (o)) := (obj_cell HT.out 6).trans rfl
  have fa6 := obj_free HA0.out 6
  have fb6 := obj_free HT.out 6
  have HEP : Hid (∀ y, y = (((((X).setCell ⟨W.heap.size + 1, 4, none⟩ (.int .i64 (d))).setCell ⟨W.heap.size + 1, 5, none⟩ (.int .i64 (0))).setCell ⟨W.heap.size + 1, 6, none⟩ (.int .i64 (ng))).setCell ⟨W.heap.size + 1, 1, none⟩ (.int .i64 (2))).drew → y.heap[W.heap.size]? = some (.cells (s10 N c (.slice pg ng cg) sn (.slice ps ns cs)) 125 (0, 0)) ∧ y.heap[W.heap.size + 1]? = some (.cells (t10 n 2 (d) (h) (d) (0) (ng)) 169 (0, 0)) ∧ y.heap[W.heap.size + 1 + 1]? = some (.cells #[.int .i64 0, .int .i64 0, .int .i64 0, .slice none 0 0, .int .i64 0, .int .i64 0, .slice none 0 0] 125 (0, 0)) ∧ y.heap[W.heap.size + 1 + 1 + 1]? = some (.cells #[.int .i64 0, .int .i64 0, .int .i64 0, .int .i64 0, .int .i64 0, .int .i64 0, .int .i64 0] 169 (0, 0)) ∧ Below W.heap.size W y) := Lib.hid (by
    rintro y rfl
    simp only [show ∀ w : World, w.drew.heap = w.heap from fun _ => rfl]
    have hS := ((heap_setCell_other _ ⟨W.heap.size + 1, 1, none⟩ (W.heap.size) (.int .i64 (2)) (by simp <;> omega)).trans ((heap_setCell_other _ ⟨W.heap.size + 1, 6, none⟩ (W.heap.size) (.int .i64 (ng)) (by simp <;> omega)).trans ((heap_setCell_other _ ⟨W.heap.size + 1, 5, none⟩ (W.heap.size) (.int .i64 (0)) (by simp <;> omega)).trans ((heap_setCell_other _ ⟨W.heap.size + 1, 4, none⟩ (W.heap.size) (.int .i64 (d)) (by simp <;> omega)).trans HA0.out))))
    have hT := (obj_setCell (i := 1) (.int .i64 (2)) (obj_setCell (i := 6) (.int .i64 (ng)) (obj_setCell (i := 5) (.int .i64 (0)) (obj_setCell (i := 4) (.int .i64 (d)) HT.out))))
    have hP := ((heap_setCell_other _ ⟨W.heap.size + 1, 1, none⟩ (W.heap.size + 1 + 1) (.int .i64 (2)) (by simp <;> omega)).trans ((heap_setCell_other _ ⟨W.heap.size + 1, 6, none⟩ (W.heap.size + 1 + 1) (.int .i64 (ng)) (by simp <;> omega)).trans ((heap_setCell_other _ ⟨W.heap.size + 1, 5, none⟩ (W.heap.size + 1 + 1) (.int .i64 (0)) (by simp <;> omega)).trans ((heap_setCell_other _ ⟨W.heap.size + 1, 4, none⟩ (W.heap.size + 1 + 1) (.int .i64 (d)) (by simp <;> omega)).trans HZA.out))))
    have hQ := ((heap_setCell_other _ ⟨W.heap.size + 1, 1, none⟩ (W.heap.size + 1 + 1 + 1) (.int .i64 (2)) (by simp <;> omega)).trans ((heap_setCell_other _ ⟨W.heap.size + 1, 6, none⟩ (W.heap.size + 1 + 1 + 1) (.int .i64 (ng)) (by simp <;> omega)).trans ((heap_setCell_other _ ⟨W.heap.size + 1, 5, none⟩ (W.heap.size + 1 + 1 + 1) (.int .i64 (0)) (by simp <;> omega)).trans ((heap_setCell_other _ ⟨W.heap.size + 1, 4, none⟩ (W.heap.size + 1 + 1 + 1) (.int .i64 (d)) (by simp <;> omega)).trans HZB.out))))
    exact ⟨by simpa [s10] using hS, by simpa [t10] using hT, hP, hQ, Below.drew (bset (bset (bset (bset HB0.out 4 _ _ (by omega)) 5 _ _ (by omega)) 6 _ _ (by omega)) 1 _ _ (by omega))⟩)
  go_upto_region 12 with fail
  go_region
  go_wp2_with fail
  generalize hY0 : World.drew _ = Y0
  obtain ⟨y1, y2, y3, y4, y5⟩ := HEP.out Y0 hY0.symm
  have HA1 := Lib.hid y1
  have HT1 := Lib.hid y2
  have HZA1 := Lib.hid y3
  have HZB1 := Lib.hid y4
  have HB1 := Lib.hid y5
  clear hY0 y1 y2 y3 y4 y5 HEP HA0 HT HZA HZB HB0 a0 b0 fa0 fb0 a1 b1 fa1 fb1 a2 b2 fa2 fb2 a3 b3 fa3 fb3 a4 b4 fa4 fb4 a5 b5 fa5 fb5 a6 b6 fa6 fb6
  have a0 : Y0.cell? ⟨W.heap.size, 0, none⟩ = some (.int .i64 (N)) := (obj_cell HA1.out 0).trans rfl
  have b0 : Y0.cell? ⟨W.heap.size + 1, 0, none⟩ = some (.int .i64 (n)) := (obj_cell HT1.out 0).trans rfl
  have p0 : Y0.cell? ⟨W.heap.size + 1 + 1, 0, none⟩ = some (.int .i64 0) := (obj_cell HZA1.out 0).trans rfl
  have q0 : Y0.cell? ⟨W.heap.size + 1 + 1 + 1, 0, none⟩ = some (.int .i64 0) := (obj_cell HZB1.out 0).trans rfl
  have fp0 := obj_free HZA1.out 0
  have fq0 := obj_free HZB1.out 0
  have a1 : Y0.cell? ⟨W.heap.size, 1, none⟩ = some (.int .i64 (c)) := (obj_cell HA1.out 1).trans rfl
  have b1 : Y0.cell? ⟨W.heap.size + 1, 1, none⟩ = some (.int .i64 2) := (obj_cell HT1.out 1).trans rfl
  have p1 : Y0.cell? ⟨W.heap.size + 1 + 1, 1, none⟩ = some (.int .i64 0) := (obj_cell HZA1.out 1).trans rfl
  have q1 : Y0.cell? ⟨W.heap.size + 1 + 1 + 1, 1, none⟩ = some (.int .i64 0) := (obj_cell HZB1.out 1).trans rfl
  have fp1 := obj_free HZA1.out 1
  have fq1 := obj_free HZB1.out 1
  have a2 : Y0.cell? ⟨W.heap.size, 2, none⟩ = some (.int .i64 (c)) := (obj_cell HA1.out 2).trans rfl
  have b2 : Y0.cell? ⟨W.heap.size + 1, 2, none⟩ = some (.int .i64 (d)) := (obj_cell HT1.out 2).trans rfl
  have p2 : Y0.cell? ⟨W.heap.size + 1 + 1, 2, none⟩ = some (.int .i64 0) := (obj_cell HZA1.out 2).trans rfl
  have q2 : Y0.cell? ⟨W.heap.size + 1 + 1 + 1, 2, none⟩ = some (.int .i64 0) := (obj_cell HZB1.out 2).trans rfl
  have fp2 := obj_free HZA1.out 2
  have fq2 := obj_free HZB1.out 2
  have a3 : Y0.cell? ⟨W.heap.size, 3, none⟩ = some (.slice pg ng cg) := (obj_cell HA1.out 3).trans rfl
  have b3 : Y0.cell? ⟨W.heap.size + 1, 3, none⟩ = some (.int .i64 (h)) := (obj_cell HT1.out 3).trans rfl
  have p3 : Y0.cell? ⟨W.heap.size + 1 + 1, 3, none⟩ = some (.slice none 0 0) := (obj_cell HZA1.out 3).trans rfl
  have q3 : Y0.cell? ⟨W.heap.size + 1 + 1 + 1, 3, none⟩ = some (.int .i64 0) := (obj_cell HZB1.out 3).trans rfl
  have fp3 := obj_free HZA1.out 3
  have fq3 := obj_free HZB1.out 3
  have a4 : Y0.cell? ⟨W.heap.size, 4, none⟩ = some (.int .i64 (sn)) := (obj_cell HA1.out 4).trans rfl
  have b4 : Y0.cell? ⟨W.heap.size + 1, 4, none⟩ = some (.int .i64 (d)) := (obj_cell HT1.out 4).trans rfl
  have p4 : Y0.cell? ⟨W.heap.size + 1 + 1, 4, none⟩ = some (.int .i64 0) := (obj_cell HZA1.out 4).trans rfl
  have q4 : Y0.cell? ⟨W.heap.size + 1 + 1 + 1, 4, none⟩ = some (.int .i64 0) := (obj_cell HZB1.out 4).trans rfl
  have fp4 := obj_free HZA1.out 4
  have fq4 := obj_free HZB1.out 4
  have a5 : Y0.cell? ⟨W.heap.size, 5, none⟩ = some (.int .i64 0) := (obj_cell HA1.out 5).trans rfl
  have b5 : Y0.cell? ⟨W.heap.size + 1, 5, none⟩ = some (.int .i64 0) := (obj_cell HT1.out 5).trans rfl
  have p5 : Y0.cell? ⟨W.heap.size + 1 + 1, 5, none⟩ = some (.int .i64 0) := (obj_cell HZA1.out 5).trans rfl
  have q5 : Y0.cell? ⟨W.heap.size + 1 + 1 + 1, 5, none⟩ = some (.int .i64 0) := (obj_cell HZB1.out 5).trans rfl
  have fp5 := obj_free HZA1.out 5
  have fq5 := obj_free HZB1.out 5
  have a6 : Y0.cell? ⟨W.heap.size, 6, none⟩ = some (.slice ps ns cs) := (obj_cell HA1.out 6).trans rfl
  have b6 : Y0.cell? ⟨W.heap.size + 1, 6, none⟩ = some (.int .i64 (ng)) := (obj_cell HT1.out 6).trans rfl
  have p6 : Y0.cell? ⟨W.heap.size + 1 + 1, 6, none⟩ = some (.slice none 0 0) := (obj_cell HZA1.out 6).trans rfl
  have q6 : Y0.cell? ⟨W.heap.size + 1 + 1 + 1, 6, none⟩ = some (.int .i64 0) := (obj_cell HZB1.out 6).trans rfl
  have fp6 := obj_free HZA1.out 6
  have fq6 := obj_free HZB1.out 6
  have HI := Lib.hid (s10_info N (c) (.slice pg ng cg) (sn) (.slice ps ns cs))
  have HI1 := Lib.hid (s10_one (N := N) (c := c) (sn := sn) (gv := .slice pg ng cg) (sv := .slice ps ns cs) rfl rfl)
  have HJ0 := Lib.hid (t10_info n 2 (d) (h) (d) (0) (ng))
  have HJ := Lib.hid (t10_info n (judg N h (d)) (d) (h) (d) (0) (ng))
  have HJ1 := Lib.hid (t10_one n (judg N h (d)) (d) (h) (d) (0) (ng))
  have HLA : Hid (∀ w, (∃ x : Later Y0, w = x.to) → w.heap[W.heap.size]? = some (.cells (s10 N c (.slice pg ng cg) sn (.slice ps ns cs)) 125 (0, 0))) := Lib.hid (fun w ⟨x, hx⟩ => hx ▸ (x.below.block _ (lt_of_block HA1.out)).trans HA1.out)
  have HLT : Hid (∀ w, (∃ x : Later Y0, w = x.to) → w.heap[W.heap.size + 1]? = some (.cells (t10 n 2 (d) (h) (d) (0) (ng)) 169 (0, 0))) := Lib.hid (fun w ⟨x, hx⟩ => hx ▸ (x.below.block _ (lt_of_block HT1.out)).trans HT1.out)
  have HJQ : Hid (∀ xx : Later Y0, Calls Try.prog 155 #[.agg (s10 N c (.slice pg ng cg) sn (.slice ps ns cs)), .agg (t10 n 2 (d) (h) (d) (0) (ng))] xx.to fun e w'' => e = .returned (.agg (t10 n (judg N h (d)) (d) (h) (d) (0) (ng))) ∧ ∃ y : Later Y0, w'' = y.to) := Lib.hid fun xx => (rjudge10 N c sn n 2 _ h _ _ _ _ _ hN ⟨hh.1, by omega⟩).mono fun e w k => ⟨k.1, ⟨w, bthen xx.below k.2⟩, rfl⟩
  have HZ2 : Hid (∀ w, Below Y0.heap.size Y0 w → w.heap[W.heap.size + 1 + 1]? = Y0.heap[W.heap.size + 1 + 1]? ∧ w.heap[W.heap.size + 1 + 1 + 1]? = Y0.heap[W.heap.size + 1 + 1 + 1]?) := Lib.hid fun w hb => ⟨hb.block _ (lt_of_block HZA1.out), hb.block _ (lt_of_block HZB1.out)⟩
  clear a0 b0 p0 q0 fp0 fq0 a1 b1 p1 q1 fp1 fq1 a2 b2 p2 q2 fp2 fq2 a3 b3 p3 q3 fp3 fq3 a4 b4 p4 q4 fp4 fq4 a5 b5 p5 q5 fp5 fq5 a6 b6 p6 q6 fp6 fq6
  generalize hCS : s10 N c (.slice pg ng cg) sn (.slice ps ns cs) = cS at *
  generalize hCT : t10 n 2 (d) (h) (d) (0) (ng) = cT at *
  generalize hCR : t10 n (judg N h (d)) (d) (h) (d) (0) (ng) = cR at *
  have HCS := Lib.hid hCS
  have HCR := Lib.hid hCR
  clear hCS hCT hCR
  have hsz : Hid (cS.size = 7 ∧ cR.size = 7) := Lib.hid (by rw [← HCS.out, ← HCR.out]; exact ⟨rfl, rfl⟩)
  refine wp_region_later_tail 4 (by kernel_rfl) (by kernel_rfl) ?_
  simp only [List.take_succ_cons, List.take_zero, List.drop_succ_cons, List.drop_zero]
  repeat (first
    | (go_big_quiet_want; refine quiet_load_row 125 (.tmp 2) rfl W.heap.size rfl 125 cS (0, 0) _ HLA.out Try.underlying125 rfl HI.out ?_; go_big_quiet_on; go_frame)
    | (go_big_quiet_want; refine quiet_load_row 169 (.tmp 3) rfl (W.heap.size + 1) rfl 169 cT (0, 0) _ HLT.out Try.underlying169 rfl HJ0.out ?_; go_big_quiet_on; go_frame)
    | go_big_quiet_step ((go_at_call 155; exact HJQ.out _)))
  refine wpQuiet_nil ?_
  intro w2 hw'
  obtain ⟨⟨w2', hb2⟩, hw2⟩ := hw'
  obtain rfl : w2 = w2' := hw2
  have HP2 := Lib.hid ((HZ2.out w2 hb2).1.trans HZA1.out)
  have HQ2 := Lib.hid ((HZ2.out w2 hb2).2.trans HZB1.out)
  have HQ3 := Lib.hid (((Frm.refl (fun k => k = W.heap.size + 1 + 1) w2).setRow (g := W.heap.size + 1 + 1) rfl cS).obj HQ2.out (by omega))
  have HB2 := Lib.hid (bthen HB1.out hb2)
  have HP3 : Hid ((w2.setRow (W.heap.size + 1 + 1) cS).heap[W.heap.size + 1 + 1]? = some (.cells cS 125 (0, 0))) := Lib.hid (setRow_heap _ _ _ _ _ _ HP2.out)
  have HP4 := Lib.hid (((Frm.refl (fun k => k = W.heap.size + 1 + 1 + 1) (w2.setRow (W.heap.size + 1 + 1) cS)).setRow (g := W.heap.size + 1 + 1 + 1) rfl cR).obj HP3.out (by omega))
  have HQ4 : Hid (((w2.setRow (W.heap.size + 1 + 1) cS).setRow (W.heap.size + 1 + 1 + 1) cR).heap[W.heap.size + 1 + 1 + 1]? = some (.cells cR 169 (0, 0))) := Lib.hid (setRow_heap _ _ _ _ _ _ HQ3.out)
  have HB4 := Lib.hid (bsetRow (bsetRow HB2.out (show W.heap.size ≤ W.heap.size + 1 + 1 by omega) cS) (show W.heap.size ≤ W.heap.size + 1 + 1 + 1 by omega) cR)
  clear hb2
  go_wp2_with (first
    | (refine wpList_store_row rfl 125 (.tmp 4) (.tmp 67) rfl (W.heap.size + 1 + 1) cS rfl rfl 125 _ HP2.out HI.out (by rw [hsz.out.1]; rfl) HI1.out ?_)
    | (refine wpList_store_row rfl 169 (.tmp 5) (.tmp 70) rfl (W.heap.size + 1 + 1 + 1) cR rfl rfl 169 _ HQ3.out HJ.out (by rw [hsz.out.2]; rfl) HJ1.out ?_))
  exact bodyPost_ret (results_rows_tmp (p := 4) (q := 5) (u := 6) (by kernel_rfl) _ _ (W.heap.size + 1 + 1) (W.heap.size + 1 + 1 + 1) 125 169 _ _ (0, 0) (0, 0) _ _ _ rfl rfl rfl HP4.out HQ4.out Try.underlying125 rfl HI.out Try.underlying169 rfl HJ.out) rfl ⟨by rw [← HCS.out, ← HCR.out]; rfl, HB4.out⟩

set_option maxHeartbeats 4000000 in
set_option maxRecDepth 100000 in
theorem rstep_1mj {W : World} (N c sn n d h l a o : Int) (pg ps : Option Addr) (ng cg ns cs : Nat) (hN : 1 ≤ N ∧ N ≤ 1048576) (hh : -1 ≤ h ∧ h ≤ 4611686018427387904) (h1 : h - N ≤ sn) (h2 : ¬ sn ≤ d) (hg : ng = 0) :
    Calls Try.prog 108 #[.agg (s10 N c (.slice pg ng cg) sn (.slice ps ns cs)), .agg (t10 n 1 d h l a o)] W fun e w' => e = .returned (.tuple #[.agg (s10 N c (.slice pg ng cg) sn (.slice ps ns cs)), .agg (t10 n (judg N h (d)) (d) (h) (d) (0) (ng)), .int .i64 0]) ∧ Below W.heap.size W w' := by
  have g0 : ((1 : Int) == 0) = false := rfl
  have d1 : decide (h - N ≤ sn) = true := decide_eq_true h1
  have d3 : decide (sn ≤ d) = false := decide_eq_false h2
  have d2 : ((ng : Int) == 0) = true := by simp [hg]
  have hgm : ng ≤ 1 := by omega
  clear hg
  go_enter Try.func108, Try.ntmps108
  go_upto_region 1 with fail
  generalize hX : World.alloc (World.alloc (World.alloc (W.alloc (.cells _ 125)) (.cells _ 169)) (.cells _ 125)) (.cells _ 169) = X at *
  have HA0 : Hid (B10 X W.heap.size (s10 N c (.slice pg ng cg) sn (.slice ps ns cs))) := hX ▸ Lib.hid (obj_old _ (obj_old _ (obj_old _ (obj_new W _))))
  have HT : Hid (X.heap[W.heap.size + 1]? = some (.cells (t10 n 1 d h l a o) 169 (0, 0))) := hX ▸ Lib.hid (obj_old _ (obj_old _ (by have := obj_new (W.alloc (.cells (s10 N c (.slice pg ng cg) sn (.slice ps ns cs)) 125)) (.cells (t10 n 1 d h l a o) 169); simpa using this)))
  have HZA : Hid (X.heap[W.heap.size + 1 + 1]? = some (.cells #[.int .i64 0, .int .i64 0, .int .i64 0, .slice none 0 0, .int .i64 0, .int .i64 0, .slice none 0 0] 125 (0, 0))) := hX ▸ Lib.hid (obj_old _ (by have := obj_new ((W.alloc (.cells (s10 N c (.slice pg ng cg) sn (.slice ps ns cs)) 125)).alloc (.cells (t10 n 1 d h l a o) 169)) (.cells #[.int .i64 0, .int .i64 0, .int .i64 0, .slice none 0 0, .int .i64 0, .int .i64 0, .slice none 0 0] 125); simpa using this))
  have HZB : Hid (X.heap[W.heap.size + 1 + 1 + 1]? = some (.cells #[.int .i64 0, .int .i64 0, .int .i64 0, .int .i64 0, .int .i64 0, .int .i64 0, .int .i64 0] 169 (0, 0))) := hX ▸ Lib.hid (by have := obj_new (((W.alloc (.cells (s10 N c (.slice pg ng cg) sn (.slice ps ns cs)) 125)).alloc (.cells (t10 n 1 d h l a o) 169)).alloc (.cells #[.int .i64 0, .int .i64 0, .int .i64 0, .slice none 0 0, .int .i64 0, .int .i64 0, .slice none 0 0] 125)) (.cells #[.int .i64 0, .int .i64 0, .int .i64 0, .int .i64 0, .int .i64 0, .int .i64 0, .int .i64 0] 169); simpa using this)
  have HB0 : Hid (Below W.heap.size W X) := hX ▸ Lib.hid (balloc (balloc (balloc (balloc (Below.refl _ _) _) _) _) _)
  clear hX
  have a0 : X.cell? ⟨W.heap.size, 0, none⟩ = some (.int .i64 (N)) := (obj_cell HA0.out 0).trans rfl
  have b0 : X.cell? ⟨W.heap.size + 1, 0, none⟩ = some (.int .i64 (n)) := (obj_cell HT.out 0).trans rfl
  have fa0 := obj_free HA0.out 0
  have fb0 := obj_free HT.out 0
  have a1 : X.cell? ⟨W.heap.size, 1, none⟩ = some (.int .i64 (c)) := (obj_cell HA0.out 1).trans rfl
  have b1 : X.cell? ⟨W.heap.size + 1, 1, none⟩ = some (.int .i64 (1)) := (obj_cell HT.out 1).trans rfl
  have fa1 := obj_free HA0.out 1
  have fb1 := obj_free HT.out 1
  have a2 : X.cell? ⟨W.heap.size, 2, none⟩ = some (.int .i64 (c)) := (obj_cell HA0.out 2).trans rfl
  have b2 : X.cell? ⟨W.heap.size + 1, 2, none⟩ = some (.int .i64 (d)) := (obj_cell HT.out 2).trans rfl
  have fa2 := obj_free HA0.out 2
  have fb2 := obj_free HT.out 2
  have a3 : X.cell? ⟨W.heap.size, 3, none⟩ = some (.slice pg ng cg) := (obj_cell HA0.out 3).trans rfl
  have b3 : X.cell? ⟨W.heap.size + 1, 3, none⟩ = some (.int .i64 (h)) := (obj_cell HT.out 3).trans rfl
  have fa3 := obj_free HA0.out 3
  have fb3 := obj_free HT.out 3
  have a4 : X.cell? ⟨W.heap.size, 4, none⟩ = some (.int .i64 (sn)) := (obj_cell HA0.out 4).trans rfl
  have b4 : X.cell? ⟨W.heap.size + 1, 4, none⟩ = some (.int .i64 (l)) := (obj_cell HT.out 4).trans rfl
  have fa4 := obj_free HA0.out 4
  have fb4 := obj_free HT.out 4
  have a5 : X.cell? ⟨W.heap.size, 5, none⟩ = some (.int .i64 0) := (obj_cell HA0.out 5).trans rfl
  have b5 : X.cell? ⟨W.heap.size + 1, 5, none⟩ = some (.int .i64 (a)) := (obj_cell HT.out 5).trans rfl
  have fa5 := obj_free HA0.out 5
  have fb5 := obj_free HT.out 5
  have a6 : X.cell? ⟨W.heap.size, 6, none⟩ = some (.slice ps ns cs) := (obj_cell HA0.out 6).trans rfl
  have b6 : X.cell? ⟨W.heap.size + 1, 6, none⟩ = some (.int .i64 (o)) := (obj_cell HT.out 6).trans rfl
  have fa6 := obj_free HA0.out 6
  have fb6 := obj_free HT.out 6
  have HEP : Hid (∀ y, y = (((((X).setCell ⟨W.heap.size + 1, 4, none⟩ (.int .i64 (d))).setCell ⟨W.heap.size + 1, 5, none⟩ (.int .i64 (0))).setCell ⟨W.heap.size + 1, 6, none⟩ (.int .i64 (ng))).setCell ⟨W.heap.size + 1, 1, none⟩ (.int .i64 (2))).drew → y.heap[W.heap.size]? = some (.cells (s10 N c (.slice pg ng cg) sn (.slice ps ns cs)) 125 (0, 0)) ∧ y.heap[W.heap.size + 1]? = some (.cells (t10 n 2 (d) (h) (d) (0) (ng)) 169 (0, 0)) ∧ y.heap[W.heap.size + 1 + 1]? = some (.cells #[.int .i64 0, .int .i64 0, .int .i64 0, .slice none 0 0, .int .i64 0, .int .i64 0, .slice none 0 0] 125 (0, 0)) ∧ y.heap[W.heap.size + 1 + 1 + 1]? = some (.cells #[.int .i64 0, .int .i64 0, .int .i64 0, .int .i64 0, .int .i64 0, .int .i64 0, .int .i64 0] 169 (0, 0)) ∧ Below W.heap.size W y) := Lib.hid (by
    rintro y rfl
    simp only [show ∀ w : World, w.drew.heap = w.heap from fun _ => rfl]
    have hS := ((heap_setCell_other _ ⟨W.heap.size + 1, 1, none⟩ (W.heap.size) (.int .i64 (2)) (by simp <;> omega)).trans ((heap_setCell_other _ ⟨W.heap.size + 1, 6, none⟩ (W.heap.size) (.int .i64 (ng)) (by simp <;> omega)).trans ((heap_setCell_other _ ⟨W.heap.size + 1, 5, none⟩ (W.heap.size) (.int .i64 (0)) (by simp <;> omega)).trans ((heap_setCell_other _ ⟨W.heap.size + 1, 4, none⟩ (W.heap.size) (.int .i64 (d)) (by simp <;> omega)).trans HA0.out))))
    have hT := (obj_setCell (i := 1) (.int .i64 (2)) (obj_setCell (i := 6) (.int .i64 (ng)) (obj_setCell (i := 5) (.int .i64 (0)) (obj_setCell (i := 4) (.int .i64 (d)) HT.out))))
    have hP := ((heap_setCell_other _ ⟨W.heap.size + 1, 1, none⟩ (W.heap.size + 1 + 1) (.int .i64 (2)) (by simp <;> omega)).trans ((heap_setCell_other _ ⟨W.heap.size + 1, 6, none⟩ (W.heap.size + 1 + 1) (.int .i64 (ng)) (by simp <;> omega)).trans ((heap_setCell_other _ ⟨W.heap.size + 1, 5, none⟩ (W.heap.size + 1 + 1) (.int .i64 (0)) (by simp <;> omega)).trans ((heap_setCell_other _ ⟨W.heap.size + 1, 4, none⟩ (W.heap.size + 1 + 1) (.int .i64 (d)) (by simp <;> omega)).trans HZA.out))))
    have hQ := ((heap_setCell_other _ ⟨W.heap.size + 1, 1, none⟩ (W.heap.size + 1 + 1 + 1) (.int .i64 (2)) (by simp <;> omega)).trans ((heap_setCell_other _ ⟨W.heap.size + 1, 6, none⟩ (W.heap.size + 1 + 1 + 1) (.int .i64 (ng)) (by simp <;> omega)).trans ((heap_setCell_other _ ⟨W.heap.size + 1, 5, none⟩ (W.heap.size + 1 + 1 + 1) (.int .i64 (0)) (by simp <;> omega)).trans ((heap_setCell_other _ ⟨W.heap.size + 1, 4, none⟩ (W.heap.size + 1 + 1 + 1) (.int .i64 (d)) (by simp <;> omega)).trans HZB.out))))
    exact ⟨by simpa [s10] using hS, by simpa [t10] using hT, hP, hQ, Below.drew (bset (bset (bset (bset HB0.out 4 _ _ (by omega)) 5 _ _ (by omega)) 6 _ _ (by omega)) 1 _ _ (by omega))⟩)
  go_upto_region 12 with fail
  go_region
  go_wp2_with fail
  generalize hY0 : World.drew _ = Y0
  obtain ⟨y1, y2, y3, y4, y5⟩ := HEP.out Y0 hY0.symm
  have HA1 := Lib.hid y1
  have HT1 := Lib.hid y2
  have HZA1 := Lib.hid y3
  have HZB1 := Lib.hid y4
  have HB1 := Lib.hid y5
  clear hY0 y1 y2 y3 y4 y5 HEP HA0 HT HZA HZB HB0 a0 b0 fa0 fb0 a1 b1 fa1 fb1 a2 b2 fa2 fb2 a3 b3 fa3 fb3 a4 b4 fa4 fb4 a5 b5 fa5 fb5 a6 b6 fa6 fb6
  have a0 : Y0.cell? ⟨W.heap.size, 0, none⟩ = some (.int .i64 (N)) := (obj_cell HA1.out 0).trans rfl
  have b0 : Y0.cell? ⟨W.heap.size + 1, 0, none⟩ = some (.int .i64 (n)) := (obj_cell HT1.out 0).trans rfl
  have p0 : Y0.cell? ⟨W.heap.size + 1 + 1, 0, none⟩ = some (.int .i64 0) := (obj_cell HZA1.out 0).trans rfl
  have q0 : Y0.cell? ⟨W.heap.size + 1 + 1 + 1, 0, none⟩ = some (.int .i64 0) := (obj_cell HZB1.out 0).trans rfl
  have fp0 := obj_free HZA1.out 0
  have fq0 := obj_free HZB1.out 0
  have a1 : Y0.cell? ⟨W.heap.size, 1, none⟩ = some (.int .i64 (c)) := (obj_cell HA1.out 1).trans rfl
  have b1 : Y0.cell? ⟨W.heap.size + 1, 1, none⟩ = some (.int .i64 2) := (obj_cell HT1.out 1).trans rfl
  have p1 : Y0.cell? ⟨W.heap.size + 1 + 1, 1, none⟩ = some (.int .i64 0) := (obj_cell HZA1.out 1).trans rfl
  have q1 : Y0.cell? ⟨W.heap.size + 1 + 1 + 1, 1, none⟩ = some (.int .i64 0) := (obj_cell HZB1.out 1).trans rfl
  have fp1 := obj_free HZA1.out 1
  have fq1 := obj_free HZB1.out 1
  have a2 : Y0.cell? ⟨W.heap.size, 2, none⟩ = some (.int .i64 (c)) := (obj_cell HA1.out 2).trans rfl
  have b2 : Y0.cell? ⟨W.heap.size + 1, 2, none⟩ = some (.int .i64 (d)) := (obj_cell HT1.out 2).trans rfl
  have p2 : Y0.cell? ⟨W.heap.size + 1 + 1, 2, none⟩ = some (.int .i64 0) := (obj_cell HZA1.out 2).trans rfl
  have q2 : Y0.cell? ⟨W.heap.size + 1 + 1 + 1, 2, none⟩ = some (.int .i64 0) := (obj_cell HZB1.out 2).trans rfl
  have fp2 := obj_free HZA1.out 2
  have fq2 := obj_free HZB1.out 2
  have a3 : Y0.cell? ⟨W.heap.size, 3, none⟩ = some (.slice pg ng cg) := (obj_cell HA1.out 3).trans rfl
  have b3 : Y0.cell? ⟨W.heap.size + 1, 3, none⟩ = some (.int .i64 (h)) := (obj_cell HT1.out 3).trans rfl
  have p3 : Y0.cell? ⟨W.heap.size + 1 + 1, 3, none⟩ = some (.slice none 0 0) := (obj_cell HZA1.out 3).trans rfl
  have q3 : Y0.cell? ⟨W.heap.size + 1 + 1 + 1, 3, none⟩ = some (.int .i64 0) := (obj_cell HZB1.out 3).trans rfl
  have fp3 := obj_free HZA1.out 3
  have fq3 := obj_free HZB1.out 3
  have a4 : Y0.cell? ⟨W.heap.size, 4, none⟩ = some (.int .i64 (sn)) := (obj_cell HA1.out 4).trans rfl
  have b4 : Y0.cell? ⟨W.heap.size + 1, 4, none⟩ = some (.int .i64 (d)) := (obj_cell HT1.out 4).trans rfl
  have p4 : Y0.cell? ⟨W.heap.size + 1 + 1, 4, none⟩ = some (.int .i64 0) := (obj_cell HZA1.out 4).trans rfl
  have q4 : Y0.cell? ⟨W.heap.size + 1 + 1 + 1, 4, none⟩ = some (.int .i64 0) := (obj_cell HZB1.out 4).trans rfl
  have fp4 := obj_free HZA1.out 4
  have fq4 := obj_free HZB1.out 4
  have a5 : Y0.cell? ⟨W.heap.size, 5, none⟩ = some (.int .i64 0) := (obj_cell HA1.out 5).trans rfl
  have b5 : Y0.cell? ⟨W.heap.size + 1, 5, none⟩ = some (.int .i64 0) := (obj_cell HT1.out 5).trans rfl
  have p5 : Y0.cell? ⟨W.heap.size + 1 + 1, 5, none⟩ = some (.int .i64 0) := (obj_cell HZA1.out 5).trans rfl
  have q5 : Y0.cell? ⟨W.heap.size + 1 + 1 + 1, 5, none⟩ = some (.int .i64 0) := (obj_cell HZB1.out 5).trans rfl
  have fp5 := obj_free HZA1.out 5
  have fq5 := obj_free HZB1.out 5
  have a6 : Y0.cell? ⟨W.heap.size, 6, none⟩ = some (.slice ps ns cs) := (obj_cell HA1.out 6).trans rfl
  have b6 : Y0.cell? ⟨W.heap.size + 1, 6, none⟩ = some (.int .i64 (ng)) := (obj_cell HT1.out 6).trans rfl
  have p6 : Y0.cell? ⟨W.heap.size + 1 + 1, 6, none⟩ = some (.slice none 0 0) := (obj_cell HZA1.out 6).trans rfl
  have q6 : Y0.cell? ⟨W.heap.size + 1 + 1 + 1, 6, none⟩ = some (.int .i64 0) := (obj_cell HZB1.out 6).trans rfl
  have fp6 := obj_free HZA1.out 6
  have fq6 := obj_free HZB1.out 6
  have HI := Lib.hid (s10_info N (c) (.slice pg ng cg) (sn) (.slice ps ns cs))
  have HI1 := Lib.hid (s10_one (N := N) (c := c) (sn := sn) (gv := .slice pg ng cg) (sv := .slice ps ns cs) rfl rfl)
  have HJ0 := Lib.hid (t10_info n 2 (d) (h) (d) (0) (ng))
  have HJ := Lib.hid (t10_info n (judg N h (d)) (d) (h) (d) (0) (ng))
  have HJ1 := Lib.hid (t10_one n (judg N h (d)) (d) (h) (d) (0) (ng))
  have HLA : Hid (∀ w, (∃ x : Later Y0, w = x.to) → w.heap[W.heap.size]? = some (.cells (s10 N c (.slice pg ng cg) sn (.slice ps ns cs)) 125 (0, 0))) := Lib.hid (fun w ⟨x, hx⟩ => hx ▸ (x.below.block _ (lt_of_block HA1.out)).trans HA1.out)
  have HLT : Hid (∀ w, (∃ x : Later Y0, w = x.to) → w.heap[W.heap.size + 1]? = some (.cells (t10 n 2 (d) (h) (d) (0) (ng)) 169 (0, 0))) := Lib.hid (fun w ⟨x, hx⟩ => hx ▸ (x.below.block _ (lt_of_block HT1.out)).trans HT1.out)
  have HJQ : Hid (∀ xx : Later Y0, Calls Try.prog 155 #[.agg (s10 N c (.slice pg ng cg) sn (.slice ps ns cs)), .agg (t10 n 2 (d) (h) (d) (0) (ng))] xx.to fun e w'' => e = .returned (.agg (t10 n (judg N h (d)) (d) (h) (d) (0) (ng))) ∧ ∃ y : Later Y0, w'' = y.to) := Lib.hid fun xx => (rjudge10 N c sn n 2 _ h _ _ _ _ _ hN ⟨hh.1, by omega⟩).mono fun e w k => ⟨k.1, ⟨w, bthen xx.below k.2⟩, rfl⟩
  have HZ2 : Hid (∀ w, Below Y0.heap.size Y0 w → w.heap[W.heap.size + 1 + 1]? = Y0.heap[W.heap.size + 1 + 1]? ∧ w.heap[W.heap.size + 1 + 1 + 1]? = Y0.heap[W.heap.size + 1 + 1 + 1]?) := Lib.hid fun w hb => ⟨hb.block _ (lt_of_block HZA1.out), hb.block _ (lt_of_block HZB1.out)⟩
  clear a0 b0 p0 q0 fp0 fq0 a1 b1 p1 q1 fp1 fq1 a2 b2 p2 q2 fp2 fq2 a3 b3 p3 q3 fp3 fq3 a4 b4 p4 q4 fp4 fq4 a5 b5 p5 q5 fp5 fq5 a6 b6 p6 q6 fp6 fq6
  generalize hCS : s10 N c (.slice pg ng cg) sn (.slice ps ns cs) = cS at *
  generalize hCT : t10 n 2 (d) (h) (d) (0) (ng) = cT at *
  generalize hCR : t10 n (judg N h (d)) (d) (h) (d) (0) (ng) = cR at *
  have HCS := Lib.hid hCS
  have HCR := Lib.hid hCR
  clear hCS hCT hCR
  have hsz : Hid (cS.size = 7 ∧ cR.size = 7) := Lib.hid (by rw [← HCS.out, ← HCR.out]; exact ⟨rfl, rfl⟩)
  refine wp_region_later_tail 4 (by kernel_rfl) (by kernel_rfl) ?_
  simp only [List.take_succ_cons, List.take_zero, List.drop_succ_cons, List.drop_zero]
  repeat (first
    | (go_big_quiet_want; refine quiet_load_row 125 (.tmp 2) rfl W.heap.size rfl 125 cS (0, 0) _ HLA.out Try.underlying125 rfl HI.out ?_; go_big_quiet_on; go_frame)
    | (go_big_quiet_want; refine quiet_load_row 169 (.tmp 3) rfl (W.heap.size + 1) rfl 169 cT (0, 0) _ HLT.out Try.underlying169 rfl HJ0.out ?_; go_big_quiet_on; go_frame)
    | go_big_quiet_step ((go_at_call 155; exact HJQ.out _)))
  refine wpQuiet_nil ?_
  intro w2 hw'
  obtain ⟨⟨w2', hb2⟩, hw2⟩ := hw'
  obtain rfl : w2 = w2' := hw2
  have HP2 := Lib.hid ((HZ2.out w2 hb2).1.trans HZA1.out)
  have HQ2 := Lib.hid ((HZ2.out w2 hb2).2.trans HZB1.out)
  have HQ3 := Lib.hid (((Frm.refl (fun k => k = W.heap.size + 1 + 1) w2).setRow (g := W.heap.size + 1 + 1) rfl cS).obj HQ2.out (by omega))
  have HB2 := Lib.hid (bthen HB1.out hb2)
  have HP3 : Hid ((w2.setRow (W.heap.size + 1 + 1) cS).heap[W.heap.size + 1 + 1]? = some (.cells cS 125 (0, 0))) := Lib.hid (setRow_heap _ _ _ _ _ _ HP2.out)
  have HP4 := Lib.hid (((Frm.refl (fun k => k = W.heap.size + 1 + 1 + 1) (w2.setRow (W.heap.size + 1 + 1) cS)).setRow (g := W.heap.size + 1 + 1 + 1) rfl cR).obj HP3.out (by omega))
  have HQ4 : Hid (((w2.setRow (W.heap.size + 1 + 1) cS).setRow (W.heap.size + 1 + 1 + 1) cR).heap[W.heap.size + 1 + 1 + 1]? = some (.cells cR 169 (0, 0))) := Lib.hid (setRow_heap _ _ _ _ _ _ HQ3.out)
  have HB4 := Lib.hid (bsetRow (bsetRow HB2.out (show W.heap.size ≤ W.heap.size + 1 + 1 by omega) cS) (show W.heap.size ≤ W.heap.size + 1 + 1 + 1 by omega) cR)
  clear hb2
  go_wp2_with (first
    | (refine wpList_store_row rfl 125 (.tmp 4) (.tmp 67) rfl (W.heap.size + 1 + 1) cS rfl rfl 125 _ HP2.out HI.out (by rw [hsz.out.1]; rfl) HI1.out ?_)
    | (refine wpList_store_row rfl 169 (.tmp 5) (.tmp 70) rfl (W.heap.size + 1 + 1 + 1) cR rfl rfl 169 _ HQ3.out HJ.out (by rw [hsz.out.2]; rfl) HJ1.out ?_))
  exact bodyPost_ret (results_rows_tmp (p := 4) (q := 5) (u := 6) (by kernel_rfl) _ _ (W.heap.size + 1 + 1) (W.heap.size + 1 + 1 + 1) 125 169 _ _ (0, 0) (0, 0) _ _ _ rfl rfl rfl HP4.out HQ4.out Try.underlying125 rfl HI.out Try.underlying169 rfl HJ.out) rfl ⟨by rw [← HCS.out, ← HCR.out]; rfl, HB4.out⟩

end Go.Proofs.Ytjadapjjilegnaa
