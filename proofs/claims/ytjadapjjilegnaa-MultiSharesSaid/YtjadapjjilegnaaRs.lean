/-
  The document's Step of layer 10 by contract, under way.
-/
import Derived.Test.YtjadapjjilegnaaRj
import Derived.BigRegion
namespace Go.Proofs.Ytjadapjjilegnaa
open Go.RowKit
set_option linter.unusedVariables false

/-- Seven cells set one by one. -/
def put7 (w : World) (p : Nat) (v0 v1 v2 v3 v4 v5 v6 : Value) : World := ((((((w.setCell ⟨p, 0, none⟩ v0).setCell ⟨p, 1, none⟩ v1).setCell ⟨p, 2, none⟩ v2).setCell ⟨p, 3, none⟩ v3).setCell ⟨p, 4, none⟩ v4).setCell ⟨p, 5, none⟩ v5).setCell ⟨p, 6, none⟩ v6
theorem put7_is {w : World} {p : Nat} {x0 x1 x2 x3 x4 x5 x6 : Value} {T : TypeId} {m : Nat × Nat} (h : w.heap[p]? = some (.cells #[x0, x1, x2, x3, x4, x5, x6] T m)) (v0 v1 v2 v3 v4 v5 v6 : Value) : (put7 w p v0 v1 v2 v3 v4 v5 v6).heap[p]? = some (.cells #[v0, v1, v2, v3, v4, v5, v6] T m) := by
  have := obj_setCell (i := 6) v6 (obj_setCell (i := 5) v5 (obj_setCell (i := 4) v4 (obj_setCell (i := 3) v3 (obj_setCell (i := 2) v2 (obj_setCell (i := 1) v1 (obj_setCell (i := 0) v0 h))))))
  simpa [put7] using this
theorem put7_frm (w : World) (p : Nat) (v0 v1 v2 v3 v4 v5 v6 : Value) : Frm (fun k => k = p) w (put7 w p v0 v1 v2 v3 v4 v5 v6) :=
  (((((((Frm.refl (fun k => k = p) w).setCell (p := ⟨p, 0, none⟩) rfl _).setCell (p := ⟨p, 1, none⟩) rfl _).setCell (p := ⟨p, 2, none⟩) rfl _).setCell (p := ⟨p, 3, none⟩) rfl _).setCell (p := ⟨p, 4, none⟩) rfl _).setCell (p := ⟨p, 5, none⟩) rfl _).setCell (p := ⟨p, 6, none⟩) rfl _
theorem results_cells_tmp {fn : Func} {p q u : Tmp} {ty tz : TypeId} (h : fn.results = #[.cell p ty, .cell q tz, .tmp u]) (tmps : Array Value) (P : Program) (w : World) :
    (results fn tmps).run P w = ((asAddr (tmps.getD p undef)).run P w).andThen fun a w1 => ((loadVar ty a).run P w1).andThen fun v w2 => ((asAddr (tmps.getD q undef)).run P w2).andThen fun b w3 => ((loadVar tz b).run P w3).andThen fun x w4 => .ok (.tuple #[v, x, tmps.getD u undef]) w4 := by
  simp only [results, h]
  simp [Sem.run_bind, Result.andThen]
theorem results_rows_tmp {P : Program} {fn : Func} {p q u : Tmp} {ty tz : TypeId} (h : fn.results = #[.cell p ty, .cell q tz, .tmp u]) (tmps : Array Value) (w : World) (g b : Nat) (t t2 : TypeId) (cs ds : Array Value) (fr fr2 : Nat × Nat) (d d2 : TypeDesc) (E : Value)
    (hp : tmps.getD p undef = .pointer (some ⟨g, 0, none⟩)) (hq : tmps.getD q undef = .pointer (some ⟨b, 0, none⟩)) (hE : tmps.getD u undef = E) (hg : w.heap[g]? = some (.cells cs t fr)) (hb : w.heap[b]? = some (.cells ds t2 fr2))
    (hu : P.underlying ty = some d) (hd : (match d with | .struct _ | .array _ _ => true | _ => false) = true) (hi : (P.info? ty).map (·.size) = some cs.size)
    (hu2 : P.underlying tz = some d2) (hd2 : (match d2 with | .struct _ | .array _ _ => true | _ => false) = true) (hi2 : (P.info? tz).map (·.size) = some ds.size) :
    (results fn tmps).run P w = .ok (.tuple #[.agg cs, .agg ds, E]) w := by
  subst hE
  rw [results_cells_tmp h, hp, hq]
  simp only [asAddr, Sem.run_pure, Result.andThen_ok]
  rw [run_loadVar_row w g t ty cs fr d hg hu hd hi]
  simp only [Result.andThen_ok]
  rw [run_loadVar_row w b t2 tz ds fr2 d2 hb hu2 hd2 hi2]
  rfl

set_option maxHeartbeats 2000000 in
set_option maxRecDepth 100000 in
theorem rstep_done {W : World} (N c sn n g d h l a o : Int) (pg ps : Option Addr) (ng cg ns cs : Nat) (g0 : (g == 0) = false) (g1 : (g == 1) = false) (g2 : (g == 2) = false) (g3 : (g == 3) = false) (g4 : (g == 4) = false) :
    Calls Try.prog 108 #[.agg (s10 N c (.slice pg ng cg) sn (.slice ps ns cs)), .agg (t10 n g d h l a o)] W fun e w' => e = .returned (.tuple #[.agg (s10 N c (.slice pg ng cg) sn (.slice ps ns cs)), .agg (t10 n g d h l a o), .int .i64 0]) ∧ Below W.heap.size W w' := by
  go_enter Try.func108, Try.ntmps108
  go_upto_region 1 with fail
  generalize hX : World.alloc (World.alloc (World.alloc (W.alloc (.cells _ 125)) (.cells _ 169)) (.cells _ 125)) (.cells _ 169) = X at *
  have HA0 : Hid (B10 X W.heap.size (s10 N c (.slice pg ng cg) sn (.slice ps ns cs))) := hX ▸ Lib.hid (obj_old _ (obj_old _ (obj_old _ (obj_new W _))))
  have HT : Hid (X.heap[W.heap.size + 1]? = some (.cells (t10 n g d h l a o) 169 (0, 0))) := hX ▸ Lib.hid (obj_old _ (obj_old _ (by have := obj_new (W.alloc (.cells (s10 N c (.slice pg ng cg) sn (.slice ps ns cs)) 125)) (.cells (t10 n g d h l a o) 169); simpa using this)))
  have t1 : X.cell? ⟨W.heap.size + 1, 1, none⟩ = some (.int .i64 g) := (obj_cell HT.out 1).trans rfl
  have HZA : Hid (X.heap[W.heap.size + 1 + 1]? = some (.cells #[.int .i64 0, .int .i64 0, .int .i64 0, .slice none 0 0, .int .i64 0, .int .i64 0, .slice none 0 0] 125 (0, 0))) := hX ▸ Lib.hid (obj_old _ (by have := obj_new ((W.alloc (.cells (s10 N c (.slice pg ng cg) sn (.slice ps ns cs)) 125)).alloc (.cells (t10 n g d h l a o) 169)) (.cells #[.int .i64 0, .int .i64 0, .int .i64 0, .slice none 0 0, .int .i64 0, .int .i64 0, .slice none 0 0] 125); simpa using this))
  have HZB : Hid (X.heap[W.heap.size + 1 + 1 + 1]? = some (.cells #[.int .i64 0, .int .i64 0, .int .i64 0, .int .i64 0, .int .i64 0, .int .i64 0, .int .i64 0] 169 (0, 0))) := hX ▸ Lib.hid (by have := obj_new (((W.alloc (.cells (s10 N c (.slice pg ng cg) sn (.slice ps ns cs)) 125)).alloc (.cells (t10 n g d h l a o) 169)).alloc (.cells #[.int .i64 0, .int .i64 0, .int .i64 0, .slice none 0 0, .int .i64 0, .int .i64 0, .slice none 0 0] 125)) (.cells #[.int .i64 0, .int .i64 0, .int .i64 0, .int .i64 0, .int .i64 0, .int .i64 0, .int .i64 0] 169); simpa using this)
  have HB0 : Hid (Below W.heap.size W X) := hX ▸ Lib.hid (balloc (balloc (balloc (balloc (Below.refl _ _) _) _) _) _)
  clear hX
  go_wp2_with fail
  have a0 : X.cell? ⟨W.heap.size, 0, none⟩ = some (.int .i64 N) := (obj_cell HA0.out 0).trans rfl
  have b0 : X.cell? ⟨W.heap.size + 1, 0, none⟩ = some (.int .i64 n) := (obj_cell HT.out 0).trans rfl
  have p0 : X.cell? ⟨W.heap.size + 1 + 1, 0, none⟩ = some (.int .i64 0) := (obj_cell HZA.out 0).trans rfl
  have q0 : X.cell? ⟨W.heap.size + 1 + 1 + 1, 0, none⟩ = some (.int .i64 0) := (obj_cell HZB.out 0).trans rfl
  have fp0 := obj_free HZA.out 0
  have fq0 := obj_free HZB.out 0
  have a1 : X.cell? ⟨W.heap.size, 1, none⟩ = some (.int .i64 c) := (obj_cell HA0.out 1).trans rfl
  have p1 : X.cell? ⟨W.heap.size + 1 + 1, 1, none⟩ = some (.int .i64 0) := (obj_cell HZA.out 1).trans rfl
  have q1 : X.cell? ⟨W.heap.size + 1 + 1 + 1, 1, none⟩ = some (.int .i64 0) := (obj_cell HZB.out 1).trans rfl
  have fp1 := obj_free HZA.out 1
  have fq1 := obj_free HZB.out 1
  have a2 : X.cell? ⟨W.heap.size, 2, none⟩ = some (.int .i64 c) := (obj_cell HA0.out 2).trans rfl
  have b2 : X.cell? ⟨W.heap.size + 1, 2, none⟩ = some (.int .i64 d) := (obj_cell HT.out 2).trans rfl
  have p2 : X.cell? ⟨W.heap.size + 1 + 1, 2, none⟩ = some (.int .i64 0) := (obj_cell HZA.out 2).trans rfl
  have q2 : X.cell? ⟨W.heap.size + 1 + 1 + 1, 2, none⟩ = some (.int .i64 0) := (obj_cell HZB.out 2).trans rfl
  have fp2 := obj_free HZA.out 2
  have fq2 := obj_free HZB.out 2
  have a3 : X.cell? ⟨W.heap.size, 3, none⟩ = some (.slice pg ng cg) := (obj_cell HA0.out 3).trans rfl
  have b3 : X.cell? ⟨W.heap.size + 1, 3, none⟩ = some (.int .i64 h) := (obj_cell HT.out 3).trans rfl
  have p3 : X.cell? ⟨W.heap.size + 1 + 1, 3, none⟩ = some (.slice none 0 0) := (obj_cell HZA.out 3).trans rfl
  have q3 : X.cell? ⟨W.heap.size + 1 + 1 + 1, 3, none⟩ = some (.int .i64 0) := (obj_cell HZB.out 3).trans rfl
  have fp3 := obj_free HZA.out 3
  have fq3 := obj_free HZB.out 3
  have a4 : X.cell? ⟨W.heap.size, 4, none⟩ = some (.int .i64 sn) := (obj_cell HA0.out 4).trans rfl
  have b4 : X.cell? ⟨W.heap.size + 1, 4, none⟩ = some (.int .i64 l) := (obj_cell HT.out 4).trans rfl
  have p4 : X.cell? ⟨W.heap.size + 1 + 1, 4, none⟩ = some (.int .i64 0) := (obj_cell HZA.out 4).trans rfl
  have q4 : X.cell? ⟨W.heap.size + 1 + 1 + 1, 4, none⟩ = some (.int .i64 0) := (obj_cell HZB.out 4).trans rfl
  have fp4 := obj_free HZA.out 4
  have fq4 := obj_free HZB.out 4
  have a5 : X.cell? ⟨W.heap.size, 5, none⟩ = some (.int .i64 0) := (obj_cell HA0.out 5).trans rfl
  have b5 : X.cell? ⟨W.heap.size + 1, 5, none⟩ = some (.int .i64 a) := (obj_cell HT.out 5).trans rfl
  have p5 : X.cell? ⟨W.heap.size + 1 + 1, 5, none⟩ = some (.int .i64 0) := (obj_cell HZA.out 5).trans rfl
  have q5 : X.cell? ⟨W.heap.size + 1 + 1 + 1, 5, none⟩ = some (.int .i64 0) := (obj_cell HZB.out 5).trans rfl
  have fp5 := obj_free HZA.out 5
  have fq5 := obj_free HZB.out 5
  have a6 : X.cell? ⟨W.heap.size, 6, none⟩ = some (.slice ps ns cs) := (obj_cell HA0.out 6).trans rfl
  have b6 : X.cell? ⟨W.heap.size + 1, 6, none⟩ = some (.int .i64 o) := (obj_cell HT.out 6).trans rfl
  have p6 : X.cell? ⟨W.heap.size + 1 + 1, 6, none⟩ = some (.slice none 0 0) := (obj_cell HZA.out 6).trans rfl
  have q6 : X.cell? ⟨W.heap.size + 1 + 1 + 1, 6, none⟩ = some (.int .i64 0) := (obj_cell HZB.out 6).trans rfl
  have fp6 := obj_free HZA.out 6
  have fq6 := obj_free HZB.out 6
  have HE : Hid (∀ y, y = (put7 (put7 X (W.heap.size + 1 + 1) (.int .i64 N) (.int .i64 c) (.int .i64 c) (.slice pg ng cg) (.int .i64 sn) (.int .i64 0) (.slice ps ns cs)) (W.heap.size + 1 + 1 + 1) (.int .i64 n) (.int .i64 g) (.int .i64 d) (.int .i64 h) (.int .i64 l) (.int .i64 a) (.int .i64 o)).drew → y.heap[W.heap.size + 1 + 1]? = some (.cells (s10 N c (.slice pg ng cg) sn (.slice ps ns cs)) 125 (0, 0)) ∧ y.heap[W.heap.size + 1 + 1 + 1]? = some (.cells (t10 n g d h l a o) 169 (0, 0)) ∧ Below W.heap.size W y) := Lib.hid (by
    intro y hy
    have e1 := put7_is HZA.out (.int .i64 N) (.int .i64 c) (.int .i64 c) (.slice pg ng cg) (.int .i64 sn) (.int .i64 0) (.slice ps ns cs)
    have f1 := put7_frm X (W.heap.size + 1 + 1) (.int .i64 N) (.int .i64 c) (.int .i64 c) (.slice pg ng cg) (.int .i64 sn) (.int .i64 0) (.slice ps ns cs)
    have e2 := put7_is (f1.obj HZB.out (by omega)) (.int .i64 n) (.int .i64 g) (.int .i64 d) (.int .i64 h) (.int .i64 l) (.int .i64 a) (.int .i64 o)
    have f2 := put7_frm (put7 X (W.heap.size + 1 + 1) (.int .i64 N) (.int .i64 c) (.int .i64 c) (.slice pg ng cg) (.int .i64 sn) (.int .i64 0) (.slice ps ns cs)) (W.heap.size + 1 + 1 + 1) (.int .i64 n) (.int .i64 g) (.int .i64 d) (.int .i64 h) (.int .i64 l) (.int .i64 a) (.int .i64 o)
    have e3 := f2.obj e1 (by omega)
    have hb2 : Below W.heap.size W (put7 X (W.heap.size + 1 + 1) (.int .i64 N) (.int .i64 c) (.int .i64 c) (.slice pg ng cg) (.int .i64 sn) (.int .i64 0) (.slice ps ns cs)) := HB0.out.trans (f1.below HB0.out.size fun k e => by omega)
    have hb3 := hb2.trans (f2.below hb2.size fun k e => by omega)
    clear f2
    generalize put7 (put7 X (W.heap.size + 1 + 1) (.int .i64 N) (.int .i64 c) (.int .i64 c) (.slice pg ng cg) (.int .i64 sn) (.int .i64 0) (.slice ps ns cs)) (W.heap.size + 1 + 1 + 1) (.int .i64 n) (.int .i64 g) (.int .i64 d) (.int .i64 h) (.int .i64 l) (.int .i64 a) (.int .i64 o) = Z at *
    subst hy
    exact ⟨e3, e2, Below.drew hb3⟩)
  have HI := Lib.hid (s10_info N c (.slice pg ng cg) sn (.slice ps ns cs))
  have HJ := Lib.hid (t10_info n g d h l a o)
  unfold put7 at HE
  go_region
  generalize hY : World.drew _ = Y
  obtain ⟨y1, y2, y3⟩ := HE.out Y hY.symm
  have H1 := Lib.hid y1
  have H2 := Lib.hid y2
  have H3 := Lib.hid y3
  clear hY y1 y2 y3 HE
  go_wp2_with fail
  exact bodyPost_ret (results_rows_tmp (p := 4) (q := 5) (u := 6) (by kernel_rfl) _ _ (W.heap.size + 1 + 1) (W.heap.size + 1 + 1 + 1) 125 169 _ _ (0, 0) (0, 0) _ _ _ rfl rfl rfl H1.out H2.out Try.underlying125 rfl HI.out Try.underlying169 rfl HJ.out) rfl ⟨rfl, H3.out⟩
end Go.Proofs.Ytjadapjjilegnaa
