/-
  Scan of package gate, a step that is refused, Of, and the statements' own example, by contract. Conditions: at most 32 cells, numbers from nought; fewer than 2^61 steps.
-/
import Derived.Test.YtdbjeaploanalaaGate4
namespace Go.Proofs.Ytdbjeaploanalaa
open Go.RowKit

theorem cons_of {l : List Int} {n : Nat} (h : l.length = n + 1) : ∃ x t, l = x :: t ∧ t.length = n := by
  cases l with
  | nil => simp at h
  | cons x t => exact ⟨x, t, rfl, by simpa using h⟩
theorem built_scan (l0 : List Int) (h : l0.length = 33) (most : Int) :
    Try.prog.built 86 [(0, .agg (l0.map (Value.int .i64)).toArray), (2, .int .i64 most)] = some ((l0 ++ [0, most]).map (Value.int .i64)).toArray := by
  obtain ⟨x0, l1, rfl, h1⟩ := cons_of h
  obtain ⟨x1, l2, rfl, h2⟩ := cons_of h1
  obtain ⟨x2, l3, rfl, h3⟩ := cons_of h2
  obtain ⟨x3, l4, rfl, h4⟩ := cons_of h3
  obtain ⟨x4, l5, rfl, h5⟩ := cons_of h4
  obtain ⟨x5, l6, rfl, h6⟩ := cons_of h5
  obtain ⟨x6, l7, rfl, h7⟩ := cons_of h6
  obtain ⟨x7, l8, rfl, h8⟩ := cons_of h7
  obtain ⟨x8, l9, rfl, h9⟩ := cons_of h8
  obtain ⟨x9, l10, rfl, h10⟩ := cons_of h9
  obtain ⟨x10, l11, rfl, h11⟩ := cons_of h10
  obtain ⟨x11, l12, rfl, h12⟩ := cons_of h11
  obtain ⟨x12, l13, rfl, h13⟩ := cons_of h12
  obtain ⟨x13, l14, rfl, h14⟩ := cons_of h13
  obtain ⟨x14, l15, rfl, h15⟩ := cons_of h14
  obtain ⟨x15, l16, rfl, h16⟩ := cons_of h15
  obtain ⟨x16, l17, rfl, h17⟩ := cons_of h16
  obtain ⟨x17, l18, rfl, h18⟩ := cons_of h17
  obtain ⟨x18, l19, rfl, h19⟩ := cons_of h18
  obtain ⟨x19, l20, rfl, h20⟩ := cons_of h19
  obtain ⟨x20, l21, rfl, h21⟩ := cons_of h20
  obtain ⟨x21, l22, rfl, h22⟩ := cons_of h21
  obtain ⟨x22, l23, rfl, h23⟩ := cons_of h22
  obtain ⟨x23, l24, rfl, h24⟩ := cons_of h23
  obtain ⟨x24, l25, rfl, h25⟩ := cons_of h24
  obtain ⟨x25, l26, rfl, h26⟩ := cons_of h25
  obtain ⟨x26, l27, rfl, h27⟩ := cons_of h26
  obtain ⟨x27, l28, rfl, h28⟩ := cons_of h27
  obtain ⟨x28, l29, rfl, h29⟩ := cons_of h28
  obtain ⟨x29, l30, rfl, h30⟩ := cons_of h29
  obtain ⟨x30, l31, rfl, h31⟩ := cons_of h30
  obtain ⟨x31, l32, rfl, h32⟩ := cons_of h31
  obtain ⟨x32, l33, rfl, h33⟩ := cons_of h32
  obtain rfl : l33 = [] := List.eq_nil_of_length_eq_zero h33
  kernel_rfl
theorem built_none (most : Int) : Try.prog.built 86 [(2, .int .i64 most)] = some (scC [] 0 most) := by kernel_rfl
theorem built_some {ids : List Int} (h : ids.length ≤ 32) (most : Int) : Try.prog.built 86 [(0, .agg (grC ids)), (2, .int .i64 most)] = some (scC ids 0 most) := by
  have := built_scan (padI ids ++ [(ids.length : Int)]) (by simp [padI_len h]) most
  rw [List.append_assoc] at this
  exact this
section
variable {P : Program} {ops : Array Oper} {rest : List Oper} {o : Oper} {a : Act} {w : World} {Q : Exit → Act → World → Prop}
theorem wpList_build1 (hg : o.guard = none) (t : TypeId) (i : Nat) (x : Operand) (ho : o.op = .build t #[(i, x)]) (v : Value) (hx : a.eval x = v) (cells : Array Value)
    (hb : P.built t [(i, v)] = some cells) (h : wpList P ops Q rest (a.put o.dst (.agg cells)) w) : wpList P ops Q (o :: rest) a w := by
  subst hx
  have e : P.built t ((#[(i, x)] : Array (Nat × Operand)).map fun (i, x) => (i, a.eval x)).toList = some cells := by simpa using hb
  exact wpList_build hg t _ ho (by rw [e]; rfl) (by rw [e]; exact h)
theorem wpList_build2 (hg : o.guard = none) (t : TypeId) (i j : Nat) (x y : Operand) (ho : o.op = .build t #[(i, x), (j, y)]) (u v : Value) (hx : a.eval x = u) (hy : a.eval y = v) (cells : Array Value)
    (hb : P.built t [(i, u), (j, v)] = some cells) (h : wpList P ops Q rest (a.put o.dst (.agg cells)) w) : wpList P ops Q (o :: rest) a w := by
  subst hx hy
  have e : P.built t ((#[(i, x), (j, y)] : Array (Nat × Operand)).map fun (i, x) => (i, a.eval x)).toList = some cells := by simpa using hb
  exact wpList_build hg t _ ho (by rw [e]; rfl) (by rw [e]; exact h)
end
theorem results_row {P : Program} {fn : Func} {p : Tmp} {ty : TypeId} (h : fn.results = #[.cell p ty]) (tmps : Array Value) (w : World) (g : Nat) (t : TypeId) (cs : Array Value) (d : TypeDesc)
    (hp : tmps.getD p undef = .pointer (some ⟨g, 0, none⟩)) (hg : w.heap[g]? = some (.cells cs t (0, 0)))
    (hu : P.underlying ty = some d) (hd : (match d with | .struct _ | .array _ _ => true | _ => false) = true) (hi : (P.info? ty).map (·.size) = some cs.size) :
    (results fn tmps).run P w = .ok (.agg cs) w := results_cell_row h tmps w g t cs (0, 0) d hp hg hu hd hi

/-- A block of another type turns: the error stays what it is. -/
theorem Refused.row {W w : World} {E : Value} {n : Int} (h : Refused W w E n) {g : Nat} {old : Array Value} {m : Nat × Nat} (hg : W.heap.size ≤ g) (ho : w.heap[g]? = some (.cells old 86 m)) (cs : Array Value) : Refused W (w.setRow g cs) E n := by
  obtain ⟨q, h1, h2, h3⟩ := h
  have hf : Frm (fun k => k = g) w (w.setRow g cs) := (Frm.refl (fun k => k = g) w).setRow rfl cs
  refine ⟨q, h1, Held.of_frm hf ?_ _ _ _ h2, bsetRow h3 hg cs⟩
  rintro k c T m' rfl hk
  rw [ho] at hk
  simp at hk
  rw [← hk.2.1]
  decide
theorem scC_info {ids : List Int} (h : ids.length ≤ 32) (k : Nat) (m : Int) : (Try.prog.info? 86).map (·.size) = some (scC ids k m).size := by
  rw [(sc_of h k m).size]
  kernel_rfl

set_option maxRecDepth 100000 in
theorem gscan_nil (most : Int) (W : World) :
    Calls Try.prog 49 #[.pointer none, .int .i64 most] W fun e w' => e = .returned (.agg (scC [] 0 most)) ∧ Below W.heap.size W w' := by
  have hb := built_none most
  have hS := sc_of (ids := []) (by simp) 0 most
  have hi := scC_info (ids := []) (by simp) 0 most
  generalize scC [] 0 most = cs at *
  go_enter Try.func49, Try.ntmps49
  go_wp2_with (first
    | (refine wpList_build1 rfl 86 2 (.tmp 7) rfl _ rfl cs hb ?_)
    | (refine wpList_store_row rfl 86 (.tmp 4) (.tmp 8) rfl W.heap.size cs rfl rfl 86 _ (obj_new _ _) hi (by rw [hS.size]; rfl) hS.one ?_))
  exact bodyPost_ret (results_row (p := 4) (by kernel_rfl) _ _ W.heap.size 86 cs _ rfl (setRow_heap _ _ _ _ _ _ (obj_new _ _)) Try.underlying86 rfl hi) rfl ⟨rfl, bsetRow (balloc (Below.refl _ _) _) (Nat.le_refl _) cs⟩
set_option maxRecDepth 100000 in
theorem gscan_some {W : World} {g : Nat} {ids : List Int} (h : Gr W g ids) (most : Int) :
    Calls Try.prog 49 #[.pointer (some ⟨g, 0, none⟩), .int .i64 most] W fun e w' => e = .returned (.agg (scC ids 0 most)) ∧ Below W.heap.size W w' := by
  have HG := Lib.hid h.1
  have hb := built_some h.2 most
  have hS := sc_of h.2 0 most
  have hi := scC_info h.2 0 most
  have hig : (Try.prog.info? 68).map (·.size) = some (grC ids).size := by rw [grC_size h.2]; kernel_rfl
  clear h
  generalize scC ids 0 most = cs at *
  generalize grC ids = gs at *
  go_enter Try.func49, Try.ntmps49
  go_wp2_with (first
    | (refine wpList_build2 rfl 86 0 2 (.tmp 11) (.tmp 12) rfl _ _ rfl rfl cs hb ?_)
    | (refine wpList_load_row rfl 68 (.tmp 10) rfl g rfl 68 gs (0, 0) _ (obj_old _ HG.out) Try.underlying68 rfl hig ?_)
    | (refine wpList_store_row rfl 86 (.tmp 4) (.tmp 13) rfl W.heap.size cs rfl rfl 86 _ (obj_new _ _) hi (by rw [hS.size]; rfl) hS.one ?_))
  exact bodyPost_ret (results_row (p := 4) (by kernel_rfl) _ _ W.heap.size 86 cs _ rfl (setRow_heap _ _ _ _ _ _ (obj_new _ _)) Try.underlying86 rfl hi) rfl ⟨rfl, bsetRow (balloc (Below.refl _ _) _) (Nat.le_refl _) cs⟩

set_option maxHeartbeats 1000000 in
set_option maxRecDepth 100000 in
theorem sstep_none {cs : Array Value} {ids xs : List Int} {seen : Nat} {least : Int} {W : World} {b : Nat} {v : Value} {st z : Int} (h : Sc cs ids seen least) (hl : ids.length ≤ 32) (hs : seen < ids.length) (ha : Ar W b v xs st) (hz : ids.getD seen 0 = z) (hx : (xs.length : Int) ≤ z) :
    Calls Try.prog 52 #[.agg cs, .pointer (some ⟨b, 0, none⟩)] W fun e w' => ∃ E, e = .returned (.tuple #[.agg cs, E]) ∧ Refused W w' E 3 := by
  have HS := Lib.hid h
  have HA := Lib.hid ha
  have HX := Lib.hid hx
  have h35 := h.size
  have c33 : cs[33]? = some (.int .i64 seen) := h.seen
  have cz : cs[seen]? = some (.int .i64 z) := by rw [h.nth seen (by omega), padI_at hs, hz]
  have hsn : seen < 32 := by omega
  have hi : (Try.prog.info? 86).map (·.size) = some cs.size := by rw [h35]; kernel_rfl
  have hg : ∀ o : Obj, ((W.alloc (.cells cs 86)).alloc o).heap[W.heap.size]? = some (.cells cs 86 (0, 0)) := fun o => obj_old _ (obj_new _ _)
  have hr : ∀ o : Array Value, ((W.alloc (.cells cs 86)).alloc (.cells o 86)).heap[W.heap.size + 1]? = some (.cells o 86 (0, 0)) := fun o => by
    have := obj_new (W.alloc (.cells cs 86)) (.cells o 86)
    simpa using this
  clear h ha hx hz
  go_enter Try.func52, Try.ntmps52
  go_wp2_with (first
    | (go_at_call 50; refine (sdone HS.out _).mono ?_; rintro e w1 ⟨rfl, hb⟩; have HB := Lib.hid (bthen (balloc (balloc (Below.refl _ _) _) _) hb); have hg1 := (hb.block W.heap.size (by simp; omega)).trans (hg _); have hr1 := (hb.block (W.heap.size + 1) (by simp)).trans (hr _); have k33 := (obj_cell hg1 33).trans c33; have kz := (obj_cell hg1 seen).trans cz; clear hb; rw [decide_eq_false (show ¬ ids.length ≤ seen by omega)])
    | (go_at_call 25; refine (load_none z _ b v xs st (HA.out.keepB HB.out) (.inr HX.out)).mono ?_; rintro e w3 ⟨rfl, hw⟩; have HR := Lib.hid ((refused_of hw).after HB.out); have hb3 : Below w1.heap.size w1 w3 := (hw ▸ (Below.refl _ _).alloc (Nat.le_refl _) _); have hg3 := (hb3.block _ (lt_of_block hg1)).trans hg1; have hr3 := (hb3.block _ (lt_of_block hr1)).trans hr1; clear hw hb3 hg1 hr1 k33 kz)
    | (refine wpList_load_row rfl 86 (.tmp 2) rfl W.heap.size rfl 86 cs (0, 0) _ (hg _) Try.underlying86 rfl hi ?_)
    | (refine wpList_load_row rfl 86 (.tmp 2) rfl W.heap.size rfl 86 cs (0, 0) _ hg3 Try.underlying86 rfl hi ?_)
    | (refine wpList_store_row rfl 86 (.tmp 4) (.tmp 31) rfl (W.heap.size + 1) cs rfl rfl 86 _ hr3 hi (by rw [h35]; rfl) HS.out.one ?_))
  refine bodyPost_ret (results_row_tmp (p := 4) (u := 5) (by kernel_rfl) _ _ (W.heap.size + 1) 86 cs (0, 0) _ rfl (setRow_heap _ _ _ _ _ _ hr3) Try.underlying86 rfl hi) rfl ⟨_, rfl, ?_⟩
  exact HR.out.row (Nat.le_succ _) hr3 cs

/-- A scan as a value: whatever cells it has. -/
theorem gscan_nil' (most : Int) (W : World) :
    Calls Try.prog 49 #[.pointer none, .int .i64 most] W fun e w' => ∃ cs, e = .returned (.agg cs) ∧ Sc cs [] 0 most ∧ Below W.heap.size W w' :=
  (gscan_nil most W).mono fun _ _ ⟨he, hb⟩ => ⟨_, he, sc_of (by simp) 0 most, hb⟩
theorem gscan_some' {W : World} {g : Nat} {ids : List Int} (h : Gr W g ids) (most : Int) :
    Calls Try.prog 49 #[.pointer (some ⟨g, 0, none⟩), .int .i64 most] W fun e w' => ∃ cs, e = .returned (.agg cs) ∧ Sc cs ids 0 most ∧ Below W.heap.size W w' :=
  (gscan_some h most).mono fun _ _ ⟨he, hb⟩ => ⟨_, he, sc_of h.2 0 most, hb⟩

/-! A scan in a variable of the caller's -/
theorem stored_new {w X : World} {Z cs : Array Value} {T : TypeId} (h : (w.alloc (.cells Z T)).setRow w.heap.size cs = X) : X.heap[w.heap.size]? = some (.cells cs T (0, 0)) ∧ Below w.heap.size w X := by
  subst h
  exact ⟨setRow_heap _ _ _ _ _ _ (obj_new _ _), bsetRow (balloc (Below.refl _ _) _) (Nat.le_refl _) cs⟩
theorem wpList_load_row_g {P : Program} {ops : Array Oper} {rest : List Oper} {o : Oper} {a : Act} {w : World} {Q : Exit → Act → World → Prop} (hw : Region.wanted o (yielded ops a.tmps) = true) (ty : TypeId) (x : Operand) (ho : o.op = .load ty x)
    (g : Nat) (hx : a.eval x = .pointer (some ⟨g, 0, none⟩)) (t : TypeId) (cs : Array Value) (fr : Nat × Nat) (d : TypeDesc) (hg : w.heap[g]? = some (.cells cs t fr))
    (hu : P.underlying ty = some d) (hd : (match d with | .struct _ | .array _ _ => true | _ => false) = true) (hi : (P.info? ty).map (·.size) = some cs.size)
    (h : wpList P ops Q rest (a.put o.dst (.agg cs)) w) : wpList P ops Q (o :: rest) a w :=
  wpList_step fun K hK => by rw [if_pos hw]; exact wp_load_row ty x ho g hx t cs fr d hg hu hd hi (hK _ _ h)
theorem Sc.info {cs : Array Value} {ids : List Int} {seen : Nat} {least : Int} (h : Sc cs ids seen least) : (Try.prog.info? 86).map (·.size) = some cs.size := by
  rw [h.size]
  kernel_rfl
end Go.Proofs.Ytdbjeaploanalaa
