/-
  Package gate's Scan by contract, of a group that lies anywhere in a block. Condition: at most 32 cells.
-/
import Derived.Test.YtjadapjjilegnaaScn
import Derived.Deep.MidRow
namespace Go.Proofs.Ytjadapjjilegnaa
open Go.RowKit

theorem cons_of {l : List Int} {n : Nat} (h : l.length = n + 1) : ∃ x t, l = x :: t ∧ t.length = n := by
  cases l with
  | nil => simp at h
  | cons x t => exact ⟨x, t, rfl, by simpa using h⟩
theorem built_scan (l0 : List Int) (h : l0.length = 33) (most : Int) :
    Try.prog.built 153 [(0, .agg (l0.map (Value.int .i64)).toArray), (2, .int .i64 most)] = some ((l0 ++ [0, most]).map (Value.int .i64)).toArray := by
  obtain ⟨x0, l1, rfl, h1⟩ := cons_of h
  obtain ⟨x1, l2, rfl, h2⟩ := cons_of h1
  obtain ⟨x2, l3, rfl, h3⟩ := cons_of h2
  obtain ⟨x3, l4, rfl, h4⟩ := cons_of h3
  obtain ⟨x4, l5, rfl, h5⟩ := cons_of h4
  obtain ⟨x5, l6, rfl, h6⟩ := cons_of h5
  obtain ⟨x6, l7, rfl, h7⟩ := cons_of h6
  obtain ⟨x7, l8, rfl, h8⟩ := cons_of h7
  obtain ⟨x8, l9, rfl, h9⟩ := cons_of h8
  obtain ⟨x9, l10, rfl, h10⟩ := cons_of h9
  obtain ⟨x10, l11, rfl, h11⟩ := cons_of h10
  obtain ⟨x11, l12, rfl, h12⟩ := cons_of h11
  obtain ⟨x12, l13, rfl, h13⟩ := cons_of h12
  obtain ⟨x13, l14, rfl, h14⟩ := cons_of h13
  obtain ⟨x14, l15, rfl, h15⟩ := cons_of h14
  obtain ⟨x15, l16, rfl, h16⟩ := cons_of h15
  obtain ⟨x16, l17, rfl, h17⟩ := cons_of h16
  obtain ⟨x17, l18, rfl, h18⟩ := cons_of h17
  obtain ⟨x18, l19, rfl, h19⟩ := cons_of h18
  obtain ⟨x19, l20, rfl, h20⟩ := cons_of h19
  obtain ⟨x20, l21, rfl, h21⟩ := cons_of h20
  obtain ⟨x21, l22, rfl, h22⟩ := cons_of h21
  obtain ⟨x22, l23, rfl, h23⟩ := cons_of h22
  obtain ⟨x23, l24, rfl, h24⟩ := cons_of h23
  obtain ⟨x24, l25, rfl, h25⟩ := cons_of h24
  obtain ⟨x25, l26, rfl, h26⟩ := cons_of h25
  obtain ⟨x26, l27, rfl, h27⟩ := cons_of h26
  obtain ⟨x27, l28, rfl, h28⟩ := cons_of h27
  obtain ⟨x28, l29, rfl, h29⟩ := cons_of h28
  obtain ⟨x29, l30, rfl, h30⟩ := cons_of h29
  obtain ⟨x30, l31, rfl, h31⟩ := cons_of h30
  obtain ⟨x31, l32, rfl, h32⟩ := cons_of h31
  obtain ⟨x32, l33, rfl, h33⟩ := cons_of h32
  obtain rfl : l33 = [] := List.eq_nil_of_length_eq_zero h33
  kernel_rfl
section
variable {P : Program} {ops : Array Oper} {rest : List Oper} {o : Oper} {a : Act} {w : World} {Q : Exit → Act → World → Prop}
theorem wpList_build1 (hg : o.guard = none) (t : TypeId) (i : Nat) (x : Operand) (ho : o.op = .build t #[(i, x)]) (v : Value) (hx : a.eval x = v) (cells : Array Value)
    (hb : P.built t [(i, v)] = some cells) (h : wpList P ops Q rest (a.put o.dst (.agg cells)) w) : wpList P ops Q (o :: rest) a w := by
  subst hx
  have e : P.built t ((#[(i, x)] : Array (Nat × Operand)).map fun (i, x) => (i, a.eval x)).toList = some cells := by simpa using hb
  exact wpList_build hg t _ ho (by rw [e]; rfl) (by rw [e]; exact h)
theorem wpList_build2 (hg : o.guard = none) (t : TypeId) (i j : Nat) (x y : Operand) (ho : o.op = .build t #[(i, x), (j, y)]) (u v : Value) (hx : a.eval x = u) (hy : a.eval y = v) (cells : Array Value)
    (hb : P.built t [(i, u), (j, v)] = some cells) (h : wpList P ops Q rest (a.put o.dst (.agg cells)) w) : wpList P ops Q (o :: rest) a w := by
  subst hx hy
  have e : P.built t ((#[(i, x), (j, y)] : Array (Nat × Operand)).map fun (i, x) => (i, a.eval x)).toList = some cells := by simpa using hb
  exact wpList_build hg t _ ho (by rw [e]; rfl) (by rw [e]; exact h)
end
theorem results_row {P : Program} {fn : Func} {p : Tmp} {ty : TypeId} (h : fn.results = #[.cell p ty]) (tmps : Array Value) (w : World) (g : Nat) (t : TypeId) (cs : Array Value) (d : TypeDesc)
    (hp : tmps.getD p undef = .pointer (some ⟨g, 0, none⟩)) (hg : w.heap[g]? = some (.cells cs t (0, 0)))
    (hu : P.underlying ty = some d) (hd : (match d with | .struct _ | .array _ _ => true | _ => false) = true) (hi : (P.info? ty).map (·.size) = some cs.size) :
    (results fn tmps).run P w = .ok (.agg cs) w := results_cell_row h tmps w g t cs (0, 0) d hp hg hu hd hi

theorem scC_info {ids : List Int} (h : ids.length ≤ 32) (k : Nat) (m : Int) : (Try.prog.info? 153).map (·.size) = some (scC ids k m).size := by
  rw [(sc_of h k m).size]
  kernel_rfl

/-- A group's own cells. -/
def grL (ids : List Int) : List Value := (padI ids ++ [(ids.length : Int)]).map (Value.int .i64)
theorem grL_len {ids : List Int} (h : ids.length ≤ 32) : (grL ids).length = 33 := by simp [grL, padI_len h]
theorem Gq.range {W : World} {g o : Nat} {cs : Array Value} {T : TypeId} {ids : List Int} (hq : Gq cs o ids) (h : Blk W g cs T) : W.rangeAt g o (grL ids) := by
  intro j v hv
  have hl := padI_len hq.len
  have hj : j < 33 := by
    have := (List.getElem?_eq_some_iff.1 hv).1
    rwa [grL_len hq.len] at this
  by_cases h32 : j = 32
  · subst h32
    rw [hq.cN h]
    simp [grL, hl] at hv
    rw [hv]
  · rw [hq.cAt h j (by omega)]
    rw [← hv]
    simp [grL, List.getElem?_append_left (show j < ((padI ids).map (Value.int .i64)).length by simp; omega), List.getElem?_eq_getElem (show j < (padI ids).length by omega)]
theorem built_q {ids : List Int} (h : ids.length ≤ 32) (most : Int) : Try.prog.built 153 [(0, .agg (grL ids).toArray), (2, .int .i64 most)] = some (scC ids 0 most) := by
  have := built_scan (padI ids ++ [(ids.length : Int)]) (by simp [padI_len h]) most
  rw [List.append_assoc] at this
  exact this

set_option maxRecDepth 100000 in
theorem gscan_q {W : World} {g o : Nat} {cs0 : Array Value} {T : TypeId} {ids : List Int} (h : Blk W g cs0 T) (hq : Gq cs0 o ids) (most : Int) :
    Calls Try.prog 100 #[.pointer (some ⟨g, o, none⟩), .int .i64 most] W fun e w' => e = .returned (.agg (scC ids 0 most)) ∧ Below W.heap.size W w' := by
  have hb := built_q hq.len most
  have hS := sc_of hq.len 0 most
  have hi := scC_info hq.len 0 most
  have hig : (Try.prog.info? 147).map (·.size) = some (grL ids).length := by rw [grL_len hq.len]; kernel_rfl
  have HR : Hid (∀ ob : Obj, (W.alloc ob).rangeAt g o (grL ids)) := fun ob => World.rangeAt_alloc (hq.range h) ob
  clear h hq
  generalize scC ids 0 most = cs at *
  generalize grL ids = gs at *
  go_enter Try.func100, Try.ntmps100
  go_wp2_with (first
    | (refine wpList_build2 rfl 153 0 2 (.tmp 11) (.tmp 12) rfl _ _ rfl rfl cs hb ?_)
    | (refine wpList_load_mid rfl 147 (.tmp 10) rfl g o rfl gs _ (HR.out _) Try.underlying147 rfl hig ?_)
    | (refine wpList_store_row rfl 153 (.tmp 4) (.tmp 13) rfl W.heap.size cs rfl rfl 153 _ (obj_new _ _) hi (by rw [hS.size]; rfl) hS.one ?_))
  exact bodyPost_ret (results_row (p := 4) (by kernel_rfl) _ _ W.heap.size 153 cs _ rfl (setRow_heap _ _ _ _ _ _ (obj_new _ _)) Try.underlying153 rfl hi) rfl ⟨rfl, bsetRow (balloc (Below.refl _ _) _) (Nat.le_refl _) cs⟩

/-! A scan in a variable of the caller's -/
theorem stored_new {w X : World} {Z cs : Array Value} {T : TypeId} (h : (w.alloc (.cells Z T)).setRow w.heap.size cs = X) : X.heap[w.heap.size]? = some (.cells cs T (0, 0)) ∧ Below w.heap.size w X := by
  subst h
  exact ⟨setRow_heap _ _ _ _ _ _ (obj_new _ _), bsetRow (balloc (Below.refl _ _) _) (Nat.le_refl _) cs⟩
theorem wpList_load_row_g {P : Program} {ops : Array Oper} {rest : List Oper} {o : Oper} {a : Act} {w : World} {Q : Exit → Act → World → Prop} (hw : Region.wanted o (yielded ops a.tmps) = true) (ty : TypeId) (x : Operand) (ho : o.op = .load ty x)
    (g : Nat) (hx : a.eval x = .pointer (some ⟨g, 0, none⟩)) (t : TypeId) (cs : Array Value) (fr : Nat × Nat) (d : TypeDesc) (hg : w.heap[g]? = some (.cells cs t fr))
    (hu : P.underlying ty = some d) (hd : (match d with | .struct _ | .array _ _ => true | _ => false) = true) (hi : (P.info? ty).map (·.size) = some cs.size)
    (h : wpList P ops Q rest (a.put o.dst (.agg cs)) w) : wpList P ops Q (o :: rest) a w :=
  wpList_step fun K hK => by rw [if_pos hw]; exact wp_load_row ty x ho g hx t cs fr d hg hu hd hi (hK _ _ h)
theorem Sc.info {cs : Array Value} {ids : List Int} {seen : Nat} {least : Int} (h : Sc cs ids seen least) : (Try.prog.info? 153).map (·.size) = some cs.size := by
  rw [h.size]
  kernel_rfl
end Go.Proofs.Ytjadapjjilegnaa
