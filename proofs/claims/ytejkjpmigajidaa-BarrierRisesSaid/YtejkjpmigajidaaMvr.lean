/-
  Rows and blocks beside an arena: made, appended to, set; what is known of it stays. No condition but those that each theorem names.
  A barrier's probe begun, and its Look, by contract. Conditions: the cells are there; fewer than 2^62 steps.
  A barrier's Look, by contract. Conditions: the cells are there; fewer than 2^62 steps.
-/
import Derived.Test.YtejkjpmigajidaaMp0
import Derived.Test.YtejkjpmigajidaaBr1
import Derived.Test.YtejkjpmigajidaaBp2
import Derived.Test.YtejkjpmigajidaaMc
namespace Go.Proofs.Ytejkjpmigajidaa
open Go.RowKit
set_option linter.unusedVariables false

section
variable {R R' : Rest} {S : Nat → Prop} {W0 W w : World} {b : Nat} {cs : List Int} {st : Int} {T U : TypeId} {z n p : Nat} {v v' : Value} {xs : List Value} {bx : Array Value}
/-- Blocks of the rest turn, blocks that are new come to it. -/
theorem Mv.turn2 (h : Mv R W0 W b cs st) (hf : Frm S W w) (hS : ∀ g, S g → W0.heap.size ≤ g ∧ R.prot g) (hR : ∀ g, R'.prot g → R.prot g ∨ (W.heap.size ≤ g ∧ g < w.heap.size)) (hI : R'.inv w) : Mv R' W0 w b cs st := by
  obtain ⟨v, h1, h3, h4, h5, h6⟩ := h
  have n1 : ¬ S b := fun e => (h6.1 b (hS b e).2).2.1 rfl
  have n3 : ∀ g, v.ownBlock = some g → ¬ S g := fun g hg e => (h6.1 g (hS g e).2).2.2 hg
  have ha' := h1.keep hf n1 n3
  refine ⟨v, ha', h3.trans ⟨hf.os, hf.tape, hf.output, hf.size, fun k hk => ?_⟩, h4, h5, fun g hg => ?_, hI⟩
  · by_cases hs : S k
    · have := (hS k hs).1
      omega
    · exact hf.block k (Nat.lt_of_lt_of_le hk h3.size) hs
  · rcases hR g hg with hg | ⟨g1, g2⟩
    · exact ⟨Nat.lt_of_lt_of_le (h6.1 g hg).1 hf.size, (h6.1 g hg).2⟩
    · refine ⟨g2, fun e => ?_, fun e => ?_⟩
      · have := lt_of_block h1.1
        omega
      · obtain ⟨cur, hc⟩ := ownsRow_obj h1.2 e
        have := lt_of_block hc
        omega
theorem Mv.le (h : Mv R W0 W b cs st) (hl : R.le R') : Mv R' W0 W b cs st := h.less hl.1 (hl.2 _ h.inv)
theorem Mv.rowIs (h : Mv (R.row W0.heap.size T z v n xs) W0 W b cs st) : W.ownsRow W0.heap.size T z v n xs := h.inv.2.1
theorem Mv.rowDrop (h : Mv (R.row W0.heap.size T z v n xs) W0 W b cs st) : Mv R W0 W b cs st := h.less (fun _ k => .inl k) h.inv.1
theorem Mv.boxIs (h : Mv (R.box W0.heap.size p bx U) W0 W b cs st) : W.heap[p]? = some (.cells bx U (0, 0)) := h.inv.2.1
theorem Mv.boxDrop (h : Mv (R.box W0.heap.size p bx U) W0 W b cs st) : Mv R W0 W b cs st := h.less (fun _ k => .inl k) h.inv.1
theorem Mv.nil (h : Mv R W0 W b cs st) (T : TypeId) (z : Nat) : Mv (R.row W0.heap.size T z (.slice none 0 0) 0 []) W0 W b cs st := by
  refine h.turn2 (S := fun _ => False) (Frm.refl _ _) (fun _ h => h.elim) (fun g hg => .inl ?_) ⟨h.inv, World.ownsRow_nil _ _ _ _, fun k _ e => by simp [Value.ownBlock] at e⟩
  rcases hg with hg | hg
  · exact hg
  · simp [Value.ownBlock] at hg
/-- A row more, made now. -/
theorem Mv.more (h : Mv R W0 W b cs st) (hb : Below W.heap.size W w) (ho : w.ownsRow W.heap.size T z v n xs) : Mv (R.row W0.heap.size T z v n xs) W0 w b cs st := by
  have h0 := h.below.size
  have hf := Frm.of_below hb fun _ => False
  refine h.turn2 hf (fun _ h => h.elim) (fun g hg => ?_) ⟨R.ok _ _ h.inv fun k hk => hf.block k (h.prot_lt hk) id, row_up ho fun g hg => ?_, fun k hk e => ?_⟩
  · rcases hg with hg | hg
    · exact .inl hg
    · exact .inr (ho.lt g hg)
  · have := (ho.lt g hg).1
    omega
  · have := (ho.lt k e).1
    have := h.prot_lt hk
    omega
/-- The row is appended to. -/
theorem Mv.app (h : Mv (R.row W0.heap.size T z v n xs) W0 W b cs st) {n' : Nat} {ys : List Value} (hown : w.ownsRow 0 T z v' n' ys) (hf : Frm (fun k => v.ownBlock = some k) W w) (hv : v'.ownBlock = v.ownBlock ∨ ∀ g, v'.ownBlock = some g → W.heap.size ≤ g) :
    Mv (R.row W0.heap.size T z v' n' ys) W0 w b cs st := by
  have h0 := h.below.size
  have hr := h.inv.2.1
  have hlow : ∀ g, v'.ownBlock = some g → W0.heap.size ≤ g := fun g hg => by
    rcases hv with hv | hv
    · exact (hr.lt g (hv ▸ hg)).1
    · have := hv g hg
      omega
  refine h.turn2 hf (fun g hg => ⟨(hr.lt g hg).1, .inr hg⟩) (fun g hg => ?_) ⟨R.ok _ _ h.inv.1 fun k hk => hf.block k (h.prot_lt (.inl hk)) (h.inv.2.2 k hk), row_up hown hlow, fun k hk e => ?_⟩
  · rcases hg with hg | hg
    · exact .inl (.inl hg)
    · rcases hv with hv | hv
      · exact .inl (.inr (hv ▸ hg))
      · exact .inr ⟨hv g hg, (hown.lt g hg).2⟩
  · rcases hv with hv | hv
    · exact h.inv.2.2 k hk (hv ▸ e)
    · have := hv k e
      have := h.prot_lt (k := k) (.inl hk)
      omega
/-- A block more, made now. -/
theorem Mv.boxNew (h : Mv R W0 W b cs st) (bx : Array Value) (U : TypeId) : Mv (R.box W0.heap.size W.heap.size bx U) W0 (W.alloc (.cells bx U)) b cs st := by
  have h0 := h.below.size
  have hf : Frm (fun _ => False) W (W.alloc (.cells bx U)) := (Frm.refl _ _).alloc _
  refine h.turn2 hf (fun _ h => h.elim) (fun g hg => ?_) ⟨R.ok _ _ h.inv fun k hk => hf.block k (h.prot_lt hk) id, obj_new _ _, fun e => Nat.lt_irrefl _ (h.prot_lt e), h0⟩
  rcases hg with hg | rfl
  · exact .inl hg
  · exact .inr ⟨Nat.le_refl _, by simp⟩
/-- A block that was made behind a world, by a call: it comes to what is known. -/
theorem Mv.boxAt (h : Mv R W0 W b cs st) (hb : Below W.heap.size W w) (hp : W.heap.size ≤ p) (hc : w.heap[p]? = some (.cells bx U (0, 0))) : Mv (R.box W0.heap.size p bx U) W0 w b cs st := by
  have h0 := h.below.size
  have hf := Frm.of_below hb fun _ => False
  refine h.turn2 hf (fun _ h => h.elim) (fun g hg => ?_) ⟨R.ok _ _ h.inv fun k hk => hf.block k (h.prot_lt hk) id, hc, fun e => by have := h.prot_lt e; omega, by omega⟩
  rcases hg with hg | rfl
  · exact .inl hg
  · exact .inr ⟨hp, lt_of_block hc⟩
/-- It turns. -/
theorem Mv.boxTurn {bx' : Array Value} (h : Mv (R.box W0.heap.size p bx U) W0 W b cs st) (hf : Frm (fun k => k = p) W w) (hb : w.heap[p]? = some (.cells bx' U (0, 0))) : Mv (R.box W0.heap.size p bx' U) W0 w b cs st := by
  have hi := h.inv
  refine h.turn2 hf (fun k hk => ?_) (fun g hg => .inl hg) ⟨R.ok _ _ hi.1 fun k hk => hf.block k (h.prot_lt (.inl hk)) fun e => hi.2.2.1 (e ▸ hk), hb, hi.2.2⟩
  subst hk
  exact ⟨hi.2.2.2, .inr rfl⟩
theorem Mv.boxSet (h : Mv (R.box W0.heap.size p bx U) W0 W b cs st) (i : Nat) (u : Value) : Mv (R.box W0.heap.size p (bx.setIfInBounds i u) U) W0 (W.setCell ⟨p, i, none⟩ u) b cs st :=
  h.boxTurn ((Frm.refl (fun k => k = p) W).setCell (p := ⟨p, i, none⟩) rfl u) (obj_setCell _ h.boxIs)
theorem Mv.boxRow (h : Mv (R.box W0.heap.size p bx U) W0 W b cs st) (bx' : Array Value) : Mv (R.box W0.heap.size p bx' U) W0 (W.setRow p bx') b cs st :=
  h.boxTurn ((Frm.refl (fun k => k = p) W).setRow rfl bx') (setRow_heap _ _ _ _ _ _ h.boxIs)
/-- The arena, with a buffer that is known of beside it. -/
theorem Mv.av {q f k : Nat} (h : Mv R W0 W b cs st) (hq : Bf W q f k) : Av R W0 W b q f k cs st := by
  obtain ⟨v, h1, h3, h4, h5, h6⟩ := h
  exact ⟨v, h1, hq, h3, h4, h5, h6⟩
end
end Go.Proofs.Ytejkjpmigajidaa
namespace Go.Proofs.Ytejkjpmigajidaa
open Go.RowKit
set_option linter.unusedVariables false

/-- A new probe's cells. -/
def pbn (bp : Option Addr) (next found : Int) : Array Value := (([.pointer bp, .int .i64 1, .int .i64 next, .int .i64 0] : List Value) ++ (scC [] 0 0).toList ++ ([.int .i64 0, .int .i64 found] : List Value)).toArray
theorem built_pb (bp : Option Addr) (next found : Int) : Try.prog.built 134 [(0, .pointer bp), (1, .int .i64 1), (2, .int .i64 next), (6, .int .i64 found)] = some (pbn bp next found) := by kernel_rfl
theorem pbn_f (bp : Option Addr) (next found : Int) : PbF (pbn bp next found) bp 1 next 0 0 found := by
  refine ⟨by kernel_rfl, ?_, by kernel_rfl, by kernel_rfl, by kernel_rfl, by kernel_rfl, by kernel_rfl, by kernel_rfl⟩
  have h2 := (sc_of (ids := []) (by simp) 0 0).one
  rw [Array.all_eq_true_iff_forall_mem] at h2 ⊢
  intro y hy
  simp only [pbn, List.mem_toArray, List.mem_append] at hy
  rcases hy with (hy | hy) | hy
  · simp at hy
    rcases hy with rfl | rfl | rfl | rfl <;> rfl
  · exact h2 y (by simpa using hy)
  · simp at hy
    rcases hy with rfl | rfl <;> rfl
theorem wpList_build4 {P : Program} {ops : Array Oper} {rest : List Oper} {o : Oper} {a : Act} {w : World} {Q : Exit → Act → World → Prop} (hg : o.guard = none) (t : TypeId) (i0 i1 i2 i3 : Nat) (x0 x1 x2 x3 : Operand) (ho : o.op = .build t #[(i0, x0), (i1, x1), (i2, x2), (i3, x3)]) (v0 v1 v2 v3 : Value) (h0 : a.eval x0 = v0) (h1 : a.eval x1 = v1) (h2 : a.eval x2 = v2) (h3 : a.eval x3 = v3) (cells : Array Value)
    (hb : P.built t [(i0, v0), (i1, v1), (i2, v2), (i3, v3)] = some cells) (h : wpList P ops Q rest (a.put o.dst (.agg cells)) w) : wpList P ops Q (o :: rest) a w := by
  subst h0 h1 h2 h3
  have e : P.built t ((#[(i0, x0), (i1, x1), (i2, x2), (i3, x3)] : Array (Nat × Operand)).map fun (i, x) => (i, a.eval x)).toList = some cells := by simpa using hb
  exact wpList_build hg t _ ho (by rw [e]; rfl) (by rw [e]; exact h)
set_option maxHeartbeats 2000000 in
set_option maxRecDepth 100000 in
theorem pprobe_some (bb : Nat) (next : Int) (hn : 0 ≤ next ∧ next ≤ 4611686018427387904) (ids : List Int) (W : World) :
    Calls Try.prog 79 #[.pointer (some ⟨bb, 0, none⟩), .int .i64 next] W fun e w' => ∃ ts, e = .returned (.agg ts) ∧ PrF ts (some ⟨bb, 0, none⟩) ids (pr0 next) ∧ Below W.heap.size W w' := by
  have HBT := Lib.hid (built_pb (some ⟨bb, 0, none⟩) next (next - 1))
  have HF := Lib.hid (pbn_f (some ⟨bb, 0, none⟩) next (next - 1))
  have HFI := Lib.hid (pb_info HF.out.size)
  have HA : Hid (aheadP next = next - 1) := Lib.hid (by unfold aheadP; omega)
  have H0 : Hid (∀ zs : Array Value, Below W.heap.size W (W.alloc (.cells zs 134)) ∧ (W.alloc (.cells zs 134)).heap[W.heap.size]? = some (.cells zs 134 (0, 0))) := Lib.hid fun zs => ⟨balloc (Below.refl _ _) _, obj_new _ _⟩
  generalize pbn (some ⟨bb, 0, none⟩) next (next - 1) = us at *
  go_enter Try.func79, Try.ntmps79
  go_wp2_with (first
    | (refine wpList_alloc_pb rfl rfl ?_; intro zs hz; first | (have H1 := Lib.hid (H0.out zs); clear H0; have HZ := Lib.hid hz; generalize W.alloc (.cells zs 134) = w1 at *; clear hz) | (have H2 := Lib.hid (bthen H1.out.1 (balloc (Below.refl _ w1) (.cells zs 134))); have HN := Lib.hid (obj_new w1 (.cells zs 134)); have HO := Lib.hid (obj_old (.cells zs 134) H1.out.2); have HW := Lib.hid (lt_of_block H1.out.2); have HZ2 := Lib.hid hz; have HLE := Lib.hid H1.out.1.size; generalize w1.alloc (.cells zs 134) = w2 at *; generalize w1.heap.size = nb at *))
    | (go_at_call 121; refine (bahead next (by omega) _).mono ?_; rintro e w' ⟨rfl, rfl⟩; rw [HA.out])
    | (refine wpList_build4 rfl 134 0 1 2 6 _ _ _ _ rfl _ _ _ _ rfl rfl rfl rfl us HBT.out ?_)
    | (refine wpList_store_row rfl 134 (.tmp 5) (.tmp 10) rfl nb us rfl rfl 134 _ HN.out HFI.out (by rw [HF.out.size]; exact HZ2.out) HF.out.one ?_; have H3 := Lib.hid (bsetRow H2.out HLE.out us); have HN3 := Lib.hid (setRow_heap _ nb _ us _ _ HN.out); have HO3 := Lib.hid (((Frm.refl (fun k => k = nb) w2).setRow rfl us).obj HO.out (by have := HW.out; omega)); generalize w2.setRow nb us = w3 at *)
    | (refine wpList_load_row rfl 134 (.tmp 5) rfl nb rfl 134 _ (0, 0) _ HN3.out Try.underlying134 rfl HFI.out ?_)
    | (refine wpList_store_row rfl 134 (.tmp 4) (.tmp 14) rfl W.heap.size us rfl rfl 134 _ HO3.out HFI.out (by rw [HF.out.size]; exact HZ.out) HF.out.one ?_))
  exact bodyPost_ret (results_row (p := 4) (by kernel_rfl) _ _ W.heap.size 134 us _ rfl (setRow_heap _ _ _ _ _ _ HO3.out) Try.underlying134 rfl HFI.out) rfl ⟨us, rfl, ⟨HF.out, fun h => absurd h (by show ¬ (1 : Int) = 2; decide)⟩, bsetRow H3.out (Nat.le_refl _) us⟩
section
variable {R : Rest} {W0 W : World} {a bb : Nat} {xs ids : List Int} {st : Int} {cs : Array Value} {cur al : Nat} {sh : Sho} {q : Pr} {n : Nat}
/-- The greatest cell that is come to is there. -/
theorem pgreatest (hw : Bw R bb cs cur al sh ids) (hi : InB xs cur al sh ids) (hm : Mv R W0 W a xs st) :
    Calls Try.prog 119 #[.pointer (some ⟨bb, 0, none⟩)] W fun e w' => ∃ g : Int, e = .returned (.int .i64 g) ∧ g < xs.length ∧ Below W.heap.size W w' := by
  have n1 : ∀ x : Later W, x.to.cell? ⟨bb, 35, none⟩ = some (.int .i64 al) := fun x => (obj_cell (hw.blk _ (hm.keep x.below).inv) 35).trans hw.f.c35
  have n2 : ∀ x : Later W, x.to.cell? ⟨bb, 1, none⟩ = some (.pointer (shA sh)) := fun x => (obj_cell (hw.blk _ (hm.keep x.below).inv) 1).trans hw.f.c1
  have hal := hi.al
  cases hsh : sh with
  | none =>
    rw [hsh] at n2
    have HG : Hid (max (al : Int) (-1) < xs.length) := Lib.hid (by omega)
    have HC : Hid (∀ x : Later W, Calls Try.prog 38 #[.pointer none, .int .i64 4611686018427387903] x.to fun e w'' => e = .returned (.int .i64 (-1)) ∧ ∃ y : Later W, w'' = y.to) := Lib.hid fun x => (cell_nil _ _).mono fun e w h => ⟨h.1, x, h.2.symm⟩
    clear hw hi hm hal
    change ∀ x : Later W, x.to.cell? ⟨bb, 1, none⟩ = some (.pointer none) at n2
    go_enter Try.func119, Try.ntmps119
    go_wp2_with fail
    refine wp_region_later (by kernel_rfl) (by kernel_rfl) ?_
    repeat (go_big_quiet_step ((go_at_call 38; exact HC.out _)))
    refine wpQuiet_nil ?_
    intro _ hw'
    obtain ⟨nq, rfl⟩ := hw'
    clear n1 n2
    go_wp2
    go_ret
    exact ⟨_, rfl, HG.out, nq.below⟩
  | some t =>
    obtain ⟨q, f, k⟩ := t
    rw [hsh] at n2
    obtain ⟨i, hi2, hil⟩ := mod_nat k 4611686018427387903
    have hl := hi.sh q f k hsh
    have HG : Hid (max (al : Int) ((f + i : Nat) : Int) < xs.length) := Lib.hid (by omega)
    have HC : Hid (∀ x : Later W, Calls Try.prog 38 #[.pointer (some ⟨q, 0, none⟩), .int .i64 4611686018427387903] x.to fun e w'' => e = .returned (.int .i64 ((f + i : Nat) : Int)) ∧ ∃ y : Later W, w'' = y.to) := Lib.hid fun x => (cell_some _ _ q f k (hw.sh q f k hsh _ (hm.keep x.below).inv) i hi2).mono fun e w h => ⟨h.1, ⟨w, bthen x.below h.2⟩, rfl⟩
    clear hw hi hm hal hl hi2 hil hsh
    change ∀ x : Later W, x.to.cell? ⟨bb, 1, none⟩ = some (.pointer (some ⟨q, 0, none⟩)) at n2
    generalize ((f + i : Nat) : Int) = z at *
    go_enter Try.func119, Try.ntmps119
    go_wp2_with fail
    refine wp_region_later (by kernel_rfl) (by kernel_rfl) ?_
    repeat (go_big_quiet_step ((go_at_call 38; exact HC.out _)))
    refine wpQuiet_nil ?_
    intro _ hw'
    obtain ⟨nq, rfl⟩ := hw'
    clear n1 n2
    go_wp2
    go_ret
    exact ⟨_, rfl, HG.out, nq.below⟩
end
end Go.Proofs.Ytejkjpmigajidaa
namespace Go.Proofs.Ytejkjpmigajidaa
open Go.RowKit
set_option linter.unusedVariables false

section
variable {R : Rest} {W0 W : World} {a bb : Nat} {xs ids : List Int} {st : Int} {cs : Array Value} {cur al : Nat} {sh : Sho} {q : Pr} {n : Nat}
theorem LookNil (p : Option Addr) (next : Int) (W : World) :
    Calls Try.prog 78 #[.pointer none, .pointer p, .int .i64 next] W fun e w' => ∃ E, e = .returned (.tuple #[.int .i64 0, E]) ∧ ErrAt w' E 2 ∧ Below W.heap.size W w' := by
  go_enter Try.func78, Try.ntmps78
  go_wp2_with (go_at_call 87; refine (wrap_q _ _ _).mono ?_; rintro e w1 ⟨p, rfl, hr⟩; have HR := Lib.hid hr; clear hr)
  go_ret2
  refine ⟨_, rfl, ?_, HR.out.below⟩
  obtain ⟨q2, hq2, hch, _⟩ := HR.out
  cases hq2
  exact .inr ⟨by decide, ⟨_, rfl⟩, _, hch⟩
set_option maxHeartbeats 2000000 in
set_option maxRecDepth 100000 in
theorem plook_ok (hw : Bw R bb cs cur al sh ids) (hi : InB xs cur al sh ids) (hm : Mv R W0 W a xs st) {next : Int} (hn : 0 ≤ next ∧ next ≤ 4611686018427387904) (hE : Ends (yOf xs al) (valsOf xs ids) (cOf xs cur) (sbOf xs sh) (pr0 next) q n) (hq : q.sign ≠ 1) (hqn : q.next = next) (h0 : 0 ≤ st) (h1 : st + n < 4611686018427387904) :
    Calls Try.prog 78 #[.pointer (some ⟨bb, 0, none⟩), .pointer (some ⟨a, 0, none⟩), .int .i64 next] W fun e w' => e = .returned (.tuple #[.int .i64 q.found, .nilIface]) ∧ Mv R W0 w' a xs (st + n) := by
  have HW := Lib.hid hw
  have HI := Lib.hid hi
  have HM := Lib.hid hm
  have HE := Lib.hid hE
  have hb : (q.sign == 1) = false := by simpa using hq
  have HAV : Hid (availP q.stg q.next q.found = q.found) := Lib.hid (by unfold availP; rw [if_pos hE.stg])
  have HQN := Lib.hid hqn
  clear hw hi hm hE hq hqn
  go_enter Try.func78, Try.ntmps78
  go_upto_region 7 with (first
    | (go_at_call 119; refine (pgreatest HW.out HI.out HM.out).mono ?_; rintro e w1 ⟨g, rfl, hg, hb1⟩; have H1 := Lib.hid (HM.out.keep hb1); have hgd : decide ((xs.length : Int) ≤ g) = false := decide_eq_false (by omega); clear hb1 hg)
    | (go_at_call 27; refine (len_mv H1.out).mono ?_; rintro e w2 ⟨rfl, rfl⟩))
  clear hgd
  go_wp2_with (first
    | (go_at_call 79; refine (pprobe_some bb next hn ids _).mono ?_; rintro e w3 ⟨ts, rfl, hf, hb3⟩; have HF := Lib.hid hf; have H3 := Lib.hid (H1.out.keep hb3); clear hf hb3)
    | (go_at_call 120; refine (psettle HF.out HW.out HI.out HE.out H3.out h0 h1).mono ?_; rintro e w4 ⟨us, rfl, hf, hm4⟩; have HU := Lib.hid hf; have HUI := Lib.hid (pb_info hf.f.size); have H4 := Lib.hid hm4; clear hf hm4)
    | (refine wpList_alloc_pb rfl rfl ?_; intro zs2 hz2; have H5 := Lib.hid (H4.out.boxNew zs2 134); generalize w4.alloc (.cells zs2 134) = w5 at *; generalize w4.heap.size = nb at *)
    | (refine wpList_store_row rfl 134 (.tmp 10) (.tmp 46) rfl nb us rfl rfl 134 _ H5.out.boxIs HUI.out (by rw [HU.out.q.1]; exact hz2) HU.out.q.2 ?_; have H6 := Lib.hid (H5.out.boxRow us); generalize World.setRow _ nb us = w6 at *)
    | (refine wpList_load_row rfl 134 (.tmp 10) rfl nb rfl 134 _ (0, 0) _ H6.out.boxIs Try.underlying134 rfl HUI.out ?_)
    | (go_at_call 80; refine (psign HU.out.f.c3 _).mono ?_; rintro e w7 ⟨rfl, hb7⟩; have H7 := Lib.hid (H6.out.keep hb7); clear hb7)
    | (refine wpList_load_row rfl 134 (.tmp 10) rfl nb rfl 134 _ (0, 0) _ H7.out.boxIs Try.underlying134 rfl HUI.out ?_)
    | (go_at_call 82; refine (pavail HU.out.f (by rw [HQN.out]; omega) _).mono ?_; rintro e w8 ⟨rfl, hb8⟩; rw [HAV.out]; have H8 := Lib.hid (H7.out.keep hb8); clear hb8))
  go_ret2
  exact ⟨rfl, H8.out.boxDrop⟩
set_option maxHeartbeats 2000000 in
set_option maxRecDepth 100000 in
theorem plook_alert (hw : Bw R bb cs cur al sh ids) (hi : InB xs cur al sh ids) (hm : Mv R W0 W a xs st) {next : Int} (hn : 0 ≤ next ∧ next ≤ 4611686018427387904) (hE : Ends (yOf xs al) (valsOf xs ids) (cOf xs cur) (sbOf xs sh) (pr0 next) q n) (hq : q.sign = 1) (hqn : q.next = next) (h0 : 0 ≤ st) (h1 : st + n < 4611686018427387904) :
    Calls Try.prog 78 #[.pointer (some ⟨bb, 0, none⟩), .pointer (some ⟨a, 0, none⟩), .int .i64 next] W fun e w' => ∃ E, e = .returned (.tuple #[.int .i64 q.found, E]) ∧ ErrAt w' E 13 ∧ Mv R W0 w' a xs (st + n) := by
  have HW := Lib.hid hw
  have HI := Lib.hid hi
  have HM := Lib.hid hm
  have HE := Lib.hid hE
  have hb : (q.sign == 1) = true := by simpa using hq
  have HAV : Hid (availP q.stg q.next q.found = q.found) := Lib.hid (by unfold availP; rw [if_pos hE.stg])
  have HQN := Lib.hid hqn
  clear hw hi hm hE hq hqn
  go_enter Try.func78, Try.ntmps78
  go_upto_region 7 with (first
    | (go_at_call 119; refine (pgreatest HW.out HI.out HM.out).mono ?_; rintro e w1 ⟨g, rfl, hg, hb1⟩; have H1 := Lib.hid (HM.out.keep hb1); have hgd : decide ((xs.length : Int) ≤ g) = false := decide_eq_false (by omega); clear hb1 hg)
    | (go_at_call 27; refine (len_mv H1.out).mono ?_; rintro e w2 ⟨rfl, rfl⟩))
  clear hgd
  go_wp2_with (first
    | (go_at_call 79; refine (pprobe_some bb next hn ids _).mono ?_; rintro e w3 ⟨ts, rfl, hf, hb3⟩; have HF := Lib.hid hf; have H3 := Lib.hid (H1.out.keep hb3); clear hf hb3)
    | (go_at_call 120; refine (psettle HF.out HW.out HI.out HE.out H3.out h0 h1).mono ?_; rintro e w4 ⟨us, rfl, hf, hm4⟩; have HU := Lib.hid hf; have HUI := Lib.hid (pb_info hf.f.size); have H4 := Lib.hid hm4; clear hf hm4)
    | (refine wpList_alloc_pb rfl rfl ?_; intro zs2 hz2; have H5 := Lib.hid (H4.out.boxNew zs2 134); generalize w4.alloc (.cells zs2 134) = w5 at *; generalize w4.heap.size = nb at *)
    | (refine wpList_store_row rfl 134 (.tmp 10) (.tmp 46) rfl nb us rfl rfl 134 _ H5.out.boxIs HUI.out (by rw [HU.out.q.1]; exact hz2) HU.out.q.2 ?_; have H6 := Lib.hid (H5.out.boxRow us); generalize World.setRow _ nb us = w6 at *)
    | (refine wpList_load_row rfl 134 (.tmp 10) rfl nb rfl 134 _ (0, 0) _ H6.out.boxIs Try.underlying134 rfl HUI.out ?_)
    | (go_at_call 80; refine (psign HU.out.f.c3 _).mono ?_; rintro e w7 ⟨rfl, hb7⟩; have H7 := Lib.hid (H6.out.keep hb7); clear hb7)
    | (refine wpList_load_row rfl 134 (.tmp 10) rfl nb rfl 134 _ (0, 0) _ H7.out.boxIs Try.underlying134 rfl HUI.out ?_)
    | (go_at_call 82; refine (pavail HU.out.f (by rw [HQN.out]; omega) _).mono ?_; rintro e w8 ⟨rfl, hb8⟩; rw [HAV.out]; have H8 := Lib.hid (H7.out.keep hb8); clear hb8)
    | (go_at_call 87; refine (wrap_q _ _ _).mono ?_; rintro e w9 ⟨p, rfl, hr⟩; have HR := Lib.hid hr; have H9 := Lib.hid (H8.out.keep hr.below); clear hr))
  go_ret2
  refine ⟨_, rfl, ?_, H9.out.boxDrop⟩
  obtain ⟨q2, hq2, hch, _⟩ := HR.out
  cases hq2
  exact .inr ⟨by decide, ⟨_, rfl⟩, _, hch⟩
end
end Go.Proofs.Ytejkjpmigajidaa
