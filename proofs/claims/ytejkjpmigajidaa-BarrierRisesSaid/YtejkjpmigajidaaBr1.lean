/-
  A probe of a barrier by value: what it tells. No condition but those that each theorem names.
  A probe's own block, the block of its answer, an arena, and all else. No condition but those that each theorem names.
  A probe of a barrier: settled up to an index; what reads the cursor's cell. Conditions: as each theorem names them.
  A probe of a barrier reads the cursor's cell. Conditions: the cells are there; fewer than 2^62 steps.
  A probe of a barrier reads the alert's cell. Conditions: the cells are there; fewer than 2^62 steps.
-/
import Derived.Test.YtejkjpmigajidaaTr9
import Derived.Deep.DeepCutAuto
namespace Go.Proofs.Ytejkjpmigajidaa
open Go.RowKit
set_option linter.unusedVariables false

/-- The index ahead of another one. -/
def aheadP (x : Int) : Int := max x (-9223372036854775807) - 1
theorem bahead (x : Int) (hx : -9223372036854775808 ≤ x ∧ x ≤ 9223372036854775807) (W : World) :
    Calls Try.prog 121 #[.int .i64 x] W fun e w' => e = .returned (.int .i64 (aheadP x)) ∧ W = w' := by
  unfold aheadP
  by_cases h : x ≤ -9223372036854775807
  · rw [Int.max_eq_right h]
    have d : decide (x ≤ -9223372036854775807) = true := decide_eq_true h
    go_enter Try.func121, Try.ntmps121
    go_wp2
    go_ret
    exact ⟨by go_num, rfl⟩
  · rw [Int.max_eq_left (by omega)]
    have d : decide (x ≤ -9223372036854775807) = false := decide_eq_false h
    go_enter Try.func121, Try.ntmps121
    go_wp2
    go_ret
    exact ⟨by go_num, rfl⟩
/-- A probe's cells, as far as they are known; its scan stands at 4. -/
structure PbF (ts : Array Value) (bp : Option Addr) (at_ next sign most found : Int) : Prop where
  size : ts.size = 41
  one : ts.all (·.oneCell') = true
  c0 : ts[0]? = some (.pointer bp)
  c1 : ts[1]? = some (.int .i64 at_)
  c2 : ts[2]? = some (.int .i64 next)
  c3 : ts[3]? = some (.int .i64 sign)
  c39 : ts[39]? = some (.int .i64 most)
  c40 : ts[40]? = some (.int .i64 found)
section
variable {ts : Array Value} {W : World}
theorem pdone {x : Int} (h1 : ts[1]? = some (.int .i64 x)) (W : World) :
    Calls Try.prog 81 #[.agg ts] W fun e w' => e = .returned (.bool (x == 0)) ∧ Below W.heap.size W w' := by
  by_cases h0 : x = 0
  · subst h0
    go_enter Try.func81, Try.ntmps81
    go_wp2
    go_ret
    exact ⟨rfl, (Below.refl _ _).alloc (Nat.le_refl _) _⟩
  · have b0 : (x == 0) = false := by simpa using h0
    rw [b0]
    go_enter Try.func81, Try.ntmps81
    go_wp2
    go_ret
    exact ⟨rfl, (Below.refl _ _).alloc (Nat.le_refl _) _⟩
theorem psign {x : Int} (h3 : ts[3]? = some (.int .i64 x)) (W : World) :
    Calls Try.prog 80 #[.agg ts] W fun e w' => e = .returned (.int .i64 x) ∧ Below W.heap.size W w' := by
  go_enter Try.func80, Try.ntmps80
  go_wp2
  go_ret
  exact ⟨rfl, (Below.refl _ _).alloc (Nat.le_refl _) _⟩
/-- Up to which index one may go, as a probe tells it. -/
def availP (at_ next found : Int) : Int := if at_ = 0 then found else aheadP next
set_option maxHeartbeats 1000000 in
set_option maxRecDepth 100000 in
theorem pavail {bp : Option Addr} {at_ next sign most found : Int} (h : PbF ts bp at_ next sign most found) (hn : -9223372036854775808 ≤ next ∧ next ≤ 9223372036854775807) (W : World) :
    Calls Try.prog 82 #[.agg ts] W fun e w' => e = .returned (.int .i64 (availP at_ next found)) ∧ Below W.heap.size W w' := by
  have h2 := h.c2
  have h40 := h.c40
  have HTI : Hid ((Try.prog.info? 134).map (·.size) = some ts.size) := Lib.hid (by rw [h.size]; kernel_rfl)
  have H1 := Lib.hid h.c1
  have HO := Lib.hid h.one
  have HA : Hid (∀ x w, W.alloc x = w → Below W.heap.size W w) := Lib.hid fun x w hw => hw ▸ balloc (Below.refl _ _) _
  clear h
  have HDN : Hid (∀ w, Calls Try.prog 81 #[.agg ts] w fun e w' => e = .returned (.bool (at_ == 0)) ∧ Below w.heap.size w w') := Lib.hid fun w => pdone H1.out w
  by_cases h0 : at_ = 0
  · have b0 : (at_ == 0) = true := by simpa using h0
    rw [b0] at HDN
    have HV : Hid (availP at_ next found = found) := Lib.hid (by unfold availP; rw [if_pos h0])
    rw [HV.out]
    clear h0 b0 HV
    go_enter Try.func82, Try.ntmps82
    go_wp2_with (first
      | (refine wpList_load_row rfl 134 (.tmp 1) rfl W.heap.size rfl 134 _ (0, 0) _ (obj_new W _) Try.underlying134 rfl HTI.out ?_)
      | (go_at_call 81; refine (HDN.out _).mono ?_; rintro e w1 ⟨rfl, hb⟩; have HB := Lib.hid (bthen (balloc (Below.refl _ _) _) hb); have j40 := keepc hb ((obj_cell (obj_new W (.cells ts 134)) 40).trans h40); clear hb))
    go_ret
    exact ⟨rfl, HB.out⟩
  · have b0 : (at_ == 0) = false := by simpa using h0
    rw [b0] at HDN
    have HV : Hid (availP at_ next found = aheadP next) := Lib.hid (by unfold availP; rw [if_neg h0])
    rw [HV.out]
    clear h0 b0 HV
    go_enter Try.func82, Try.ntmps82
    go_wp2_with (first
      | (refine wpList_load_row rfl 134 (.tmp 1) rfl W.heap.size rfl 134 _ (0, 0) _ (obj_new W _) Try.underlying134 rfl HTI.out ?_)
      | (go_at_call 121; refine (bahead next hn _).mono ?_; rintro e w2 ⟨rfl, rfl⟩)
      | (go_at_call 81; refine (HDN.out _).mono ?_; rintro e w1 ⟨rfl, hb⟩; have HB := Lib.hid (bthen (balloc (Below.refl _ _) _) hb); have j2 := keepc hb ((obj_cell (obj_new W (.cells ts 134)) 2).trans h2); clear hb))
    go_ret
    exact ⟨rfl, HB.out⟩
end
end Go.Proofs.Ytejkjpmigajidaa
namespace Go.Proofs.Ytejkjpmigajidaa
open Go.RowKit
set_option linter.unusedVariables false

section
variable {R : Rest} {W0 W w w' : World} {a : Nat} {xs : List Int} {st : Int} {b : Nat} {ts zs : Array Value}
theorem Mv.with (h : Mv R W0 W a xs st) {g : Nat} {gs : Array Value} {T : TypeId} (hg : Blk W g gs T) (t1 : T ≠ 147) (t2 : 2 ≠ T) : Mv (R.and g gs T) W0 W a xs st := by
  refine h.turn (S := fun _ => False) (Frm.refl _ _) (fun _ _ _ h => h.elim) ?_ ⟨h.inv, hg⟩
  rintro k (e | rfl)
  · exact .inl e
  · exact .inr ⟨_, _, _, hg, t1, t2⟩
theorem Mv.less {R' : Rest} (h : Mv R W0 W a xs st) (hp : ∀ g, R'.prot g → R.prot g) (hi : R'.inv W) : Mv R' W0 W a xs st :=
  h.turn (S := fun _ => False) (Frm.refl _ _) (fun _ _ _ h => h.elim) (fun k hk => .inl (hp k hk)) hi
theorem Mv.prot_lt (h : Mv R W0 W a xs st) {k : Nat} (hk : R.prot k) : k < W.heap.size := by
  obtain ⟨v, h1, h2, h3, h4, h5⟩ := h
  exact (h5.1 k hk).1
theorem load_mv (h : Mv R W0 W a xs st) (i : Nat) (x : Int) (hx : xs[i]? = some x) (h0 : 0 ≤ st) (h1 : st < 4611686018427387904) :
    Calls Try.prog 30 #[.pointer (some ⟨a, 0, none⟩), .int .i64 i] W fun e w' => e = .returned (.tuple #[.int .i64 x, .nilIface]) ∧ Mv R W0 w' a xs (st + 1) := by
  obtain ⟨v, ha, h3, h4, h5, h6⟩ := h
  exact (load_some i W a v xs st x ha hx h0 h1).mono fun _ _ ⟨he, hs⟩ => ⟨he, Mv.step ha h3 h4 h5 h6 hs⟩
/-- Both blocks of a probe that steps, and all else. -/
structure P2 (R : Rest) (W0 w : World) (a : Nat) (xs : List Int) (st : Int) (b : Nat) (ts zs : Array Value) : Prop where
  mv : Mv ((R.and b ts 134).and (b + 1) zs 134) W0 w a xs st
  z : zs.size = 41
  low : W0.heap.size ≤ b
  np : ∀ k, R.prot k → k < b
theorem P2.start (h : Mv R W0 W a xs st) (ts : Array Value) (hz : zs.size = 41) : P2 R W0 ((W.alloc (.cells ts 134)).alloc (.cells zs 134)) a xs st W.heap.size ts zs := by
  have h2 := obj_new (W.alloc (.cells ts 134)) (.cells zs 134)
  exact ⟨((h.keep (balloc (balloc (Below.refl _ _) _) _)).with (obj_old _ (obj_new _ _)) (by decide) (by decide)).with (by rw [show (W.alloc (.cells ts 134)).heap.size = W.heap.size + 1 by simp] at h2; exact h2) (by decide) (by decide), hz, h.below.size, fun k hk => h.prot_lt hk⟩
theorem P2.t (h : P2 R W0 w a xs st b ts zs) : Blk w b ts 134 := h.mv.inv.1.2
theorem P2.r (h : P2 R W0 w a xs st b ts zs) : Blk w (b + 1) zs 134 := h.mv.inv.2
theorem P2.cell (h : P2 R W0 w a xs st b ts zs) (i : Nat) : w.cell? ⟨b, i, none⟩ = ts[i]? := obj_cell h.t i
theorem P2.free (h : P2 R W0 w a xs st b ts zs) (i : Nat) : w.frozen? ⟨b, i, none⟩ = false := obj_free h.t i
theorem P2.inv (h : P2 R W0 w a xs st b ts zs) : R.inv w := h.mv.inv.1.1
theorem P2.keep (h : P2 R W0 w a xs st b ts zs) (hb : Below w.heap.size w w') : P2 R W0 w' a xs st b ts zs := ⟨h.mv.keep hb, h.z, h.low, h.np⟩
theorem P2.turn {ts' : Array Value} (h : P2 R W0 w a xs st b ts zs) (hf : Frm (fun k => k = b) w w') (hb : Blk w' b ts' 134) : P2 R W0 w' a xs st b ts' zs := by
  have hr := h.r
  have ht := h.t
  refine ⟨h.mv.turn hf (fun g o ho e => ?_) (fun g hg => ?_) ⟨⟨?_, hb⟩, hf.obj hr (by omega)⟩, h.z, h.low, h.np⟩
  · subst e
    rw [ht] at ho
    cases ho
    obtain ⟨v, ha, _⟩ := h.mv
    exact ⟨h.low, obj_ne ht ha.1 (by decide), fun c e => by injection e with _ e2 _; exact absurd e2 (by decide)⟩
  · exact .inl hg
  · exact R.ok _ _ h.inv fun k hk => hf.block k (Nat.lt_trans (h.np k hk) (lt_of_block ht)) (by have := h.np k hk; omega)
theorem P2.set (h : P2 R W0 w a xs st b ts zs) (i : Nat) (v : Value) : P2 R W0 (w.setCell ⟨b, i, none⟩ v) a xs st b (ts.setIfInBounds i v) zs :=
  h.turn ((Frm.refl (fun k => k = b) w).setCell (p := ⟨b, i, none⟩) rfl v) (obj_setCell _ h.t)
theorem P2.out (h : P2 R W0 w a xs st b ts zs) (cs : Array Value) : (w.setRow (b + 1) cs).heap[b + 1]? = some (.cells cs 134 (0, 0)) ∧ Mv R W0 (w.setRow (b + 1) cs) a xs st := by
  have hr := h.r
  have hf : Frm (fun k => k = b + 1) w (w.setRow (b + 1) cs) := (Frm.refl (fun k => k = b + 1) w).setRow rfl cs
  refine ⟨setRow_heap _ _ _ _ _ _ hr, h.mv.turn hf (fun g o ho e => ?_) (fun g hg => .inl (.inl (.inl hg))) ?_⟩
  · subst e
    rw [hr] at ho
    cases ho
    obtain ⟨v, ha, _⟩ := h.mv
    exact ⟨by have := h.low; omega, obj_ne hr ha.1 (by decide), fun c e => by injection e with _ e2 _; exact absurd e2 (by decide)⟩
  · exact R.ok _ _ h.inv fun k hk => hf.block k (Nat.lt_trans (h.np k hk) (lt_of_block h.t)) (by have := h.np k hk; omega)
theorem P2.load (h : P2 R W0 w a xs st b ts zs) (i : Nat) (x : Int) (hx : xs[i]? = some x) (h0 : 0 ≤ st) (h1 : st < 4611686018427387904) :
    Calls Try.prog 30 #[.pointer (some ⟨a, 0, none⟩), .int .i64 i] w fun e w' => e = .returned (.tuple #[.int .i64 x, .nilIface]) ∧ P2 R W0 w' a xs (st + 1) b ts zs :=
  (load_mv h.mv i x hx h0 h1).mono fun _ _ ⟨he, hm⟩ => ⟨he, hm, h.z, h.low, h.np⟩
end
end Go.Proofs.Ytejkjpmigajidaa
namespace Go.Proofs.Ytejkjpmigajidaa
open Go.RowKit
set_option linter.unusedVariables false

theorem pb_info {ts : Array Value} (h : ts.size = 41) : (Try.prog.info? 134).map (·.size) = some ts.size := by
  rw [h]
  kernel_rfl
/-- Settled, up to an index. -/
def upToV (ts : Array Value) (f : Int) : Array Value := (ts.setIfInBounds 1 (.int .i64 0)).setIfInBounds 40 (.int .i64 f)
section
variable {ts : Array Value} {bp : Option Addr} {at_ next sign most found : Int}
theorem PbF.upTo (h : PbF ts bp at_ next sign most found) (f : Int) : PbF (upToV ts f) bp 0 next sign most f := by
  have hs := h.size
  refine ⟨by simp [upToV, hs], all_set (all_set h.one _ _ rfl) _ _ rfl, ?_, ?_, ?_, ?_, ?_, ?_⟩
  · rw [upToV, Array.getElem?_setIfInBounds_ne (by decide), Array.getElem?_setIfInBounds_ne (by decide)]; exact h.c0
  · rw [upToV, Array.getElem?_setIfInBounds_ne (by decide), Array.getElem?_setIfInBounds_self_of_lt (by omega)]
  · rw [upToV, Array.getElem?_setIfInBounds_ne (by decide), Array.getElem?_setIfInBounds_ne (by decide)]; exact h.c2
  · rw [upToV, Array.getElem?_setIfInBounds_ne (by decide), Array.getElem?_setIfInBounds_ne (by decide)]; exact h.c3
  · rw [upToV, Array.getElem?_setIfInBounds_ne (by decide), Array.getElem?_setIfInBounds_ne (by decide)]; exact h.c39
  · rw [upToV, Array.getElem?_setIfInBounds_self_of_lt (by simp; omega)]
end
structure TwP (W w : World) (b : Nat) (ts zs : Array Value) : Prop where
  t : w.heap[b]? = some (.cells ts 134 (0, 0))
  r : w.heap[b + 1]? = some (.cells zs 134 (0, 0))
  z : zs.size = 41
  low : Below W.heap.size W w
  le : W.heap.size ≤ b
section
variable {W w w' : World} {b : Nat} {ts zs : Array Value}
theorem TwP.keep (h : TwP W w b ts zs) (hb : Below w.heap.size w w') : TwP W w' b ts zs := ⟨(hb.block _ (lt_of_block h.t)).trans h.t, (hb.block _ (lt_of_block h.r)).trans h.r, h.z, bthen h.low hb, h.le⟩
theorem TwP.start (W : World) (ts zs : Array Value) (hz : zs.size = 41) : TwP W ((W.alloc (.cells ts 134)).alloc (.cells zs 134)) W.heap.size ts zs := by
  refine ⟨obj_old _ (obj_new _ _), ?_, hz, balloc (balloc (Below.refl _ _) _) _, Nat.le_refl _⟩
  have := obj_new (W.alloc (.cells ts 134)) (.cells zs 134)
  simpa using this
theorem TwP.cell (h : TwP W w b ts zs) (i : Nat) : w.cell? ⟨b, i, none⟩ = ts[i]? := obj_cell h.t i
theorem TwP.free (h : TwP W w b ts zs) (i : Nat) : w.frozen? ⟨b, i, none⟩ = false := obj_free h.t i
theorem TwP.set (h : TwP W w b ts zs) (i : Nat) (v : Value) : TwP W (w.setCell ⟨b, i, none⟩ v) b (ts.setIfInBounds i v) zs :=
  ⟨obj_setCell _ h.t, (heap_setCell_other _ ⟨b, i, none⟩ _ _ (by simp)).trans h.r, h.z, h.low.setCell (p := ⟨b, i, none⟩) h.le _, h.le⟩
theorem TwP.out (h : TwP W w b ts zs) (cs : Array Value) : (w.setRow (b + 1) cs).heap[b + 1]? = some (.cells cs 134 (0, 0)) ∧ Below W.heap.size W (w.setRow (b + 1) cs) :=
  ⟨setRow_heap _ _ _ _ _ _ h.r, bsetRow h.low (by have := h.le; omega) cs⟩
/-- A new probe's cells. -/
def pbz : Array Value := (([.pointer none, .int .i64 0, .int .i64 0, .int .i64 0] : List Value) ++ (scC [] 0 0).toList ++ ([.int .i64 0, .int .i64 0] : List Value)).toArray
theorem pbz_size : pbz.size = 41 := by kernel_rfl
theorem run_alloc_pb (w : World) : (Instr.alloc 134 true (.tuple #[])).run Try.prog w = .ok (.pointer (some ⟨w.heap.size, 0, none⟩)) (w.alloc (.cells pbz 134)) := by kernel_rfl
theorem wpList_alloc_pb {ops : Array Oper} {rest : List Oper} {o : Oper} {a : Act} {w : World} {Q : Exit → Act → World → Prop} (hg : o.guard = none) (ho : o.op = .alloc 134)
    (h : ∀ zs : Array Value, zs.size = 41 → wpList Try.prog ops Q rest (a.put o.dst (.pointer (some ⟨w.heap.size, 0, none⟩))) (w.alloc (.cells zs 134))) : wpList Try.prog ops Q (o :: rest) a w := by
  refine Great.wpList_runTo hg o.dst rfl _ _ ?_ (h pbz pbz_size)
  unfold execOp
  simp only [ho, Sem.run_bind, run_alloc_pb, Result.andThen_ok, Sem.run_pure]
end
section
variable {ts : Array Value} {bp : Option Addr} {at_ next sign most found : Int}
set_option maxHeartbeats 2000000 in
set_option maxRecDepth 100000 in
theorem pupto (h : PbF ts bp at_ next sign most found) (x : Int) (W : World) :
    Calls Try.prog 141 #[.agg ts, .int .i64 x] W fun e w' => e = .returned (.agg (upToV ts (max found x))) ∧ Below W.heap.size W w' := by
  have HU := Lib.hid (h.upTo (max found x))
  have HI := Lib.hid (pb_info HU.out.size)
  have H40 := Lib.hid h.c40
  have HC1 := Lib.hid h.c1
  have H0 : Hid (∀ zs : Array Value, zs.size = 41 → TwP W ((W.alloc (.cells ts 134)).alloc (.cells zs 134)) W.heap.size ts zs) := fun zs hz => TwP.start W ts zs hz
  clear h
  go_enter Try.func141, Try.ntmps141
  go_upto_region 1 with (refine wpList_alloc_pb rfl rfl ?_; intro zs hz; have H1 := Lib.hid (H0.out zs hz); generalize (W.alloc (.cells ts 134)).alloc (.cells zs 134) = w1 at *)
  have k1 : w1.cell? ⟨W.heap.size, 1, none⟩ = some (.int .i64 at_) := (H1.out.cell 1).trans HC1.out
  have k40 : w1.cell? ⟨W.heap.size, 40, none⟩ = some (.int .i64 found) := (H1.out.cell 40).trans H40.out
  have f1 := H1.out.free 1
  have f40 := H1.out.free 40
  have H2 : Hid (TwP W ((w1.setCell ⟨W.heap.size, 1, none⟩ (.int .i64 0)).setCell ⟨W.heap.size, 40, none⟩ (.int .i64 (max found x))) W.heap.size (upToV ts (max found x)) zs) := Lib.hid ((H1.out.set 1 _).set 40 _)
  clear H0
  go_upto_region 2 with fail
  clear k1 k40 f1 f40
  go_wp2_with (first
    | (refine wpList_load_row rfl 134 (.tmp 2) rfl W.heap.size rfl 134 _ (0, 0) _ H2.out.t Try.underlying134 rfl HI.out ?_)
    | (refine wpList_store_row rfl 134 (.tmp 4) (.tmp 11) rfl (W.heap.size + 1) _ rfl rfl 134 _ H2.out.r HI.out (by rw [HU.out.size]; exact H2.out.z) HU.out.one ?_))
  exact bodyPost_ret (results_row (p := 4) (by kernel_rfl) _ _ (W.heap.size + 1) 134 _ _ rfl (H2.out.out _).1 Try.underlying134 rfl HI.out) rfl ⟨rfl, (H2.out.out _).2⟩
end
end Go.Proofs.Ytejkjpmigajidaa
namespace Go.Proofs.Ytejkjpmigajidaa
open Go.RowKit
set_option linter.unusedVariables false

/-- A barrier's cells. -/
structure BrF (cs : Array Value) (cur : Nat) (sh : Option Addr) (ids : List Int) (al : Nat) : Prop where
  size : cs.size = 36
  c0 : cs[0]? = some (.int .i64 cur)
  c1 : cs[1]? = some (.pointer sh)
  g : Gq cs 2 ids
  c35 : cs[35]? = some (.int .i64 al)
section
variable {R : Rest} {W0 W : World} {a bb : Nat} {xs : List Int} {st : Int} {ts cs : Array Value} {at_ next sign most found : Int} {cur al : Nat} {sh : Option Addr} {ids : List Int}
theorem PbF.atMost {bp : Option Addr} (h : PbF ts bp at_ next sign most found) (y m : Int) : PbF ((ts.setIfInBounds 1 (.int .i64 y)).setIfInBounds 39 (.int .i64 m)) bp y next sign m found := by
  have hs := h.size
  refine ⟨by simp [hs], all_set (all_set h.one _ _ rfl) _ _ rfl, ?_, ?_, ?_, ?_, ?_, ?_⟩
  · rw [Array.getElem?_setIfInBounds_ne (by decide), Array.getElem?_setIfInBounds_ne (by decide)]; exact h.c0
  · rw [Array.getElem?_setIfInBounds_ne (by decide), Array.getElem?_setIfInBounds_self_of_lt (by omega)]
  · rw [Array.getElem?_setIfInBounds_ne (by decide), Array.getElem?_setIfInBounds_ne (by decide)]; exact h.c2
  · rw [Array.getElem?_setIfInBounds_ne (by decide), Array.getElem?_setIfInBounds_ne (by decide)]; exact h.c3
  · rw [Array.getElem?_setIfInBounds_self_of_lt (by simp; omega)]
  · rw [Array.getElem?_setIfInBounds_ne (by decide), Array.getElem?_setIfInBounds_ne (by decide)]; exact h.c40
set_option maxHeartbeats 2000000 in
set_option maxRecDepth 100000 in
theorem preach (h : PbF ts (some ⟨bb, 0, none⟩) at_ next sign most found) (hm : Mv R W0 W a xs st) (hB : ∀ w, R.inv w → Blk w bb cs 177) (hF : BrF cs cur sh ids al) {x : Int} (hx : xs[cur]? = some x) (h0 : 0 ≤ st) (h1 : st < 4611686018427387904) (hs : sh = none ∨ x < next) :
    Calls Try.prog 136 #[.agg ts, .pointer (some ⟨a, 0, none⟩)] W fun e w' => ∃ ts', e = .returned (.tuple #[.agg ts', .nilIface]) ∧ PbF ts' (some ⟨bb, 0, none⟩) 0 next sign most (max found x) ∧ Mv R W0 w' a xs (st + 1) := by
  have HT := Lib.hid h
  have HX := Lib.hid hx
  have HB := Lib.hid hB
  have HF := Lib.hid hF
  have HI := Lib.hid (pb_info h.size)
  have HU := Lib.hid (h.upTo (max found x))
  have HUI := Lib.hid (pb_info HU.out.size)
  have HS : Hid (∀ zs : Array Value, zs.size = 41 → P2 R W0 ((W.alloc (.cells ts 134)).alloc (.cells zs 134)) a xs st W.heap.size ts zs) := Lib.hid fun zs hz => P2.start hm ts hz
  clear h hm hx hB hF
  go_enter Try.func136, Try.ntmps136
  go_upto_region 1 with (refine wpList_alloc_pb rfl rfl ?_; intro zs hz; have H1 := Lib.hid (HS.out zs hz); generalize (W.alloc (.cells ts 134)).alloc (.cells zs 134) = w1 at *)
  have k0 : w1.cell? ⟨W.heap.size, 0, none⟩ = some (.pointer (some ⟨bb, 0, none⟩)) := (H1.out.cell 0).trans HT.out.c0
  have kb : w1.cell? ⟨bb, 0, none⟩ = some (.int .i64 cur) := (obj_cell (HB.out _ H1.out.inv) 0).trans HF.out.c0
  clear HS
  go_upto_region 4 with (go_at_call 30; refine (H1.out.load cur x HX.out h0 h1).mono ?_; rintro e w2 ⟨rfl, h2⟩; have H2 := Lib.hid h2; clear h2)
  clear k0 kb
  have k0 : w2.cell? ⟨W.heap.size, 0, none⟩ = some (.pointer (some ⟨bb, 0, none⟩)) := (H2.out.cell 0).trans HT.out.c0
  have k2 : w2.cell? ⟨W.heap.size, 2, none⟩ = some (.int .i64 next) := (H2.out.cell 2).trans HT.out.c2
  have kb : w2.cell? ⟨bb, 1, none⟩ = some (.pointer sh) := (obj_cell (HB.out _ H2.out.inv) 1).trans HF.out.c1
  cases sh with
  | none =>
    clear hs
    go_wp2_with (first
      | (go_at_call 141; refine (pupto HT.out x _).mono ?_; rintro e w3 ⟨rfl, hb⟩; have H3 := Lib.hid (H2.out.keep hb); clear hb)
      | (refine wpList_load_row rfl 134 (.tmp 2) rfl W.heap.size rfl 134 _ (0, 0) _ H2.out.t Try.underlying134 rfl HI.out ?_)
      | (refine wpList_store_row rfl 134 (.tmp 4) (.tmp 36) rfl (W.heap.size + 1) _ rfl rfl 134 _ H3.out.r HUI.out (by rw [HU.out.size]; exact H3.out.z) HU.out.one ?_))
    exact bodyPost_ret (results_row_fault (p := 4) (u := 5) (by kernel_rfl) _ _ (W.heap.size + 1) 134 _ (0, 0) _ _ rfl rfl (H3.out.out _).1 Try.underlying134 rfl HUI.out) rfl ⟨_, rfl, HU.out, (H3.out.out _).2⟩
  | some q =>
    have d : decide (x < next) = true := decide_eq_true (hs.resolve_left (by simp))
    clear hs
    go_wp2_with (first
      | (go_at_call 141; refine (pupto HT.out x _).mono ?_; rintro e w3 ⟨rfl, hb⟩; have H3 := Lib.hid (H2.out.keep hb); clear hb)
      | (refine wpList_load_row rfl 134 (.tmp 2) rfl W.heap.size rfl 134 _ (0, 0) _ H2.out.t Try.underlying134 rfl HI.out ?_)
      | (refine wpList_store_row rfl 134 (.tmp 4) (.tmp 36) rfl (W.heap.size + 1) _ rfl rfl 134 _ H3.out.r HUI.out (by rw [HU.out.size]; exact H3.out.z) HU.out.one ?_))
    exact bodyPost_ret (results_row_fault (p := 4) (u := 5) (by kernel_rfl) _ _ (W.heap.size + 1) 134 _ (0, 0) _ _ rfl rfl (H3.out.out _).1 Try.underlying134 rfl HUI.out) rfl ⟨_, rfl, HU.out, (H3.out.out _).2⟩
variable {sp : Addr}
set_option maxHeartbeats 2000000 in
set_option maxRecDepth 100000 in
theorem preach_more (h : PbF ts (some ⟨bb, 0, none⟩) at_ next sign most found) (hm : Mv R W0 W a xs st) (hB : ∀ w, R.inv w → Blk w bb cs 177) (hF : BrF cs cur (some sp) ids al) {x : Int} (hx : xs[cur]? = some x) (h0 : 0 ≤ st) (h1 : st < 4611686018427387904) (hs : next ≤ x) :
    Calls Try.prog 136 #[.agg ts, .pointer (some ⟨a, 0, none⟩)] W fun e w' => ∃ ts', e = .returned (.tuple #[.agg ts', .nilIface]) ∧ PbF ts' (some ⟨bb, 0, none⟩) 4 next sign x found ∧ Mv R W0 w' a xs (st + 1) := by
  have HT := Lib.hid h
  have HX := Lib.hid hx
  have HB := Lib.hid hB
  have HF := Lib.hid hF
  have HI := Lib.hid (pb_info h.size)
  have HU := Lib.hid (h.atMost 4 x)
  have HUI := Lib.hid (pb_info HU.out.size)
  have HS : Hid (∀ zs : Array Value, zs.size = 41 → P2 R W0 ((W.alloc (.cells ts 134)).alloc (.cells zs 134)) a xs st W.heap.size ts zs) := Lib.hid fun zs hz => P2.start hm ts hz
  clear h hm hx hB hF
  go_enter Try.func136, Try.ntmps136
  go_upto_region 1 with (refine wpList_alloc_pb rfl rfl ?_; intro zs hz; have H1 := Lib.hid (HS.out zs hz); generalize (W.alloc (.cells ts 134)).alloc (.cells zs 134) = w1 at *)
  have k0 : w1.cell? ⟨W.heap.size, 0, none⟩ = some (.pointer (some ⟨bb, 0, none⟩)) := (H1.out.cell 0).trans HT.out.c0
  have kb : w1.cell? ⟨bb, 0, none⟩ = some (.int .i64 cur) := (obj_cell (HB.out _ H1.out.inv) 0).trans HF.out.c0
  clear HS
  go_upto_region 4 with (go_at_call 30; refine (H1.out.load cur x HX.out h0 h1).mono ?_; rintro e w2 ⟨rfl, h2⟩; have H2 := Lib.hid h2; clear h2)
  clear k0 kb
  have k0 : w2.cell? ⟨W.heap.size, 0, none⟩ = some (.pointer (some ⟨bb, 0, none⟩)) := (H2.out.cell 0).trans HT.out.c0
  have k2 : w2.cell? ⟨W.heap.size, 2, none⟩ = some (.int .i64 next) := (H2.out.cell 2).trans HT.out.c2
  have kb : w2.cell? ⟨bb, 1, none⟩ = some (.pointer (some sp)) := (obj_cell (HB.out _ H2.out.inv) 1).trans HF.out.c1
  have k1 : w2.cell? ⟨W.heap.size, 1, none⟩ = some (.int .i64 at_) := (H2.out.cell 1).trans HT.out.c1
  have k39 : w2.cell? ⟨W.heap.size, 39, none⟩ = some (.int .i64 most) := (H2.out.cell 39).trans HT.out.c39
  have f1 := H2.out.free 1
  have f39 := H2.out.free 39
  have d : decide (x < next) = false := decide_eq_false (by omega)
  have H3 := Lib.hid ((H2.out.set 1 (.int .i64 4)).set 39 (.int .i64 x))
  clear hs
  go_wp2_with (first
    | (refine wpList_load_row rfl 134 (.tmp 2) rfl W.heap.size rfl 134 _ (0, 0) _ H3.out.t Try.underlying134 rfl HUI.out ?_)
    | (refine wpList_store_row rfl 134 (.tmp 4) (.tmp 40) rfl (W.heap.size + 1) _ rfl rfl 134 _ H3.out.r HUI.out (by rw [HU.out.size]; exact H3.out.z) HU.out.one ?_))
  exact bodyPost_ret (results_row_fault (p := 4) (u := 5) (by kernel_rfl) _ _ (W.heap.size + 1) 134 _ (0, 0) _ _ rfl rfl (H3.out.out _).1 Try.underlying134 rfl HUI.out) rfl ⟨_, rfl, HU.out, (H3.out.out _).2⟩
end
end Go.Proofs.Ytejkjpmigajidaa
namespace Go.Proofs.Ytejkjpmigajidaa
open Go.RowKit
set_option linter.unusedVariables false

section
variable {R : Rest} {W0 W : World} {a bb : Nat} {xs : List Int} {st : Int} {ts cs : Array Value} {at_ next sign most found : Int} {cur al : Nat} {sh : Option Addr} {ids : List Int}
theorem PbF.signAt {bp : Option Addr} (h : PbF ts bp at_ next sign most found) (m y : Int) : PbF ((ts.setIfInBounds 3 (.int .i64 m)).setIfInBounds 1 (.int .i64 y)) bp y next m most found := by
  have hs := h.size
  refine ⟨by simp [hs], all_set (all_set h.one _ _ rfl) _ _ rfl, ?_, ?_, ?_, ?_, ?_, ?_⟩
  · rw [Array.getElem?_setIfInBounds_ne (by decide), Array.getElem?_setIfInBounds_ne (by decide)]; exact h.c0
  · rw [Array.getElem?_setIfInBounds_self_of_lt (by simp; omega)]
  · rw [Array.getElem?_setIfInBounds_ne (by decide), Array.getElem?_setIfInBounds_ne (by decide)]; exact h.c2
  · rw [Array.getElem?_setIfInBounds_ne (by decide), Array.getElem?_setIfInBounds_self_of_lt (by omega)]
  · rw [Array.getElem?_setIfInBounds_ne (by decide), Array.getElem?_setIfInBounds_ne (by decide)]; exact h.c39
  · rw [Array.getElem?_setIfInBounds_ne (by decide), Array.getElem?_setIfInBounds_ne (by decide)]; exact h.c40
set_option maxHeartbeats 2000000 in
set_option maxRecDepth 100000 in
theorem pheed_alert (h : PbF ts (some ⟨bb, 0, none⟩) at_ next sign most found) (hm : Mv R W0 W a xs st) (hB : ∀ w, R.inv w → Blk w bb cs 177) (hF : BrF cs cur sh ids al) (hx : xs[al]? = some 1) (h0 : 0 ≤ st) (h1 : st < 4611686018427387904) :
    Calls Try.prog 134 #[.agg ts, .pointer (some ⟨a, 0, none⟩)] W fun e w' => ∃ ts', e = .returned (.tuple #[.agg ts', .nilIface]) ∧ PbF ts' (some ⟨bb, 0, none⟩) 0 next 1 most found ∧ Mv R W0 w' a xs (st + 1) := by
  have HT := Lib.hid h
  have HX := Lib.hid hx
  have HB := Lib.hid hB
  have HF := Lib.hid hF
  have HI := Lib.hid (pb_info h.size)
  have HU := Lib.hid (h.signAt 1 0)
  have HUI := Lib.hid (pb_info HU.out.size)
  have HS : Hid (∀ zs : Array Value, zs.size = 41 → P2 R W0 ((W.alloc (.cells ts 134)).alloc (.cells zs 134)) a xs st W.heap.size ts zs) := Lib.hid fun zs hz => P2.start hm ts hz
  clear h hm hx hB hF
  go_enter Try.func134, Try.ntmps134
  go_upto_region 1 with (refine wpList_alloc_pb rfl rfl ?_; intro zs hz; have H1 := Lib.hid (HS.out zs hz); generalize (W.alloc (.cells ts 134)).alloc (.cells zs 134) = w1 at *)
  have k0 : w1.cell? ⟨W.heap.size, 0, none⟩ = some (.pointer (some ⟨bb, 0, none⟩)) := (H1.out.cell 0).trans HT.out.c0
  have kb : w1.cell? ⟨bb, 35, none⟩ = some (.int .i64 al) := (obj_cell (HB.out _ H1.out.inv) 35).trans HF.out.c35
  clear HS
  go_upto_region 4 with (go_at_call 30; refine (H1.out.load al 1 HX.out h0 h1).mono ?_; rintro e w2 ⟨rfl, h2⟩; have H2 := Lib.hid h2; clear h2)
  clear k0 kb
  have k0 : w2.cell? ⟨W.heap.size, 0, none⟩ = some (.pointer (some ⟨bb, 0, none⟩)) := (H2.out.cell 0).trans HT.out.c0
  have k1 : w2.cell? ⟨W.heap.size, 1, none⟩ = some (.int .i64 at_) := (H2.out.cell 1).trans HT.out.c1
  have k3 : w2.cell? ⟨W.heap.size, 3, none⟩ = some (.int .i64 sign) := (H2.out.cell 3).trans HT.out.c3
  have f1 := H2.out.free 1
  have f3 := H2.out.free 3
  have H3 := Lib.hid ((H2.out.set 3 (.int .i64 1)).set 1 (.int .i64 0))
  go_wp2_with (first
    | (refine wpList_load_row rfl 134 (.tmp 2) rfl W.heap.size rfl 134 _ (0, 0) _ H3.out.t Try.underlying134 rfl HUI.out ?_)
    | (refine wpList_store_row rfl 134 (.tmp 4) (.tmp 43) rfl (W.heap.size + 1) _ rfl rfl 134 _ H3.out.r HUI.out (by rw [HU.out.size]; exact H3.out.z) HU.out.one ?_))
  exact bodyPost_ret (results_row_fault (p := 4) (u := 5) (by kernel_rfl) _ _ (W.heap.size + 1) 134 _ (0, 0) _ _ rfl rfl (H3.out.out _).1 Try.underlying134 rfl HUI.out) rfl ⟨_, rfl, HU.out, (H3.out.out _).2⟩
end
end Go.Proofs.Ytejkjpmigajidaa
