/-
  A region that draws its order, walked by hand with the frame a variable: what is put where, in any order; what operations yield. Nothing here speaks of a program.
  A region that draws its order, under an invariant that speaks of what is listed: one obligation an operation of its head, whatever order it takes; behind the head its tail, in one forced order. Nothing here speaks of a program.
  A region that draws its order, walked by what is listed: the frame is the first one with the slots of what is listed set, whatever came first; one obligation an operation. Nothing here speaks of a program.
-/
import Derived.Test.YtjadapjjilegnaaMem2
import Derived.Deep.RegionHeld3
import Derived.Deep.MidRow
import Derived.Great.BuildSlice
import Derived.Test.YtjadapjjilegnaaTail
namespace Go.Proofs.Ytjadapjjilegnaa
open Go.RowKit
set_option linter.unusedVariables false

theorem put_comm (a : Act) {i j : Tmp} (h : i ≠ j) (u v : Value) : (a.put (some i) u).put (some j) v = (a.put (some j) v).put (some i) u := by
  simp only [Act.put]
  rw [Array.setIfInBounds_comm _ _ h]
theorem put_size (a : Act) (d : Option Tmp) (v : Value) : (a.put d v).tmps.size = a.tmps.size := by
  cases d <;> simp [Act.put]
theorem eval_ne (a : Act) {d t : Tmp} (h : d ≠ t) (v : Value) : (a.put (some d) v).eval (.tmp t) = a.eval (.tmp t) := by
  simp only [Act.put, Act.eval]
  simp [Array.getD_eq_getD_getElem?, Array.getElem?_setIfInBounds_ne h]
theorem eval_none (a : Act) (v : Value) (x : Operand) : (a.put none v).eval x = a.eval x := rfl
theorem eval_eq (a : Act) {t : Tmp} (h : t < a.tmps.size) (v : Value) : (a.put (some t) v).eval (.tmp t) = v := by
  simp only [Act.put, Act.eval]
  simp [Array.getD_eq_getD_getElem?, h]

/-- A region, by what it leaves: the frame and the world. -/
theorem wp_through {P : Program} {c : Code} {Q : Exit → Act → World → Prop} {a : Act} {w : World} (R : Act → World → Prop) (h1 : c.wp P (fun e a' w' => e = .normal ∧ R a' w') a w) (h2 : ∀ a' w', R a' w' → Q .normal a' w') : c.wp P Q a w :=
  Code.wp_mono (fun e a' w' ⟨he, hr⟩ => by subst he; exact h2 a' w' hr) h1

section
variable {P : Program} {ops : Array Oper} {S : World → Prop} {op : Oper} {a : Act} {w : World} {K : Act → World → Prop} {Q : Exit → Act → World → Prop} {v : Value}
/-- What an operation yields in each world that meets S, by its own equation. -/
theorem yI_run (hw : op.guard = none) (hr : ∀ w, S w → (execOp a.eval op).run P w = .ok (.value v) w) : YieldsIf P ops S op v a :=
  .inl ⟨by simp [Region.wanted, hw], hr⟩
theorem yI_move (hw : op.guard = none) (x : Operand) (ho : op.op = .move x) (hx : a.eval x = v) : YieldsIf P ops S op v a :=
  yI_run hw fun w _ => by
    unfold execOp
    simp only [ho, hx, Sem.run_pure]
theorem yI_assign (hw : op.guard = none) (x : Operand) (ho : op.op = .assign x) (hx : a.eval x = v) : YieldsIf P ops S op v a :=
  yI_run hw fun w _ => by
    unfold execOp
    simp only [ho, hx, Sem.run_pure]
theorem yI_field (hw : op.guard = none) (ty : TypeId) (x : Operand) (k : Nat) (ho : op.op = .fieldAddr ty x k) {u : Value} (hx : a.eval x = u) (hr : ∀ w, (Instr.fieldAt ty u k).run P w = .ok v w) : YieldsIf P ops S op v a :=
  yI_run hw fun w _ => by
    unfold execOp
    simp only [ho, hx, Sem.run_bind, hr w, Result.andThen_ok, Sem.run_pure]
theorem yI_index (hw : op.guard = none) (ty : TypeId) (x i : Operand) (ho : op.op = .indexAddr ty x i) {u k : Value} (hx : a.eval x = u) (hi : a.eval i = k) (hr : ∀ w, (Instr.indexAt ty u k).run P w = .ok v w) : YieldsIf P ops S op v a :=
  yI_run hw fun w _ => by
    unfold execOp
    simp only [ho, hx, hi, Sem.run_bind, hr w, Result.andThen_ok, Sem.run_pure]
theorem yI_load (hw : op.guard = none) (ty : TypeId) (x : Operand) (ho : op.op = .load ty x) {u : Value} (hx : a.eval x = u) (hr : ∀ w, S w → (Instr.loadAt ty u).run P w = .ok v w) : YieldsIf P ops S op v a :=
  yI_run hw fun w hS => by
    unfold execOp
    simp only [ho, hx, Sem.run_bind, hr w hS, Result.andThen_ok, Sem.run_pure]
theorem yI_build1 (hw : op.guard = none) (ty : TypeId) (i : Nat) (x : Operand) (ho : op.op = .build ty #[(i, x)]) {u : Value} (hx : a.eval x = u) (hr : ∀ w, (Instr.build ty #[(i, u)]).run P w = .ok v w) : YieldsIf P ops S op v a :=
  yI_run hw fun w hS => by
    unfold execOp
    have e1 : ((#[(i, x)] : Array (Nat × Operand)).map fun (i, x) => (i, a.eval x)) = #[(i, u)] := by simp [hx]
    simp only [ho, e1, hr w, Sem.run_bind, Result.andThen_ok, Sem.run_pure]
theorem yI_extract (hw : op.guard = none) (x : Operand) (k : Nat) (ho : op.op = .extract x k) {u : Value} (hx : a.eval x = u) (hr : ∀ w, (Instr.extract u k).run P w = .ok v w) : YieldsIf P ops S op v a :=
  yI_run hw fun w hS => by
    unfold execOp
    simp only [ho, hx, hr w, Sem.run_bind, Result.andThen_ok, Sem.run_pure]
end

/-- What yields in each world that meets S is taken first; where it goes is said. -/
theorem take_at {P : Program} {md : Region.Mode} {ops : Array Oper} {Q : Exit → Act → World → Prop} {S : World → Prop} (i : Nat) (dst : Option Tmp) (v : Value) {oi : Oper} {fuel : Nat} {listed : Array Bool} {a : Act} {w : World} (hi : ops[i]? = some oi) (hd : oi.dst = dst)
    (hs : Region.noSelect ops = true) (hf : Region.free md ops listed i = true) (hr : (Region.ready md ops listed).contains i = true)
    (hQ : ∀ c a w, Q (.panic c) (a.put oi.dst v) w → Q (.panic c) a w) (hy : YieldsIf P ops S oi v a) (hS : S w)
    (h : wpAnyH P md ops Q S fuel (listed.setIfInBounds i true) (a.put dst v) w) : wpAnyH P md ops Q S (fuel + 1) listed a w := by
  subst hd
  exact wpAnyH_take hi hs hf hr hQ hy hS h
/-- The frame by what is known of it. -/
theorem wp_frame {P : Program} {c : Code} {Q : Exit → Act → World → Prop} {a : Act} {w : World} (E : Act → Prop) (R : Act → Act → World → Prop) (hE : E a) (h1 : ∀ a0, E a0 → c.wp P (fun e a' w' => e = .normal ∧ R a0 a' w') a0 w) (h2 : ∀ a' w', R a a' w' → Q .normal a' w') : c.wp P Q a w :=
  wp_through (R a) (h1 a hE) h2
section
variable {P : Program} {op : Oper} {a : Act} {w : World} {K : Act → World → Prop} {Q : Exit → Act → World → Prop} {E : Prop} {ops : Array Oper}
/-- A slice literal of one struct, in a region that draws its order. -/
theorem step_slice1 (hg : op.guard = none) (t e : TypeId) (x : Operand) (ho : op.op = .buildSlice t 1 #[(0, x)]) (cs : Array Value) (u : Value) (hx : a.eval x = u)
    (hr : (Instr.buildSlice t 1 #[(0, u)]).run P w = .ok (.slice (some ⟨w.heap.size, 0, none⟩) 1 1) (w.alloc (.cells cs e)))
    (h : ∀ n w', n = w.heap.size → w'.heap[n]? = some (.cells cs e (0, 0)) → Below w.heap.size w w' → K (a.put op.dst (.slice (some ⟨n, 0, none⟩) 1 1)) w') :
    if Region.wanted op (yielded ops a.tmps) = true then Oper.wp P op a w K Q else E := by
  rw [if_pos (by simp [Region.wanted, hg])]
  unfold Oper.wp execOp
  have e1 : ((#[(0, x)] : Array (Nat × Operand)).map fun (i, x) => (i, a.eval x)) = #[(0, u)] := by simp [hx]
  simp only [ho, e1, hr, Sem.run_bind, Result.andThen_ok, Sem.run_pure]
  exact h _ _ rfl (obj_new _ _) ((Below.refl _ _).alloc (Nat.le_refl _) _)
end
end Go.Proofs.Ytjadapjjilegnaa
namespace Go.Proofs.Ytjadapjjilegnaa
open Go.RowKit

theorem filter_one (p q : Nat → Bool) (i : Nat) (hp : p i = true) (hq : q i = false) (hpq : ∀ j, j ≠ i → q j = p j) : ∀ l : List Nat, l.Nodup → i ∈ l → (l.filter p).length = (l.filter q).length + 1 := by
  intro l
  induction l with
  | nil => intro _ hi; cases hi
  | cons x l ih =>
    intro hl hi
    rw [List.nodup_cons] at hl
    by_cases e : x = i
    · subst e
      have h1 : l.filter q = l.filter p := List.filter_congr fun j hj => hpq j fun e => hl.1 (e ▸ hj)
      rw [List.filter_cons_of_pos hp, List.filter_cons_of_neg (by simp [hq]), h1]
      rfl
    · have hi' : i ∈ l := by
        rcases List.mem_cons.1 hi with h | h
        · exact absurd h.symm e
        · exact h
      have := ih hl.2 hi'
      have hx := hpq x e
      cases hpx : p x
      · rw [List.filter_cons_of_neg (by simp [hpx]), List.filter_cons_of_neg (by rw [hx, hpx]; decide), this]
      · rw [List.filter_cons_of_pos hpx, List.filter_cons_of_pos (hx.trans hpx), List.length_cons, List.length_cons, this]

/-- How many of the first n aren't listed. -/
def left (n : Nat) (s : Array Bool) : Nat := ((List.range n).filter fun j => s.getD j true == false).length
theorem set_self (s : Array Bool) (i : Nat) : (s.setIfInBounds i true).getD i true = true := by
  simp only [Array.getD_eq_getD_getElem?, Array.getElem?_setIfInBounds, if_true]
  split <;> rfl
theorem left_set {n i : Nat} {s : Array Bool} (hi : i < n) (hs : s.getD i true = false) : left n s = left n (s.setIfInBounds i true) + 1 :=
  filter_one _ _ i (by rw [hs]; rfl) (by rw [set_self]; rfl) (fun j hj => by rw [getD_set_ne true (Ne.symm hj)]) _ List.nodup_range (List.mem_range.2 hi)
theorem left_none {n : Nat} {s : Array Bool} (h : left n s = 0) : ∀ j, j < n → s.getD j true = true := by
  intro j hj
  have h0 : ((List.range n).filter fun j => s.getD j true == false) = [] := List.eq_nil_of_length_eq_zero h
  rw [List.filter_eq_nil_iff] at h0
  have := h0 j (List.mem_range.2 hj)
  cases e : s.getD j true
  · rw [e] at this
    exact absurd rfl this
  · rfl
theorem first_un {s : Array Bool} : ∀ m : Nat, (∀ j, j < m → s.getD j true = true) ∨ ∃ j, j < m ∧ s.getD j true = false ∧ ∀ k, k < j → s.getD k true = true := by
  intro m
  induction m with
  | zero => exact .inl fun j h => absurd h (Nat.not_lt_zero _)
  | succ m ih =>
    rcases ih with h | ⟨j, h1, h2, h3⟩
    · cases e : s.getD m true
      · exact .inr ⟨m, Nat.lt_succ_self _, e, h⟩
      · refine .inl fun j hj => ?_
        rcases Nat.lt_succ_iff_lt_or_eq.1 hj with h' | rfl
        · exact h j h'
        · exact e
    · exact .inr ⟨j, Nat.lt_succ_of_lt h1, h2, h3⟩
theorem getD_down {s : Array Bool} {j : Nat} (hj : j < s.size) (h : s.getD j true = true) : s.getD j false = true := by
  simp [hj] at h ⊢
  exact h

/-- Each of the first n waits for earlier ones alone. -/
def backB (ops : Array Oper) (n : Nat) : Bool := (List.range n).all fun i => match ops[i]? with
  | some o => o.after.all fun e => !Region.binds .any e || decide (e.on < i)
  | none => false
/-- The first n are listed. -/
def canon (n m : Nat) : Array Bool := Array.replicate n true ++ Array.replicate (m - n) false

section
variable {P : Program} {ops : Array Oper} {Q : Exit → Act → World → Prop}
theorem rg_any {n g : Nat} {Inv : Array Bool → Act → World → Prop} (hs : Region.sinkB .any ops n = true) (hc : Region.chainB .any ops n = true) (hn : n < ops.size) (hb : backB ops n = true)
    (hstep : ∀ i s a w, i < n → i ∈ Region.ready .any ops s → Inv s a w → wpOp P ops Q i (fun a' w' => Inv (s.setIfInBounds i true) a' w') a w)
    (hend : ∀ s a w, HeadInv .any ops n s → (∀ j, j < n → s.getD j true = true) → Inv s a w → wpAny P .any ops Q g s a w) :
    ∀ (f : Nat) (s : Array Bool) (a : Act) (w : World), HeadInv .any ops n s → left n s = f → Inv s a w → wpAny P .any ops Q (f + g) s a w := by
  intro f
  induction f with
  | zero => intro s a w inv hf h; rw [Nat.zero_add]; exact hend s a w inv (left_none hf) h
  | succ f ih =>
    intro s a w inv hf h
    obtain ⟨j, hj, hun, hmin⟩ : ∃ j, j < n ∧ s.getD j true = false ∧ ∀ k, k < j → s.getD k true = true := by
      rcases first_un (s := s) n with h1 | h1
      · have h0 : left n s = 0 := by
          unfold left
          rw [List.length_eq_zero_iff, List.filter_eq_nil_iff]
          intro k hk
          rw [h1 k (List.mem_range.1 hk)]
          decide
        omega
      · exact h1
    rw [show f + 1 + g = (f + g) + 1 by omega]
    refine ⟨fun h0 => ?_, fun i hi => ?_⟩
    · have hr : j ∈ Region.ready .any ops s := by
        have h1 := List.all_eq_true.1 hb j (List.mem_range.2 hj)
        cases ho : ops[j]? with
        | none => rw [ho] at h1; cases h1
        | some o =>
          rw [ho] at h1
          refine mem_ready.2 ⟨hun, o, ho, fun e he hbe => ?_⟩
          have h2 := (Array.all_eq_true_iff_forall_mem.1 h1) e he
          rw [hbe] at h2
          have h3 : e.on < j := by simpa using h2
          exact getD_down (by rw [inv.size]; omega) (hmin _ h3)
      rw [h0] at hr
      cases hr
    · have hin : i < n := Nat.lt_of_not_le fun h' => tail_waits hs hc hn inv _ j rfl hj hun i h' hi
      exact wpOp_mono (fun a' w' h' => ih _ a' w' (inv.set hi hin) (by have := left_set hin (mem_ready.1 hi).1; omega) h') (hstep i s a w hin hi h)
end

theorem canon_of {ops : Array Oper} {n : Nat} {s : Array Bool} (hn : n < ops.size) (inv : HeadInv .any ops n s) (h : ∀ j, j < n → s.getD j true = true) : s = canon n ops.size := by
  have hsz := inv.size
  refine Array.ext (by simp [canon]; omega) fun j h1 h2 => ?_
  by_cases hj : j < n
  · have := h j hj
    simp [h1] at this
    rw [this]
    simp [canon, hj]
  · have := inv.tail j (by omega) (by omega)
    simp [h1] at this
    rw [this]
    show false = (Array.replicate n true ++ Array.replicate (ops.size - n) false)[j]'(by simpa [canon] using h2)
    rw [Array.getElem_append_right (by simp; omega)]
    simp

/-- The region, one obligation an operation. -/
theorem wp_region_rg {P : Program} {id : Nat} {Q : Exit → Act → World → Prop} {a : Act} {w : World} {l : List Oper} (n : Nat) (hm : P.follows .mixedOrders = true) (hn : n < l.length)
    (hs : Region.sinkB .any l.toArray n = true) (hc : Region.chainB .any l.toArray n = true) (hb : backB l.toArray n = true) (hq : Region.seqB .any l.toArray (l.length - n) n (canon n l.length) = true)
    (Inv : Array Bool → Act → World → Prop) (h0 : Inv (Array.replicate l.length false) a { w with drawn := w.drawn + 1 })
    (hstep : ∀ i s a' w', i < n → i ∈ Region.ready .any l.toArray s → Inv s a' w' → wpOp P l.toArray Q i (fun a'' w'' => Inv (s.setIfInBounds i true) a'' w'') a' w')
    (hend : ∀ a' w', Inv (canon n l.length) a' w' → wpList P l.toArray Q (l.drop n) a' w') : (Code.region id l.toArray true).wp P Q a w := by
  have hn' : n < l.toArray.size := by simpa using hn
  have inv0 : HeadInv .any l.toArray n (Array.replicate l.toArray.size false) :=
    ⟨by simp, fun j q _ hl => (by rw [getD_replicate_false] at hl; cases hl), fun t _ ht => getD_in (by simpa using ht) (getD_replicate_false _ _)⟩
  have hl : left n (Array.replicate l.toArray.size false) = n := by
    unfold left
    rw [List.filter_eq_self.2]
    · simp
    · intro j hj
      have h2 : j < l.length := by have := List.mem_range.1 hj; omega
      simp [h2]
  refine wp_region_any hm ?_
  have := rg_any (P := P) (Q := Q) (g := l.length - n) (Inv := Inv) hs hc hn' hb hstep (fun s a' w' inv hall h => by
    obtain rfl := canon_of hn' inv hall
    have := wpAny_of_seq (P := P) (md := .any) (Q' := Q) (l.drop n) n (canon n l.toArray.size) a' w' (fun j => by simp [List.getElem?_drop]) (by simpa using hq) (hend a' w' (by simpa using h))
    simpa using this) n (Array.replicate l.toArray.size false) a { w with drawn := w.drawn + 1 } inv0 hl (by simpa using h0)
  rw [show n + (l.length - n) = l.toArray.size by simp; omega] at this
  exact this
/-- An operation without a guard that yields a value. -/
theorem op_val {P : Program} {ops : Array Oper} {Q : Exit → Act → World → Prop} {K : Act → World → Prop} {i : Nat} {o : Oper} {a : Act} {w w' : World} {v : Value} (ho : ops[i]? = some o) (hg : o.guard = none) (hr : (execOp a.eval o).run P w = .ok (.value v) w') (hK : K (a.put o.dst v) w') : wpOp P ops Q i K a w := by
  unfold wpOp
  simp only [ho]
  rw [if_pos (by simp [Region.wanted, hg])]
  refine .inl ?_
  unfold Oper.wp
  rw [hr]
  exact hK
end Go.Proofs.Ytjadapjjilegnaa
namespace Go.Proofs.Ytjadapjjilegnaa
open Go.RowKit
set_option linter.unusedVariables false

/-- A frame with the slots of what is listed set. -/
def actOf (D : Nat → Option Tmp) (V : Nat → Value) (s : Array Bool) (a0 : Act) : Nat → Act
  | 0 => a0
  | n + 1 => if s.getD n true = true then (actOf D V s a0 n).put (D n) (V n) else actOf D V s a0 n
/-- No two operations set one slot. -/
def DD (D : Nat → Option Tmp) (n : Nat) : Prop := ∀ i j, i < n → j < n → i ≠ j → ∀ k, D i = some k → D j ≠ some k
/-- One value more. -/
def upd (V : Nat → Value) (i : Nat) (v : Value) : Nat → Value := fun j => if j = i then v else V j
theorem upd_self (V : Nat → Value) (i : Nat) (v : Value) : upd V i v i = v := by simp [upd]
theorem upd_ne (V : Nat → Value) {i j : Nat} (h : j ≠ i) (v : Value) : upd V i v j = V j := by simp [upd, h]
section
variable {D : Nat → Option Tmp} {V V' : Nat → Value} {s s' : Array Bool} {a0 : Act}
theorem actOf_congr : ∀ n, (∀ j, j < n → s.getD j true = s'.getD j true ∧ (s.getD j true = true → V j = V' j)) → actOf D V s a0 n = actOf D V' s' a0 n
  | 0, _ => rfl
  | n + 1, h => by
    have ih := actOf_congr n fun j hj => h j (by omega)
    obtain ⟨h1, h2⟩ := h n (by omega)
    simp only [actOf]
    rw [ih, ← h1]
    by_cases e : s.getD n true = true
    · rw [if_pos e, if_pos e, h2 e]
    · rw [if_neg e, if_neg e]
theorem put_comm2 (a : Act) {d e : Option Tmp} (h : ∀ k, d = some k → e ≠ some k) (u v : Value) : (a.put d u).put e v = (a.put e v).put d u := by
  cases d with
  | none => rfl
  | some i =>
    cases e with
    | none => rfl
    | some j => exact put_comm a (fun he => h i rfl (by rw [he])) u v
theorem actOf_put (n : Nat) (hD : DD D n) {i : Nat} (hi : i < n) (hs : s.getD i true = false) (v : Value) : (actOf D V s a0 n).put (D i) v = actOf D (upd V i v) (s.setIfInBounds i true) a0 n := by
  induction n with
  | zero => omega
  | succ n ih =>
    simp only [actOf]
    by_cases e : i = n
    · subst e
      rw [if_neg (by rw [hs]; decide), if_pos (set_self s i), upd_self]
      rw [actOf_congr i fun j hj => ⟨(getD_set_ne true (show i ≠ j by omega)).symm, fun _ => (upd_ne V (show j ≠ i by omega) v).symm⟩]
    · have ih := ih (fun a b ha hb hab => hD a b (by omega) (by omega) hab) (by omega)
      rw [getD_set_ne true (show i ≠ n by omega)]
      by_cases e2 : s.getD n true = true
      · rw [if_pos e2, if_pos e2, put_comm2 _ (hD n i (by omega) (by omega) (by omega)), ih, upd_ne V (by omega) v]
      · rw [if_neg e2, if_neg e2, ih]
theorem actOf_size (n : Nat) : (actOf D V s a0 n).tmps.size = a0.tmps.size := by
  induction n with
  | zero => rfl
  | succ n ih =>
    simp only [actOf]
    split
    · rw [put_size, ih]
    · exact ih
theorem eval_put_other (a : Act) {d : Option Tmp} {k : Tmp} (h : d ≠ some k) (v : Value) : (a.put d v).eval (.tmp k) = a.eval (.tmp k) := by
  cases d with
  | none => rfl
  | some i => exact eval_ne a (fun e => h (by rw [e])) v
/-- A slot that nothing listed sets. -/
theorem actOf_eval0 {k : Tmp} (n : Nat) (h : ∀ j, j < n → s.getD j true = true → D j ≠ some k) : (actOf D V s a0 n).eval (.tmp k) = a0.eval (.tmp k) := by
  induction n with
  | zero => rfl
  | succ n ih =>
    simp only [actOf]
    have ih := ih fun j hj => h j (by omega)
    split
    · rename_i e
      rw [eval_put_other _ (h n (by omega) e), ih]
    · exact ih
/-- A slot that something listed set. -/
theorem actOf_eval {k : Tmp} (n : Nat) (hD : DD D n) {i : Nat} (hi : i < n) (hk : D i = some k) (hs : s.getD i true = true) (hsz : k < a0.tmps.size) : (actOf D V s a0 n).eval (.tmp k) = V i := by
  induction n with
  | zero => omega
  | succ n ih =>
    simp only [actOf]
    by_cases e : i = n
    · subst e
      rw [if_pos hs, hk]
      exact eval_eq _ (by rw [actOf_size]; exact hsz) _
    · have ih := ih (fun a b ha hb hab => hD a b (by omega) (by omega) hab) (by omega)
      split
      · rw [eval_put_other _ (hD i n (by omega) (by omega) e k hk), ih]
      · exact ih
end

section
variable {P : Program} {ops : Array Oper} {Q : Exit → Act → World → Prop} {D : Nat → Option Tmp} {a0 : Act} {n : Nat} {M : Array Bool → (Nat → Value) → World → Prop}
/-- What holds on the way: the frame by what is listed, and what is known of memory. -/
def ActInv (D : Nat → Option Tmp) (a0 : Act) (n : Nat) (M : Array Bool → (Nat → Value) → World → Prop) (s : Array Bool) (a : Act) (w : World) : Prop := ∃ V, a = actOf D V s a0 n ∧ M s V w
/-- An operation without a guard that yields a value. -/
theorem act_val {i : Nat} {o : Oper} {s : Array Bool} {V : Nat → Value} {w w' : World} {v : Value} (hD : DD D n) (ho : ops[i]? = some o) (hd : o.dst = D i) (hg : o.guard = none) (hi : i < n) (hs : s.getD i true = false)
    (hr : (execOp (actOf D V s a0 n).eval o).run P w = .ok (.value v) w') (hM : M (s.setIfInBounds i true) (upd V i v) w') :
    wpOp P ops Q i (fun a' w' => ActInv D a0 n M (s.setIfInBounds i true) a' w') (actOf D V s a0 n) w :=
  op_val ho hg hr ⟨_, by rw [hd]; exact actOf_put n hD hi hs v, hM⟩
/-- A call. -/
theorem act_call {i : Nat} {o : Oper} {s : Array Bool} {V : Nat → Value} {w : World} (hD : DD D n) (ho : ops[i]? = some o) (hd : o.dst = D i) (hg : o.guard = none) (hi : i < n) (hs : s.getD i true = false)
    (f : FuncId) (xs : Array Operand) (ts : Array TypeId) (hop : o.op = .call { callee := .value (.func f), args := xs, argTypes := ts }) (vs : Array Value) (hx : xs.map (actOf D V s a0 n).eval = vs) (hf : (callFunc f vs).run P w = .ok (.enter f vs) w)
    (hc : Calls P f vs w fun e w' => ∃ v, e = .returned v ∧ M (s.setIfInBounds i true) (upd V i v) w') :
    wpOp P ops Q i (fun a' w' => ActInv D a0 n M (s.setIfInBounds i true) a' w') (actOf D V s a0 n) w := by
  unfold wpOp
  simp only [ho]
  rw [if_pos (by simp [Region.wanted, hg])]
  refine .inl ?_
  unfold Oper.wp
  have hx2 : xs.map (fun x => (actOf D V s a0 n).eval x) = vs := hx
  have e1 : (execOp (actOf D V s a0 n).eval o).run P w = .ok (.enter f vs) w := by
    unfold execOp
    simp [hop, resolve, invoke, Act.eval, hx2, go_sem]
    exact hf
  rw [e1, Oper.upon_enter]
  refine hc.mono ?_
  rintro e w' ⟨v, rfl, hM⟩
  exact ⟨_, by rw [hd]; exact actOf_put n hD hi hs v, hM⟩
/-- The region. -/
theorem wp_region_act {id : Nat} {w : World} {l : List Oper} (n : Nat) (D : Nat → Option Tmp) (M : Array Bool → (Nat → Value) → World → Prop) (hm : P.follows .mixedOrders = true) (hn : n < l.length)
    (hs : Region.sinkB .any l.toArray n = true) (hc : Region.chainB .any l.toArray n = true) (hb : backB l.toArray n = true) (hq : Region.seqB .any l.toArray (l.length - n) n (canon n l.length) = true)
    (V0 : Nat → Value) (h0 : M (Array.replicate l.length false) V0 { w with drawn := w.drawn + 1 })
    (hstep : ∀ i s V w', i < n → i ∈ Region.ready .any l.toArray s → M s V w' → wpOp P l.toArray Q i (fun a'' w'' => ActInv D a0 n M (s.setIfInBounds i true) a'' w'') (actOf D V s a0 n) w')
    (hend : ∀ V w', M (canon n l.length) V w' → wpList P l.toArray Q (l.drop n) (actOf D V (canon n l.length) a0 n) w') : (Code.region id l.toArray true).wp P Q a0 w := by
  refine wp_region_rg n hm hn hs hc hb hq (ActInv D a0 n M) ⟨V0, ?_, h0⟩ (fun i s a' w' hi hr ⟨V, ha, hM⟩ => ?_) (fun a' w' ⟨V, ha, hM⟩ => ?_)
  · have : ∀ m, m ≤ n → actOf D V0 (Array.replicate l.length false) a0 m = a0 := by
      intro m
      induction m with
      | zero => intro _; rfl
      | succ m ih =>
        intro hm
        simp only [actOf]
        rw [if_neg (by simp [show m < l.length by omega]), ih (by omega)]
    exact (this n (Nat.le_refl _)).symm
  · subst ha
    exact hstep i s V w' hi hr hM
  · subst ha
    exact hend V w' hM
/-- What an operation waits for is listed. -/
theorem ready_dep {i j : Nat} {o : Oper} {s : Array Bool} (hr : i ∈ Region.ready .any ops s) (ho : ops[i]? = some o) {e : Edge} (he : e ∈ o.after) (hb : Region.binds .any e = true) (hj : e.on = j) : s.getD j true = true := by
  obtain ⟨_, o', ho', h⟩ := mem_ready.1 hr
  rw [ho] at ho'
  cases ho'
  have := h e he hb
  rw [hj] at this
  simp only [Array.getD_eq_getD_getElem?] at this ⊢
  cases hs : s[j]? with
  | none => rw [hs] at this; simp at this
  | some b => rw [hs] at this; simpa using this
end
end Go.Proofs.Ytjadapjjilegnaa
