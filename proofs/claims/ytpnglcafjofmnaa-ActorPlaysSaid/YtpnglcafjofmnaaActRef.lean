/-
  The document's table of actors: three rows; Wrong, Add, Park, Wake, Runnable by contract. Conditions: its rows are its own; at most 1048576 actors; for Wake fewer than 2^62 wakes.
-/
import Derived.Test.YtpnglcafjofmnaaActor3
namespace Go.Proofs.Ytpnglcafjofmnaa
open Go.RowKit

theorem rows_neA {w : World} {b1 b2 s1 s2 n1 n2 : Nat} {e1 e2 : TypeId} {v1 v2 : Value} {x1 x2 : List Value} (h1 : w.ownsRow b1 e1 s1 v1 n1 x1) (h2 : w.ownsRow b2 e2 s2 v2 n2 x2) (hne : e1 ≠ e2) {g : Nat} (hg : v2.ownBlock = some g) : v1.ownBlock ≠ some g := by
  obtain ⟨cur, hc⟩ := ownsRow_obj h2 hg
  exact row_ne h1 hc hne

def sts (xs : List Ac) : List Value := xs.map fun a => .int .i64 a.1
def tks (xs : List Ac) : List Value := xs.map fun a => .bool a.2.1
def wks (xs : List Ac) : List Value := xs.map fun a => .int .i64 a.2.2

/-- Three rows in a block. -/
def Rg (w : World) (M : Nat) (v1 v2 v3 : Value) (n1 n2 n3 : Nat) (x1 x2 x3 : List Value) : Prop :=
  w.heap[M]? = some (.cells #[v1, v2, v3] 84 (0, 0)) ∧ w.ownsRow 0 3 1 v1 n1 x1 ∧ w.ownsRow 0 4 1 v2 n2 x2 ∧ w.ownsRow 0 3 1 v3 n3 x3 ∧ ∀ g, v1.ownBlock = some g → v3.ownBlock ≠ some g
/-- The document's table. -/
def Rt (w : World) (M : Nat) (v1 v2 v3 : Value) (xs : List Ac) : Prop := Rg w M v1 v2 v3 xs.length xs.length xs.length (sts xs) (tks xs) (wks xs)

theorem Rg.keep {S : Nat → Prop} {W w' : World} {M : Nat} {v1 v2 v3 : Value} {n1 n2 n3 : Nat} {x1 x2 x3 : List Value} (h : Rg W M v1 v2 v3 n1 n2 n3 x1 x2 x3) (hf : Frm S W w') (hM : ¬ S M) (h1 : ∀ g, v1.ownBlock = some g → ¬ S g) (h2 : ∀ g, v2.ownBlock = some g → ¬ S g) (h3 : ∀ g, v3.ownBlock = some g → ¬ S g) :
    Rg w' M v1 v2 v3 n1 n2 n3 x1 x2 x3 := ⟨hf.obj h.1 hM, hf.row h.2.1 h1, hf.row h.2.2.1 h2, hf.row h.2.2.2.1 h3, h.2.2.2.2⟩
theorem Rg.keepB {W w' : World} {M : Nat} {v1 v2 v3 : Value} {n1 n2 n3 : Nat} {x1 x2 x3 : List Value} (h : Rg W M v1 v2 v3 n1 n2 n3 x1 x2 x3) (hf : Below W.heap.size W w') : Rg w' M v1 v2 v3 n1 n2 n3 x1 x2 x3 :=
  h.keep (Frm.of_below hf fun _ => False) id (fun _ _ => id) (fun _ _ => id) (fun _ _ => id)
theorem Rg.c {W : World} {M : Nat} {v1 v2 v3 : Value} {n1 n2 n3 : Nat} {x1 x2 x3 : List Value} (h : Rg W M v1 v2 v3 n1 n2 n3 x1 x2 x3) : W.cell? ⟨M, 0, none⟩ = some v1 ∧ W.cell? ⟨M, 1, none⟩ = some v2 ∧ W.cell? ⟨M, 2, none⟩ = some v3 ∧ W.frozen? ⟨M, 0, none⟩ = false ∧ W.frozen? ⟨M, 1, none⟩ = false ∧ W.frozen? ⟨M, 2, none⟩ = false :=
  ⟨(obj_cell h.1 0).trans rfl, (obj_cell h.1 1).trans rfl, (obj_cell h.1 2).trans rfl, obj_free h.1 0, obj_free h.1 1, obj_free h.1 2⟩
theorem Rg.ne1 {W : World} {M : Nat} {v1 v2 v3 : Value} {n1 n2 n3 : Nat} {x1 x2 x3 : List Value} (h : Rg W M v1 v2 v3 n1 n2 n3 x1 x2 x3) : v1.ownBlock ≠ some M := row_ne h.2.1 h.1 (by decide)
theorem Rg.ne2 {W : World} {M : Nat} {v1 v2 v3 : Value} {n1 n2 n3 : Nat} {x1 x2 x3 : List Value} (h : Rg W M v1 v2 v3 n1 n2 n3 x1 x2 x3) : v2.ownBlock ≠ some M := row_ne h.2.2.1 h.1 (by decide)
theorem Rg.ne3 {W : World} {M : Nat} {v1 v2 v3 : Value} {n1 n2 n3 : Nat} {x1 x2 x3 : List Value} (h : Rg W M v1 v2 v3 n1 n2 n3 x1 x2 x3) : v3.ownBlock ≠ some M := row_ne h.2.2.2.1 h.1 (by decide)

theorem Rt.start (w : World) (M : Nat) (h : w.heap[M]? = some (.cells #[.slice none 0 0, .slice none 0 0, .slice none 0 0] 84 (0, 0))) : Rt w M (.slice none 0 0) (.slice none 0 0) (.slice none 0 0) [] :=
  ⟨h, World.ownsRow_nil _ _ _ _, World.ownsRow_nil _ _ _ _, World.ownsRow_nil _ _ _ _, fun g e => by simp [Value.ownBlock] at e⟩

/-- Where an actor's three cells lie. -/
theorem Rt.at {W : World} {M : Nat} {v1 v2 v3 : Value} {xs : List Ac} (h : Rt W M v1 v2 v3 xs) {i : Nat} {a : Ac} (hi : xs[i]? = some a) :
    ∃ g1 c1 g2 c2 g3 c3, v1 = .slice (some ⟨g1, 0, none⟩) xs.length c1 ∧ v2 = .slice (some ⟨g2, 0, none⟩) xs.length c2 ∧ v3 = .slice (some ⟨g3, 0, none⟩) xs.length c3 ∧ i < xs.length ∧ xs.length ≤ 9223372036854775807 ∧
      W.cell? ⟨g1, i, none⟩ = some (.int .i64 a.1) ∧ W.cell? ⟨g2, i, none⟩ = some (.bool a.2.1) ∧ W.cell? ⟨g3, i, none⟩ = some (.int .i64 a.2.2) ∧ W.frozen? ⟨g1, i, none⟩ = false ∧ W.frozen? ⟨g2, i, none⟩ = false ∧ W.frozen? ⟨g3, i, none⟩ = false := by
  have hlt : i < xs.length := (List.getElem?_eq_some_iff.1 hi).1
  obtain ⟨_, r1, r2, r3, _⟩ := h
  obtain ⟨g1, c1, rfl, hc1, hm⟩ := row_some r1 (by omega)
  obtain ⟨g2, c2, rfl, _, _⟩ := row_some r2 (by omega)
  obtain ⟨g3, c3, rfl, _, _⟩ := row_some r3 (by omega)
  refine ⟨g1, c1, g2, c2, g3, c3, rfl, rfl, rfl, hlt, by unfold maxLen at hm; omega, (r1.cellAt i (by omega)).trans ?_, (r2.cellAt i (by omega)).trans ?_, (r3.cellAt i (by omega)).trans ?_, r1.frozenAt i, r2.frozenAt i, r3.frozenAt i⟩
  · unfold sts; rw [List.getElem?_map, hi]; rfl
  · unfold tks; rw [List.getElem?_map, hi]; rfl
  · unfold wks; rw [List.getElem?_map, hi]; rfl

theorem map_set_same {α : Type} (f : Ac → α) {xs : List Ac} {i : Nat} {a y : Ac} (hi : xs[i]? = some a) (h : f y = f a) : (xs.set i y).map f = xs.map f := by
  rw [List.map_set, h]
  apply List.ext_getElem?
  intro j
  rw [List.getElem?_set]
  by_cases hj : i = j
  · subst hj
    have hlt : i < xs.length := (List.getElem?_eq_some_iff.1 hi).1
    rw [if_pos rfl, if_pos (by simpa using hlt), List.getElem?_map, hi]
    rfl
  · rw [if_neg hj]

/-- Cells of the rows set, nothing else. -/
def RtSet (W w' : World) (M : Nat) (v1 v2 v3 : Value) (xs : List Ac) : Prop := Rt w' M v1 v2 v3 xs ∧ Frm (fun k => v1.ownBlock = some k ∨ v2.ownBlock = some k ∨ v3.ownBlock = some k) W w'
theorem RtSet.refl {W : World} {M : Nat} {v1 v2 v3 : Value} {xs : List Ac} (h : Rt W M v1 v2 v3 xs) : RtSet W W M v1 v2 v3 xs := ⟨h, Frm.refl _ _⟩
theorem RtSet.s0 {W w : World} {M g n c : Nat} {v2 v3 : Value} {xs : List Ac} (h : RtSet W w M (.slice (some ⟨g, 0, none⟩) n c) v2 v3 xs) {i : Nat} {a : Ac} (hi : xs[i]? = some a) (x : Int) :
    RtSet W (w.setCell ⟨g, i, none⟩ (.int .i64 x)) M (.slice (some ⟨g, 0, none⟩) n c) v2 v3 (xs.set i (x, a.2.1, a.2.2)) := by
  obtain ⟨⟨h0, r1, r2, r3, hd⟩, hf⟩ := h
  obtain rfl : n = xs.length := by
    rcases r1.2 with ⟨h', _⟩ | ⟨g', cap', cur, h', _⟩
    · simp at h'
    · simp only [Value.slice.injEq] at h'; exact h'.2.1
  obtain ⟨s1, s2⟩ := r1.stored i (.int .i64 x)
  have hF := Frm.of_grown s2
  have hgM : g ≠ M := fun e => row_ne r1 h0 (by decide) (by simp [Value.ownBlock, e])
  refine ⟨⟨hF.obj h0 (by simp; omega), ?_, ?_, ?_, hd⟩, hf.setCell (p := ⟨g, i, none⟩) (.inl rfl) _⟩
  · rw [List.length_set]; unfold sts; rw [List.map_set]; exact s1
  · rw [List.length_set]
    have : tks (xs.set i (x, a.2.1, a.2.2)) = tks xs := map_set_same _ hi rfl
    rw [this]
    exact hF.row r2 fun k hk e => by simp at e; subst e; exact rows_neA r1 r2 (by decide) hk rfl
  · rw [List.length_set]
    have : wks (xs.set i (x, a.2.1, a.2.2)) = wks xs := map_set_same _ hi rfl
    rw [this]
    exact hF.row r3 fun k hk e => by simp at e; subst e; exact hd g rfl hk
theorem RtSet.s1 {W w : World} {M g n c : Nat} {v1 v3 : Value} {xs : List Ac} (h : RtSet W w M v1 (.slice (some ⟨g, 0, none⟩) n c) v3 xs) {i : Nat} {a : Ac} (hi : xs[i]? = some a) (x : Bool) :
    RtSet W (w.setCell ⟨g, i, none⟩ (.bool x)) M v1 (.slice (some ⟨g, 0, none⟩) n c) v3 (xs.set i (a.1, x, a.2.2)) := by
  obtain ⟨⟨h0, r1, r2, r3, hd⟩, hf⟩ := h
  obtain rfl : n = xs.length := by
    rcases r2.2 with ⟨h', _⟩ | ⟨g', cap', cur, h', _⟩
    · simp at h'
    · simp only [Value.slice.injEq] at h'; exact h'.2.1
  obtain ⟨s1, s2⟩ := r2.stored i (.bool x)
  have hF := Frm.of_grown s2
  have hgM : g ≠ M := fun e => row_ne r2 h0 (by decide) (by simp [Value.ownBlock, e])
  refine ⟨⟨hF.obj h0 (by simp; omega), ?_, ?_, ?_, hd⟩, hf.setCell (p := ⟨g, i, none⟩) (.inr (.inl rfl)) _⟩
  · rw [List.length_set]
    have : sts (xs.set i (a.1, x, a.2.2)) = sts xs := map_set_same _ hi rfl
    rw [this]
    exact hF.row r1 fun k hk e => by simp at e; subst e; exact rows_neA r2 r1 (by decide) hk rfl
  · rw [List.length_set]; unfold tks; rw [List.map_set]; exact s1
  · rw [List.length_set]
    have : wks (xs.set i (a.1, x, a.2.2)) = wks xs := map_set_same _ hi rfl
    rw [this]
    exact hF.row r3 fun k hk e => by simp at e; subst e; exact rows_neA r2 r3 (by decide) hk rfl
theorem RtSet.s2 {W w : World} {M g n c : Nat} {v1 v2 : Value} {xs : List Ac} (h : RtSet W w M v1 v2 (.slice (some ⟨g, 0, none⟩) n c) xs) {i : Nat} {a : Ac} (hi : xs[i]? = some a) (x : Int) :
    RtSet W (w.setCell ⟨g, i, none⟩ (.int .i64 x)) M v1 v2 (.slice (some ⟨g, 0, none⟩) n c) (xs.set i (a.1, a.2.1, x)) := by
  obtain ⟨⟨h0, r1, r2, r3, hd⟩, hf⟩ := h
  obtain rfl : n = xs.length := by
    rcases r3.2 with ⟨h', _⟩ | ⟨g', cap', cur, h', _⟩
    · simp at h'
    · simp only [Value.slice.injEq] at h'; exact h'.2.1
  obtain ⟨s1, s2⟩ := r3.stored i (.int .i64 x)
  have hF := Frm.of_grown s2
  have hgM : g ≠ M := fun e => row_ne r3 h0 (by decide) (by simp [Value.ownBlock, e])
  refine ⟨⟨hF.obj h0 (by simp; omega), ?_, ?_, ?_, hd⟩, hf.setCell (p := ⟨g, i, none⟩) (.inr (.inr rfl)) _⟩
  · rw [List.length_set]
    have : sts (xs.set i (a.1, a.2.1, x)) = sts xs := map_set_same _ hi rfl
    rw [this]
    exact hF.row r1 fun k hk e => by simp at e; subst e; exact hd g hk rfl
  · rw [List.length_set]
    have : tks (xs.set i (a.1, a.2.1, x)) = tks xs := map_set_same _ hi rfl
    rw [this]
    exact hF.row r2 fun k hk e => by simp at e; subst e; exact rows_neA r3 r2 (by decide) hk rfl
  · rw [List.length_set]; unfold wks; rw [List.map_set]; exact s1

theorem rwrong_bad (W : World) (M : Nat) (v1 v2 v3 : Value) (xs : List Ac) (id n : Int) (h : Rt W M v1 v2 v3 xs) (hw : Wr xs id n) :
    Calls Try.prog 42 #[.pointer (some ⟨M, 0, none⟩), .int .i64 id] W fun e w' => e = .returned (.int .i64 n) ∧ W = w' := by
  have c0 := h.c.1
  rcases hw with ⟨rfl, hw⟩ | ⟨rfl, i, a, rfl, hi, ha⟩
  · obtain ⟨p, c, rfl, hc⟩ := row_form h.2.1
    clear hc h
    by_cases h1 : id < 0
    · clear hw
      have d1 : decide (id < 0) = true := decide_eq_true h1
      go_enter Try.func42, Try.ntmps42
      go_wp2
      go_ret
      exact ⟨rfl, rfl⟩
    · have h2 := hw.resolve_left h1
      clear hw
      have d1 : decide (id < 0) = false := decide_eq_false h1
      have d2 : decide ((xs.length : Int) ≤ id) = true := decide_eq_true h2
      go_enter Try.func42, Try.ntmps42
      go_wp2
      go_ret
      exact ⟨rfl, rfl⟩
  · obtain ⟨g1, c1, g2, c2, g3, c3, rfl, rfl, rfl, hlt, hm, k1, k2, k3, f1, f2, f3⟩ := h.at hi
    obtain ⟨st, tok, wk⟩ := a
    obtain rfl : st = 2 := ha
    simp only at k1
    clear h hi k2 k3 f1 f2 f3
    have d1 : decide ((i : Int) < 0) = false := decide_eq_false (by omega)
    have d2 : decide ((xs.length : Int) ≤ (i : Int)) = false := decide_eq_false (by omega)
    go_enter Try.func42, Try.ntmps42
    go_wp2
    go_ret
    exact ⟨rfl, rfl⟩
theorem rwrong_ok (W : World) (M : Nat) (v1 v2 v3 : Value) (xs : List Ac) (i : Nat) (a : Ac) (h : Rt W M v1 v2 v3 xs) (hi : xs[i]? = some a) (hs : a.1 ≠ 2) :
    Calls Try.prog 42 #[.pointer (some ⟨M, 0, none⟩), .int .i64 i] W fun e w' => e = .returned (.int .i64 0) ∧ W = w' := by
  have c0 := h.c.1
  obtain ⟨g1, c1, g2, c2, g3, c3, rfl, rfl, rfl, hlt, hm, k1, k2, k3, f1, f2, f3⟩ := h.at hi
  obtain ⟨st, tok, wk⟩ := a
  simp only at k1 hs
  clear h hi k2 k3 f1 f2 f3
  have d1 : decide ((i : Int) < 0) = false := decide_eq_false (by omega)
  have d2 : decide ((xs.length : Int) ≤ (i : Int)) = false := decide_eq_false (by omega)
  have d3 : (st == 2) = false := by simp [hs]
  go_enter Try.func42, Try.ntmps42
  go_wp2
  go_ret
  exact ⟨rfl, rfl⟩

theorem rpark_bad (W : World) (M : Nat) (v1 v2 v3 : Value) (xs : List Ac) (id n : Int) (h : Rt W M v1 v2 v3 xs) (hw : Wr xs id n) (hn : n ≠ 0) :
    Calls Try.prog 39 #[.pointer (some ⟨M, 0, none⟩), .int .i64 id] W fun e w' => e = .returned (.tuple #[.bool false, .int .i64 n]) ∧ W = w' := by
  have d : (n == 0) = false := by simp [hn]
  go_enter Try.func39, Try.ntmps39
  go_wp2_with (go_at_call 42; refine (rwrong_bad _ _ _ _ _ _ _ n h hw).mono ?_; rintro e w' ⟨rfl, rfl⟩)
  go_ret2
  exact ⟨rfl, rfl⟩
theorem rwake_bad (W : World) (M : Nat) (v1 v2 v3 : Value) (xs : List Ac) (id n : Int) (h : Rt W M v1 v2 v3 xs) (hw : Wr xs id n) (hn : n ≠ 0) :
    Calls Try.prog 41 #[.pointer (some ⟨M, 0, none⟩), .int .i64 id] W fun e w' => e = .returned (.tuple #[.bool false, .int .i64 n]) ∧ W = w' := by
  have d : (n == 0) = false := by simp [hn]
  go_enter Try.func41, Try.ntmps41
  go_wp2_with (go_at_call 42; refine (rwrong_bad _ _ _ _ _ _ _ n h hw).mono ?_; rintro e w' ⟨rfl, rfl⟩)
  go_ret2
  exact ⟨rfl, rfl⟩

theorem rpark_ok (W : World) (M : Nat) (v1 v2 v3 : Value) (xs : List Ac) (i : Nat) (a : Ac) (h : Rt W M v1 v2 v3 xs) (hi : xs[i]? = some a) (hs : a.1 ≠ 2) :
    Calls Try.prog 39 #[.pointer (some ⟨M, 0, none⟩), .int .i64 i] W fun e w' => e = .returned (.tuple #[.bool (!a.2.1), .int .i64 0]) ∧ RtSet W w' M v1 v2 v3 (xs.set i (parkS a)) := by
  have HR := Lib.hid (RtSet.refl h)
  have HH := Lib.hid h
  have HI := Lib.hid hi
  have HS := Lib.hid hs
  obtain ⟨m0, m1, m2, e0, e1, e2⟩ := h.c
  obtain ⟨g1, c1, g2, c2, g3, c3, rfl, rfl, rfl, hlt, hm, k1, k2, k3, f1, f2, f3⟩ := h.at hi
  obtain ⟨st, tok, wk⟩ := a
  simp only at k1 k2 k3
  clear h hi hs
  cases tok
  · go_enter Try.func39, Try.ntmps39
    go_wp2_with (go_at_call 42; refine (rwrong_ok _ _ _ _ _ _ _ _ HH.out HI.out HS.out).mono ?_; rintro e w' ⟨rfl, rfl⟩)
    go_ret2
    exact ⟨rfl, HR.out.s0 HI.out 1⟩
  · go_enter Try.func39, Try.ntmps39
    go_wp2_with (go_at_call 42; refine (rwrong_ok _ _ _ _ _ _ _ _ HH.out HI.out HS.out).mono ?_; rintro e w' ⟨rfl, rfl⟩)
    go_ret2
    exact ⟨rfl, HR.out.s1 HI.out false⟩

theorem Rt.ne {W : World} {M : Nat} {g1 n1 c1 g2 n2 c2 g3 n3 c3 : Nat} {xs : List Ac} (h : Rt W M (.slice (some ⟨g1, 0, none⟩) n1 c1) (.slice (some ⟨g2, 0, none⟩) n2 c2) (.slice (some ⟨g3, 0, none⟩) n3 c3) xs) :
    g1 ≠ g2 ∧ g1 ≠ g3 ∧ g2 ≠ g3 ∧ g1 ≠ M ∧ g2 ≠ M ∧ g3 ≠ M :=
  ⟨fun e => rows_neA h.2.1 h.2.2.1 (by decide) (g := g2) rfl (by simp [Value.ownBlock, e]), fun e => h.2.2.2.2 g1 rfl (by simp [Value.ownBlock, e]), fun e => rows_neA h.2.2.1 h.2.2.2.1 (by decide) (g := g3) rfl (by simp [Value.ownBlock, e]),
    fun e => h.ne1 (by simp [Value.ownBlock, e]), fun e => h.ne2 (by simp [Value.ownBlock, e]), fun e => h.ne3 (by simp [Value.ownBlock, e])⟩

theorem rwake_ok (W : World) (M : Nat) (v1 v2 v3 : Value) (xs : List Ac) (i : Nat) (a : Ac) (h : Rt W M v1 v2 v3 xs) (hi : xs[i]? = some a) (hs : a.1 ≠ 2) (h0 : 0 ≤ a.2.2) (h1 : a.2.2 < 4611686018427387904) :
    Calls Try.prog 41 #[.pointer (some ⟨M, 0, none⟩), .int .i64 i] W fun e w' => e = .returned (.tuple #[.bool (a.1 == 1), .int .i64 0]) ∧ RtSet W w' M v1 v2 v3 (xs.set i (wakeS a)) := by
  have HR := Lib.hid (RtSet.refl h)
  have HH := Lib.hid h
  have HI := Lib.hid hi
  have HS := Lib.hid hs
  obtain ⟨m0, m1, m2, e0, e1, e2⟩ := h.c
  obtain ⟨g1, c1, g2, c2, g3, c3, rfl, rfl, rfl, hlt, hm, k1, k2, k3, f1, f2, f3⟩ := h.at hi
  obtain ⟨n12, n13, n23, nM1, nM2, nM3⟩ := Rt.ne h
  obtain ⟨st, tok, wk⟩ := a
  simp only at k1 k2 k3 h0 h1
  clear h hi hs
  by_cases h2 : st = 1
  · subst h2
    go_enter Try.func41, Try.ntmps41
    go_wp2_with (go_at_call 42; refine (rwrong_ok _ _ _ _ _ _ _ _ HH.out HI.out HS.out).mono ?_; rintro e w' ⟨rfl, rfl⟩)
    go_ret2
    refine ⟨rfl, ?_⟩
    have := (HR.out.s2 HI.out (wk + 1)).s0 (set_at HI.out) 0
    rw [List.set_set] at this
    exact this
  · have d2 : (st == 1) = false := by simp [h2]
    go_enter Try.func41, Try.ntmps41
    go_wp2_with (go_at_call 42; refine (rwrong_ok _ _ _ _ _ _ _ _ HH.out HI.out HS.out).mono ?_; rintro e w' ⟨rfl, rfl⟩)
    go_ret2
    refine ⟨by simp [d2], ?_⟩
    have := (HR.out.s2 HI.out (wk + 1)).s1 (set_at HI.out) true
    rw [List.set_set] at this
    have e : wakeS (st, tok, wk) = (st, true, wk + 1) := by unfold wakeS; rw [if_neg h2]
    rw [e]
    exact this
end Go.Proofs.Ytpnglcafjofmnaa
