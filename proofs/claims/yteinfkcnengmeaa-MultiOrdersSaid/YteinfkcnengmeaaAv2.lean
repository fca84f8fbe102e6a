/-
  A buffer and an arena that a call made itself, and whatever else is known of blocks that are neither's: whether an index is shown, up to which all are, by contract. Conditions: the arena has all of the buffer's cells; fewer than 2^61 steps.
-/
import Derived.Test.YteinfkcnengmeaaAvail
namespace Go.Proofs.Yteinfkcnengmeaa
open Go.RowKit

/-- What stands beside an arena: some blocks, and what is known as long as they don't turn. -/
structure Rest where
  prot : Nat → Prop
  inv : World → Prop
  ok : ∀ w w', inv w → (∀ k, prot k → w'.heap[k]? = w.heap[k]?) → inv w'
/-- These blocks are there, and aren't the arena's. -/
def Apart (R : Rest) (W : World) (b : Nat) (v : Value) : Prop := (∀ k, R.prot k → k < W.heap.size ∧ k ≠ b ∧ v.ownBlock ≠ some k) ∧ R.inv W
/-- Nothing else. -/
def R0 : Rest := ⟨fun _ => False, fun _ => True, fun _ _ _ _ => trivial⟩
theorem Apart.none (W : World) (b : Nat) (v : Value) : Apart R0 W b v := ⟨fun _ h => h.elim, trivial⟩
theorem Apart.keep {R : Rest} {S : Nat → Prop} {W w : World} {b : Nat} {v : Value} (h : Apart R W b v) (hf : Frm S W w) (hs : ∀ k, R.prot k → ¬ S k) : Apart R w b v :=
  ⟨fun k hk => ⟨Nat.lt_of_lt_of_le (h.1 k hk).1 hf.size, (h.1 k hk).2⟩, R.ok _ _ h.2 fun k hk => hf.block k (h.1 k hk).1 (hs k hk)⟩
/-- One block more that is known whole. -/
def Rest.and (R : Rest) (p : Nat) (cs : Array Value) (T : TypeId) : Rest := ⟨fun k => R.prot k ∨ k = p, fun w => R.inv w ∧ w.heap[p]? = some (.cells cs T (0, 0)), fun w w' h hk => ⟨R.ok _ _ h.1 fun k h => hk k (.inl h), (hk p (.inr rfl)).trans h.2⟩⟩

/-- The arena was made since W0, and the rest. -/
def Mv (R : Rest) (W0 W : World) (b : Nat) (xs : List Int) (st : Int) : Prop :=
  ∃ v, Ar W b v xs st ∧ Below W0.heap.size W0 W ∧ W0.heap.size ≤ b ∧ (∀ g, v.ownBlock = some g → W0.heap.size ≤ g) ∧ Apart R W b v
theorem Mv.of_mine {W0 W : World} {b : Nat} {xs : List Int} {st : Int} (h : Mine W0 W b xs st) : Mv R0 W0 W b xs st := by
  obtain ⟨v, h1, h2, h3, h4⟩ := h
  exact ⟨v, h1, h2, h3, h4, Apart.none _ _ _⟩
theorem Mv.below {R : Rest} {W0 W : World} {b : Nat} {xs : List Int} {st : Int} (h : Mv R W0 W b xs st) : Below W0.heap.size W0 W := by
  obtain ⟨v, h1, h2, _⟩ := h
  exact h2
theorem Mv.inv {R : Rest} {W0 W : World} {b : Nat} {xs : List Int} {st : Int} (h : Mv R W0 W b xs st) : R.inv W := by
  obtain ⟨v, h1, h2, h3, h4, h5⟩ := h
  exact h5.2
theorem Mv.keep {R : Rest} {W0 W w : World} {b : Nat} {xs : List Int} {st : Int} (h : Mv R W0 W b xs st) (hb : Below W.heap.size W w) : Mv R W0 w b xs st := by
  obtain ⟨v, h1, h2, h3, h4, h5⟩ := h
  exact ⟨v, h1.keepB hb, bthen h2 hb, h3, h4, h5.keep (Frm.of_below hb fun _ => False) fun _ _ => id⟩
/-- Blocks that aren't the arena's turn: what is known then. -/
theorem Mv.turn {R R' : Rest} {S : Nat → Prop} {W0 W w : World} {b : Nat} {xs : List Int} {st : Int} (h : Mv R W0 W b xs st) (hf : Frm S W w) (hS : ∀ g cs, W.heap[g]? = some cs → S g → W0.heap.size ≤ g ∧ g ≠ b ∧ ∀ c, cs ≠ .cells c 2 (0, 0)) (hR : ∀ g, R'.prot g → R.prot g ∨ ∃ c T m, w.heap[g]? = some (.cells c T m) ∧ T ≠ 135 ∧ 2 ≠ T) (hI : R'.inv w) : Mv R' W0 w b xs st := by
  obtain ⟨v, h1, h3, h4, h5, h6⟩ := h
  have n1 : ¬ S b := fun e => (hS b _ h1.1 e).2.1 rfl
  have n3 : ∀ g, v.ownBlock = some g → ¬ S g := fun g hg e => by
    obtain ⟨cur, hc⟩ := ownsRow_obj h1.2 hg
    exact (hS g _ hc e).2.2 cur rfl
  have ha' := h1.keep hf n1 n3
  refine ⟨v, ha', h3.trans ⟨hf.os, hf.tape, hf.output, hf.size, fun k hk => ?_⟩, h4, h5, fun g hg => ?_, hI⟩
  · by_cases hs : S k
    · have := h3.size
      obtain ⟨o, ho⟩ : ∃ o, W.heap[k]? = some o := ⟨_, Array.getElem?_eq_getElem (by omega)⟩
      have := (hS k _ ho hs).1
      omega
    · exact hf.block k (Nat.lt_of_lt_of_le hk h3.size) hs
  · rcases hR g hg with hg | ⟨c, T, m, hc, t1, t2⟩
    · exact ⟨Nat.lt_of_lt_of_le (h6.1 g hg).1 hf.size, (h6.1 g hg).2⟩
    · exact ⟨lt_of_block hc, obj_ne hc ha'.1 t1, row_ne ha'.2 hc t2⟩
theorem Mv.step {R : Rest} {W0 W w : World} {b : Nat} {v : Value} {xs ys : List Int} {st st' : Int} (ha : Ar W b v xs st) (h3 : Below W0.heap.size W0 W) (h4 : W0.heap.size ≤ b) (h5 : ∀ g, v.ownBlock = some g → W0.heap.size ≤ g) (h6 : Apart R W b v) (h : ArStep W w b v ys st') : Mv R W0 w b ys st' := by
  obtain ⟨v', ha', hf, hv⟩ := h
  have h0 : W0.heap.size ≤ W.heap.size := h3.size
  refine ⟨v', ha', h3.trans (hf.below h0 ?_), h4, ?_, ?_, ?_⟩
  · rintro i (rfl | hk)
    · exact h4
    · exact h5 i hk
  · intro g hg
    rcases hv with hv | hv
    · exact h5 g (hv ▸ hg)
    · exact Nat.le_trans h0 (hv g hg)
  · intro k hk
    obtain ⟨a1, a2, a3⟩ := h6.1 k hk
    refine ⟨Nat.lt_of_lt_of_le a1 hf.size, a2, fun e => ?_⟩
    rcases hv with hv | hv
    · exact a3 (hv ▸ e)
    · have := hv k e
      omega
  · refine R.ok _ _ h6.2 fun k hk => hf.block k (h6.1 k hk).1 ?_
    rintro (e | e)
    · exact (h6.1 k hk).2.1 e
    · exact (h6.1 k hk).2.2 e
theorem alloc_mv {R : Rest} {W0 W : World} {b : Nat} {xs : List Int} {st : Int} (x : Int) (h : Mv R W0 W b xs st) (hl : (xs.length : Int) < 2097152) :
    Calls Try.prog 31 #[.pointer (some ⟨b, 0, none⟩), .int .i64 x] W fun e w' => e = .returned (.tuple #[.int .i64 xs.length, .nilIface]) ∧ Mv R W0 w' b (xs ++ [x]) st := by
  obtain ⟨v, ha, hb, h1, h2, h3⟩ := h
  exact (alloc_some x W b v xs st ha hl).mono fun _ _ ⟨he, hs⟩ => ⟨he, Mv.step ha hb h1 h2 h3 hs⟩
theorem len_mv {R : Rest} {W0 W : World} {b : Nat} {xs : List Int} {st : Int} (h : Mv R W0 W b xs st) :
    Calls Try.prog 26 #[.pointer (some ⟨b, 0, none⟩)] W fun e w' => e = .returned (.int .i64 xs.length) ∧ W = w' := by
  obtain ⟨v, ha, _⟩ := h
  exact len_some W b v xs st ha

section
variable {R : Rest}
/-- The arena was made since W0, the buffer stands beside it, and the rest. -/
def Av (R : Rest) (W0 W : World) (b q f k : Nat) (xs : List Int) (st : Int) : Prop :=
  ∃ v, Ar W b v xs st ∧ Bf W q f k ∧ Below W0.heap.size W0 W ∧ W0.heap.size ≤ b ∧ (∀ g, v.ownBlock = some g → W0.heap.size ≤ g) ∧ Apart R W b v
theorem Av.below {W0 W : World} {b q f k : Nat} {xs : List Int} {st : Int} (h : Av R W0 W b q f k xs st) : Below W0.heap.size W0 W := by
  obtain ⟨_, _, _, hb, _⟩ := h
  exact hb
theorem Av.bf {W0 W : World} {b q f k : Nat} {xs : List Int} {st : Int} (h : Av R W0 W b q f k xs st) : Bf W q f k := by
  obtain ⟨_, _, hb, _⟩ := h
  exact hb
theorem Av.inv {W0 W : World} {b q f k : Nat} {xs : List Int} {st : Int} (h : Av R W0 W b q f k xs st) : R.inv W := by
  obtain ⟨v, h1, h2, h3, h4, h5, h6⟩ := h
  exact h6.2
theorem Av.keep {W0 W w : World} {b q f k : Nat} {xs : List Int} {st : Int} (h : Av R W0 W b q f k xs st) (hb : Below W.heap.size W w) : Av R W0 w b q f k xs st := by
  obtain ⟨v, h1, h2, h3, h4, h5, h6⟩ := h
  exact ⟨v, h1.keepB hb, h2.keepB hb, bthen h3 hb, h4, h5, h6.keep (Frm.of_below hb fun _ => False) fun _ _ => id⟩
theorem Av.step {W0 W w : World} {b q f k : Nat} {v : Value} {xs ys : List Int} {st st' : Int} (ha : Ar W b v xs st) (hq : Bf W q f k) (h3 : Below W0.heap.size W0 W) (h4 : W0.heap.size ≤ b) (h5 : ∀ g, v.ownBlock = some g → W0.heap.size ≤ g) (h6 : Apart R W b v) (h : ArStep W w b v ys st') : Av R W0 w b q f k ys st' := by
  obtain ⟨v', ha', hf, hv⟩ := h
  have h0 : W0.heap.size ≤ W.heap.size := h3.size
  refine ⟨v', ha', hq.keep hf ?_, h3.trans (hf.below h0 ?_), h4, ?_, ?_, ?_⟩
  · rintro (e | e)
    · exact obj_ne hq.1 ha.1 (by decide) e
    · exact row_ne ha.2 hq.1 (by decide) e
  · rintro i (rfl | hk)
    · exact h4
    · exact h5 i hk
  · intro g hg
    rcases hv with hv | hv
    · exact h5 g (hv ▸ hg)
    · exact Nat.le_trans h0 (hv g hg)
  · intro k hk
    obtain ⟨a1, a2, a3⟩ := h6.1 k hk
    refine ⟨Nat.lt_of_lt_of_le a1 hf.size, a2, fun e => ?_⟩
    rcases hv with hv | hv
    · exact a3 (hv ▸ e)
    · have := hv k e
      omega
  · refine R.ok _ _ h6.2 fun k hk => hf.block k (h6.1 k hk).1 ?_
    rintro (e | e)
    · exact (h6.1 k hk).2.1 e
    · exact (h6.1 k hk).2.2 e
/-- Blocks that are neither's turn: what is known then. -/
theorem Av.turn {R' : Rest} {S : Nat → Prop} {W0 W w : World} {b q f k : Nat} {xs : List Int} {st : Int} (h : Av R W0 W b q f k xs st) (hf : Frm S W w) (hS : ∀ g cs, W.heap[g]? = some cs → S g → W0.heap.size ≤ g ∧ g ≠ b ∧ g ≠ q ∧ ∀ c, cs ≠ .cells c 2 (0, 0)) (hR : ∀ g, R'.prot g → R.prot g ∨ ∃ c T m, w.heap[g]? = some (.cells c T m) ∧ T ≠ 135 ∧ 2 ≠ T) (hI : R'.inv w) : Av R' W0 w b q f k xs st := by
  obtain ⟨v, h1, h2, h3, h4, h5, h6⟩ := h
  have n1 : ¬ S b := fun e => (hS b _ h1.1 e).2.1 rfl
  have n2 : ¬ S q := fun e => (hS q _ h2.1 e).2.2.1 rfl
  have n3 : ∀ g, v.ownBlock = some g → ¬ S g := fun g hg e => by
    obtain ⟨cur, hc⟩ := ownsRow_obj h1.2 hg
    exact (hS g _ hc e).2.2.2 cur rfl
  have ha' := h1.keep hf n1 n3
  refine ⟨v, ha', h2.keep hf n2, h3.trans ⟨hf.os, hf.tape, hf.output, hf.size, fun k hk => ?_⟩, h4, h5, fun g hg => ?_, hI⟩
  · by_cases hs : S k
    · have := h3.size
      obtain ⟨o, ho⟩ : ∃ o, W.heap[k]? = some o := ⟨_, Array.getElem?_eq_getElem (by omega)⟩
      have := (hS k _ ho hs).1
      omega
    · exact hf.block k (Nat.lt_of_lt_of_le hk h3.size) hs
  · rcases hR g hg with hg | ⟨c, T, m, hc, t1, t2⟩
    · exact ⟨Nat.lt_of_lt_of_le (h6.1 g hg).1 hf.size, (h6.1 g hg).2⟩
    · exact ⟨lt_of_block hc, obj_ne hc ha'.1 t1, row_ne ha'.2 hc t2⟩

theorem Held.of_step {W w : World} {b : Nat} {v : Value} {xs ys : List Int} {st st' : Int} (ha : Ar W b v xs st) (h : ArStep W w b v ys st') : Held W w := by
  obtain ⟨v', _, hf, _⟩ := h
  intro E d n hc
  induction hc with
  | num n => exact .num n
  | fault q op seq E d n h0 h ih =>
    refine .fault q op seq E d n (hf.obj h0 ?_) ih
    rintro (e | e)
    · exact obj_ne h0 ha.1 (by decide) e
    · exact row_ne ha.2 h0 (by decide) e

theorem Av.mv {W0 W : World} {b q f k : Nat} {xs : List Int} {st : Int} (h : Av R W0 W b q f k xs st) : Mv R W0 W b xs st := by
  obtain ⟨v, ha, hq, h3, h4, h5, h6⟩ := h
  exact ⟨v, ha, h3, h4, h5, h6⟩
theorem swapy_v {W0 W : World} {b q f k : Nat} {xs : List Int} {st : Int} (h : Av R W0 W b q f k xs st) (i : Nat) (x y : Int) (hx : xs[i]? = some x) (h0 : 0 ≤ st) (h1 : st < 4611686018427387904) :
    Calls Try.prog 32 #[.pointer (some ⟨b, 0, none⟩), .int .i64 i, .int .i64 x, .int .i64 y] W fun e w' => e = .returned (.tuple #[.bool true, .nilIface]) ∧ Av R W0 w' b q f k (xs.set i y) (st + 1) := by
  obtain ⟨v, ha, hq, h3, h4, h5, h6⟩ := h
  exact (swap_yes i y W b v xs st x ha hx h0 h1).mono fun _ _ ⟨he, hs⟩ => ⟨he, Av.step ha hq h3 h4 h5 h6 hs⟩
theorem swapn_v {W0 W : World} {b q f k : Nat} {xs : List Int} {st : Int} (h : Av R W0 W b q f k xs st) (i : Nat) (o x y : Int) (hx : xs[i]? = some x) (ho : (x == o) = false) (h0 : 0 ≤ st) (h1 : st < 4611686018427387904) :
    Calls Try.prog 32 #[.pointer (some ⟨b, 0, none⟩), .int .i64 i, .int .i64 o, .int .i64 y] W fun e w' => e = .returned (.tuple #[.bool false, .nilIface]) ∧ Av R W0 w' b q f k xs (st + 1) := by
  obtain ⟨v, ha, hq, h3, h4, h5, h6⟩ := h
  exact (swap_no i o y W b v xs st x ha hx ho h0 h1).mono fun _ _ ⟨he, hs⟩ => ⟨he, Av.step ha hq h3 h4 h5 h6 hs⟩

theorem load_v {W0 W : World} {b q f k : Nat} {xs : List Int} {st : Int} (h : Av R W0 W b q f k xs st) (i : Nat) (x : Int) (hx : xs[i]? = some x) (h0 : 0 ≤ st) (h1 : st < 4611686018427387904) :
    Calls Try.prog 29 #[.pointer (some ⟨b, 0, none⟩), .int .i64 i] W fun e w' => e = .returned (.tuple #[.int .i64 x, .nilIface]) ∧ Av R W0 w' b q f k xs (st + 1) := by
  obtain ⟨v, ha, hq, h3, h4, h5, h6⟩ := h
  exact (load_some i W b v xs st x ha hx h0 h1).mono fun _ _ ⟨he, hs⟩ => ⟨he, Av.step ha hq h3 h4 h5 h6 hs⟩
theorem store_v {W0 W : World} {b q f k : Nat} {xs : List Int} {st : Int} (h : Av R W0 W b q f k xs st) (i : Nat) (y : Int) (hi : i < xs.length) (h0 : 0 ≤ st) (h1 : st < 4611686018427387904) :
    Calls Try.prog 30 #[.pointer (some ⟨b, 0, none⟩), .int .i64 i, .int .i64 y] W fun e w' => e = .returned .nilIface ∧ Av R W0 w' b q f k (xs.set i y) (st + 1) := by
  obtain ⟨v, ha, hq, h3, h4, h5, h6⟩ := h
  exact (store_some i y W b v xs st xs[i] ha (List.getElem?_eq_getElem hi) h0 h1).mono fun _ _ ⟨he, hs⟩ => ⟨he, Av.step ha hq h3 h4 h5 h6 hs⟩
theorem alloc_v {W0 W : World} {b q f k : Nat} {xs : List Int} {st : Int} (h : Av R W0 W b q f k xs st) (x : Int) (hl : (xs.length : Int) < 2097152) :
    Calls Try.prog 31 #[.pointer (some ⟨b, 0, none⟩), .int .i64 x] W fun e w' => e = .returned (.tuple #[.int .i64 xs.length, .nilIface]) ∧ Av R W0 w' b q f k (xs ++ [x]) st ∧ Held W w' := by
  obtain ⟨v, ha, hq, h3, h4, h5, h6⟩ := h
  exact (alloc_some x W b v xs st ha hl).mono fun _ _ ⟨he, hs⟩ => ⟨he, Av.step ha hq h3 h4 h5 h6 hs, Held.of_step ha hs⟩
theorem len_v {W0 W : World} {b q f k : Nat} {xs : List Int} {st : Int} (h : Av R W0 W b q f k xs st) :
    Calls Try.prog 26 #[.pointer (some ⟨b, 0, none⟩)] W fun e w' => e = .returned (.int .i64 xs.length) ∧ W = w' := by
  obtain ⟨v, ha, _⟩ := h
  exact len_some W b v xs st ha

/-- Whether an index's cell has its round. -/
def shownB (xs : List Int) (f k : Nat) (s : Int) : Bool := xs.getD (f + (s % two k).toNat) 0 == s / two k

theorem mod_nat (k : Nat) (s : Int) : ∃ i : Nat, s % two k = i ∧ (i : Int) < two k := by
  have h0 := two_pos k
  have h1 := Int.emod_nonneg s (show two k ≠ 0 by omega)
  have h2 := Int.emod_lt_of_pos s h0
  exact ⟨(s % two k).toNat, by omega, by omega⟩

theorem ashown_some {W0 W : World} {b q f k : Nat} {xs : List Int} {st : Int} (h : Av R W0 W b q f k xs st) (seq : Int) (hl : f + two k ≤ (xs.length : Int)) (h0 : 0 ≤ st) (h1 : st < 4611686018427387904) :
    Calls Try.prog 90 #[.pointer (some ⟨q, 0, none⟩), .pointer (some ⟨b, 0, none⟩), .int .i64 seq] W fun e w' => e = .returned (.tuple #[.bool (shownB xs f k seq), .nilIface]) ∧ Av R W0 w' b q f k xs (st + 1) := by
  obtain ⟨i, hi, hil⟩ := mod_nat k seq
  obtain ⟨x, hx⟩ : ∃ x, xs[f + i]? = some x := ⟨_, List.getElem?_eq_getElem (by omega)⟩
  have hs : shownB xs f k seq = (x == seq / two k) := by
    unfold shownB
    rw [hi]
    simp [List.getD, hx]
  rw [hs]
  have HI := Lib.hid hi
  have HX := Lib.hid hx
  have H := Lib.hid h
  clear hi hil hx hs h hl
  go_enter Try.func90, Try.ntmps90
  go_wp2_with (first
    | (go_at_call 37; refine (cell_some seq _ q f k H.out.bf i HI.out).mono ?_; rintro e w2 ⟨rfl, hb⟩; have H2 := Lib.hid (H.out.keep hb); clear hb)
    | (go_at_call 29; refine (load_v H2.out (f + i) x HX.out h0 h1).mono ?_; rintro e w3 ⟨rfl, hh⟩; have H3 := Lib.hid hh; clear hh)
    | (go_at_call 38; refine (rd_some seq _ q f k H3.out.bf).mono ?_; rintro e w4 ⟨rfl, hb⟩; have H4 := Lib.hid (H3.out.keep hb); clear hb))
  go_ret2
  exact ⟨rfl, H4.out⟩

theorem is_nilA (p : Option Addr) (seq : Int) (W : World) :
    Calls Try.prog 36 #[.pointer p, .pointer none, .int .i64 seq] W fun e w' => ∃ E, e = .returned (.tuple #[.bool false, E]) ∧ Refused W w' E 2 := by
  go_enter Try.func36, Try.ntmps36
  go_wp2_with (go_at_call 88; refine (acheck_nilA _ _ _ _).mono ?_; rintro e w' ⟨E, rfl, q', rfl, hr1, hr2⟩; have HR := Lib.hid (show Refused W w' _ 2 from ⟨q', rfl, hr1, hr2⟩); clear hr1 hr2)
  go_ret2
  exact ⟨_, rfl, HR.out⟩
theorem is_nilB (b : Nat) (seq : Int) (W : World) :
    Calls Try.prog 36 #[.pointer none, .pointer (some ⟨b, 0, none⟩), .int .i64 seq] W fun e w' => ∃ E, e = .returned (.tuple #[.bool false, E]) ∧ Refused W w' E 2 := by
  go_enter Try.func36, Try.ntmps36
  go_wp2_with (go_at_call 88; refine (acheck_nilB _ _ _ _).mono ?_; rintro e w' ⟨E, rfl, q', rfl, hr1, hr2⟩; have HR := Lib.hid (show Refused W w' _ 2 from ⟨q', rfl, hr1, hr2⟩); clear hr1 hr2)
  go_ret2
  exact ⟨_, rfl, HR.out⟩
theorem is_bad (b q : Nat) (seq : Int) (W : World) (hs : seq < 0 ∨ 4611686018427387904 < seq) :
    Calls Try.prog 36 #[.pointer (some ⟨q, 0, none⟩), .pointer (some ⟨b, 0, none⟩), .int .i64 seq] W fun e w' => ∃ E, e = .returned (.tuple #[.bool false, E]) ∧ Refused W w' E 5 := by
  have HS := Lib.hid hs
  clear hs
  go_enter Try.func36, Try.ntmps36
  go_wp2_with (go_at_call 88; refine (acheck_bad _ _ _ _ _ HS.out).mono ?_; rintro e w' ⟨E, rfl, q', rfl, hr1, hr2⟩; have HR := Lib.hid (show Refused W w' _ 5 from ⟨q', rfl, hr1, hr2⟩); clear hr1 hr2)
  go_ret2
  exact ⟨_, rfl, HR.out⟩
theorem is_ok {W0 W : World} {b q f k : Nat} {xs : List Int} {st : Int} (h : Av R W0 W b q f k xs st) (seq : Int) (hs0 : 0 ≤ seq) (hs1 : seq ≤ 4611686018427387904) (hl : f + two k ≤ (xs.length : Int)) (h0 : 0 ≤ st) (h1 : st < 4611686018427387904) :
    Calls Try.prog 36 #[.pointer (some ⟨q, 0, none⟩), .pointer (some ⟨b, 0, none⟩), .int .i64 seq] W fun e w' => e = .returned (.tuple #[.bool (shownB xs f k seq), .nilIface]) ∧ Av R W0 w' b q f k xs (st + 1) := by
  have H := Lib.hid h
  have HL := Lib.hid hl
  clear h hl
  go_enter Try.func36, Try.ntmps36
  go_wp2_with (first
    | (go_at_call 88; refine (acheck_ok _ _ _ _ _ hs0 hs1).mono ?_; rintro e w' ⟨rfl, rfl⟩)
    | (go_at_call 90; refine (ashown_some H.out seq HL.out h0 h1).mono ?_; rintro e w2 ⟨rfl, hh⟩; have H2 := Lib.hid hh; clear hh))
  go_ret2
  exact ⟨rfl, H2.out⟩

/-- So many from an index on hold, and the next one doesn't, or is behind the last. -/
def RunTo (P : Int → Bool) (lo hi : Int) (j : Nat) : Prop := (∀ i : Nat, i < j → P (lo + i) = true) ∧ (lo + j ≤ hi → P (lo + j) = false) ∧ (j = 0 ∨ lo + j - 1 ≤ hi)
theorem RunTo.unique {P Q : Int → Bool} {lo hi : Int} {i j : Nat} (h : RunTo P lo hi i) (g : RunTo Q lo hi j) (hPQ : ∀ s, lo ≤ s → s ≤ hi → P s = Q s) : i = j := by
  obtain ⟨h1, h2, h3⟩ := h
  obtain ⟨g1, g2, g3⟩ := g
  rcases Nat.lt_trichotomy i j with e | e | e
  · exfalso
    have a := g1 i e
    have b : lo + i ≤ hi := by omega
    have c := h2 b
    rw [hPQ _ (by omega) b, a] at c
    cases c
  · exact e
  · exfalso
    have a := h1 j e
    have b : lo + j ≤ hi := by omega
    have c := g2 b
    rw [hPQ _ (by omega) b] at a
    rw [a] at c
    cases c
/-- No slot has two indexes shown. -/
theorem run_le {xs : List Int} {f k : Nat} {lo : Int} {j : Nat} (h : ∀ i : Nat, i < j → shownB xs f k (lo + i) = true) : (j : Int) ≤ two k := by
  by_cases hj : two k < (j : Int)
  · exfalso
    have h0 := two_pos k
    have a := h 0 (by omega)
    have b := h (two k).toNat (by omega)
    unfold shownB at a b
    simp only [beq_iff_eq] at a b
    have e : lo + ((two k).toNat : Int) = (lo + (0 : Nat)) + two k := by omega
    rw [e, Int.add_emod_right, a, Int.add_ediv_of_dvd_right (Int.dvd_refl _), Int.ediv_self (by omega)] at b
    omega
  · omega
end
end Go.Proofs.Yteinfkcnengmeaa
