/-
  An arena that a call made itself: each call of package cells keeps it one; the statements' own example of package cells; by contract. Conditions: fewer than 2^62 steps; for Alloc fewer than 2097152 cells.
-/
import Derived.Test.YteinfkcnengmeaaCells5
namespace Go.Proofs.Yteinfkcnengmeaa
open Go.RowKit
/-- An arena that was made since W0: nothing of W0 has turned. -/
def Mine (W0 W : World) (b : Nat) (xs : List Int) (st : Int) : Prop :=
  ∃ v, Ar W b v xs st ∧ Below W0.heap.size W0 W ∧ W0.heap.size ≤ b ∧ ∀ g, v.ownBlock = some g → W0.heap.size ≤ g
theorem Mine.step {W0 W w' : World} {b : Nat} {v : Value} {xs ys : List Int} {st st' : Int} (_ha : Ar W b v xs st) (hb : Below W0.heap.size W0 W) (h1 : W0.heap.size ≤ b) (h2 : ∀ g, v.ownBlock = some g → W0.heap.size ≤ g) (h : ArStep W w' b v ys st') : Mine W0 w' b ys st' := by
  obtain ⟨v', ha', hf, hv⟩ := h
  have h0 : W0.heap.size ≤ W.heap.size := hb.size
  refine ⟨v', ha', hb.trans (hf.below h0 ?_), h1, ?_⟩
  · rintro k (rfl | hk)
    · exact h1
    · exact h2 k hk
  · intro g hg
    rcases hv with hv | hv
    · exact h2 g (hv ▸ hg)
    · exact Nat.le_trans h0 (hv g hg)
theorem Mine.below {W0 W : World} {b : Nat} {xs : List Int} {st : Int} (h : Mine W0 W b xs st) : Below W0.heap.size W0 W := by
  obtain ⟨_, _, hb, _⟩ := h
  exact hb
theorem Mine.keep {W0 W w' : World} {b : Nat} {xs : List Int} {st : Int} (h : Mine W0 W b xs st) (hb : Below W.heap.size W w') : Mine W0 w' b xs st := by
  obtain ⟨v, ha, h0, h1, h2⟩ := h
  exact ⟨v, ha.keepB hb, bthen h0 hb, h1, h2⟩
theorem new_m (W : World) :
    Calls Try.prog 24 #[] W fun e w' => e = .returned (.pointer (some ⟨W.heap.size, 0, none⟩)) ∧ Mine W w' W.heap.size [] 0 :=
  (new_any W).mono fun _ _ ⟨he, ha, hb⟩ => ⟨he, _, ha, hb, Nat.le_refl _, by simp [Value.ownBlock]⟩
theorem alloc_m (x : Int) (W0 W : World) (b : Nat) (xs : List Int) (st : Int) (h : Mine W0 W b xs st) (hl : (xs.length : Int) < 2097152) :
    Calls Try.prog 31 #[.pointer (some ⟨b, 0, none⟩), .int .i64 x] W fun e w' => e = .returned (.tuple #[.int .i64 xs.length, .nilIface]) ∧ Mine W0 w' b (xs ++ [x]) st := by
  obtain ⟨v, ha, hb, h1, h2⟩ := h
  exact (alloc_some x W b v xs st ha hl).mono fun _ _ ⟨he, hs⟩ => ⟨he, Mine.step ha hb h1 h2 hs⟩
theorem load_m (i : Nat) (W0 W : World) (b : Nat) (xs : List Int) (st x : Int) (h : Mine W0 W b xs st) (hx : xs[i]? = some x) (h0 : 0 ≤ st) (h1 : st < 4611686018427387904) :
    Calls Try.prog 29 #[.pointer (some ⟨b, 0, none⟩), .int .i64 i] W fun e w' => e = .returned (.tuple #[.int .i64 x, .nilIface]) ∧ Mine W0 w' b xs (st + 1) := by
  obtain ⟨v, ha, hb, k1, k2⟩ := h
  exact (load_some i W b v xs st x ha hx h0 h1).mono fun _ _ ⟨he, hs⟩ => ⟨he, Mine.step ha hb k1 k2 hs⟩
theorem store_m (i : Nat) (y : Int) (W0 W : World) (b : Nat) (xs : List Int) (st x : Int) (h : Mine W0 W b xs st) (hx : xs[i]? = some x) (h0 : 0 ≤ st) (h1 : st < 4611686018427387904) :
    Calls Try.prog 30 #[.pointer (some ⟨b, 0, none⟩), .int .i64 i, .int .i64 y] W fun e w' => e = .returned .nilIface ∧ Mine W0 w' b (xs.set i y) (st + 1) := by
  obtain ⟨v, ha, hb, k1, k2⟩ := h
  exact (store_some i y W b v xs st x ha hx h0 h1).mono fun _ _ ⟨he, hs⟩ => ⟨he, Mine.step ha hb k1 k2 hs⟩
theorem swapy_m (i : Nat) (y : Int) (W0 W : World) (b : Nat) (xs : List Int) (st x : Int) (h : Mine W0 W b xs st) (hx : xs[i]? = some x) (h0 : 0 ≤ st) (h1 : st < 4611686018427387904) :
    Calls Try.prog 32 #[.pointer (some ⟨b, 0, none⟩), .int .i64 i, .int .i64 x, .int .i64 y] W fun e w' => e = .returned (.tuple #[.bool true, .nilIface]) ∧ Mine W0 w' b (xs.set i y) (st + 1) := by
  obtain ⟨v, ha, hb, k1, k2⟩ := h
  exact (swap_yes i y W b v xs st x ha hx h0 h1).mono fun _ _ ⟨he, hs⟩ => ⟨he, Mine.step ha hb k1 k2 hs⟩
theorem swapn_m (i : Nat) (o y : Int) (W0 W : World) (b : Nat) (xs : List Int) (st x : Int) (h : Mine W0 W b xs st) (hx : xs[i]? = some x) (ho : (x == o) = false) (h0 : 0 ≤ st) (h1 : st < 4611686018427387904) :
    Calls Try.prog 32 #[.pointer (some ⟨b, 0, none⟩), .int .i64 i, .int .i64 o, .int .i64 y] W fun e w' => e = .returned (.tuple #[.bool false, .nilIface]) ∧ Mine W0 w' b xs (st + 1) := by
  obtain ⟨v, ha, hb, k1, k2⟩ := h
  exact (swap_no i o y W b v xs st x ha hx ho h0 h1).mono fun _ _ ⟨he, hs⟩ => ⟨he, Mine.step ha hb k1 k2 hs⟩
/-- The statements' own example. -/
theorem awake3 (W : World) : Calls Try.prog 23 #[] W fun e w' => e = .returned (.bool true) ∧ Below W.heap.size W w' := by
  go_enter Try.func23, Try.ntmps23
  go_wp2_with (first
    | (go_at_call 24; refine (new_m _).mono ?_; rintro e w1 ⟨rfl, hm1⟩)
    | (go_at_call 31; refine (alloc_m 3 _ _ _ [] 0 hm1 (by decide)).mono ?_; rintro e w2 ⟨rfl, hm2⟩)
    | (go_at_call 32; refine (swapy_m 0 5 _ _ _ [3] 0 3 hm2 rfl (by decide) (by decide)).mono ?_; rintro e w3 ⟨rfl, hm3⟩)
    | (go_at_call 29; refine (load_m 0 _ _ _ [5] 1 5 hm3 rfl (by decide) (by decide)).mono ?_; rintro e w4 ⟨rfl, hm4⟩))
  go_ret
  exact ⟨rfl, hm4.below⟩
end Go.Proofs.Yteinfkcnengmeaa
