/-
  A buffer and an arena that a call made itself, and whatever else is known of blocks that are neither's: whether an index is shown, up to which all are, by contract. Conditions: the arena has all of the buffer's cells; fewer than 2^61 steps.
  walk, Highest, Show, New of package avail, by contract. Conditions: the arena has all of the buffer's cells; fewer than 2^61 steps.
  Highest and Show of package avail, by contract. Conditions: the arena has all of the buffer's cells; fewer than 2^61 steps.
-/
import Derived.Test.YtdfcfdcekdmcmaaGreatPk04
import Derived.LoopTactic
set_option linter.unusedVariables false
set_option linter.unusedSimpArgs false
namespace Go.Proofs.YtdfcfdcekdmcmaaGreat
open Go.RowKit
structure Rest where
  prot : Nat → Prop
  inv : World → Prop
  ok : ∀ w w', inv w → (∀ k, prot k → w'.heap[k]? = w.heap[k]?) → inv w'
def Apart (R : Rest) (W : World) (b : Nat) (v : Value) : Prop := (∀ k, R.prot k → k < W.heap.size ∧ k ≠ b ∧ v.ownBlock ≠ some k) ∧ R.inv W
def R0 : Rest := ⟨fun _ => False, fun _ => True, fun _ _ _ _ => trivial⟩
theorem Apart.keep {R : Rest} {S : Nat → Prop} {W w : World} {b : Nat} {v : Value} (h : Apart R W b v) (hf : Frm S W w) (hs : ∀ k, R.prot k → ¬ S k) : Apart R w b v :=
  ⟨fun k hk => ⟨Nat.lt_of_lt_of_le (h.1 k hk).1 hf.size, (h.1 k hk).2⟩, R.ok _ _ h.2 fun k hk => hf.block k (h.1 k hk).1 (hs k hk)⟩
def Rest.and (R : Rest) (p : Nat) (cs : Array Value) (T : TypeId) : Rest := ⟨fun k => R.prot k ∨ k = p, fun w => R.inv w ∧ w.heap[p]? = some (.cells cs T (0, 0)), fun w w' h hk => ⟨R.ok _ _ h.1 fun k h => hk k (.inl h), (hk p (.inr rfl)).trans h.2⟩⟩
def Mv (R : Rest) (W0 W : World) (b : Nat) (xs : List Int) (st : Int) : Prop :=
  ∃ v, Ar W b v xs st ∧ Below W0.heap.size W0 W ∧ W0.heap.size ≤ b ∧ (∀ g, v.ownBlock = some g → W0.heap.size ≤ g) ∧ Apart R W b v
theorem Mv.below {R : Rest} {W0 W : World} {b : Nat} {xs : List Int} {st : Int} (h : Mv R W0 W b xs st) : Below W0.heap.size W0 W := by
  obtain ⟨v, h1, h2, _⟩ := h
  exact h2
theorem Mv.inv {R : Rest} {W0 W : World} {b : Nat} {xs : List Int} {st : Int} (h : Mv R W0 W b xs st) : R.inv W := by
  obtain ⟨v, h1, h2, h3, h4, h5⟩ := h
  exact h5.2
theorem Mv.keep {R : Rest} {W0 W w : World} {b : Nat} {xs : List Int} {st : Int} (h : Mv R W0 W b xs st) (hb : Below W.heap.size W w) : Mv R W0 w b xs st := by
  obtain ⟨v, h1, h2, h3, h4, h5⟩ := h
  exact ⟨v, h1.keepB hb, bthen h2 hb, h3, h4, h5.keep (Frm.of_below hb fun _ => False) fun _ _ => id⟩
theorem Mv.turn {R R' : Rest} {S : Nat → Prop} {W0 W w : World} {b : Nat} {xs : List Int} {st : Int} (h : Mv R W0 W b xs st) (hf : Frm S W w) (hS : ∀ g cs, W.heap[g]? = some cs → S g → W0.heap.size ≤ g ∧ g ≠ b ∧ ∀ c, cs ≠ .cells c 2 (0, 0)) (hR : ∀ g, R'.prot g → R.prot g ∨ ∃ c T m, w.heap[g]? = some (.cells c T m) ∧ T ≠ 171 ∧ 2 ≠ T) (hI : R'.inv w) : Mv R' W0 w b xs st := by
  obtain ⟨v, h1, h3, h4, h5, h6⟩ := h
  have n1 : ¬ S b := fun e => (hS b _ h1.1 e).2.1 rfl
  have n3 : ∀ g, v.ownBlock = some g → ¬ S g := fun g hg e => by
    obtain ⟨cur, hc⟩ := ownsRow_obj h1.2 hg
    exact (hS g _ hc e).2.2 cur rfl
  have ha' := h1.keep hf n1 n3
  refine ⟨v, ha', h3.trans ⟨hf.os, hf.tape, hf.output, hf.size, fun k hk => ?_⟩, h4, h5, fun g hg => ?_, hI⟩
  · by_cases hs : S k
    · have := h3.size
      obtain ⟨o, ho⟩ : ∃ o, W.heap[k]? = some o := ⟨_, Array.getElem?_eq_getElem (by omega)⟩
      have := (hS k _ ho hs).1
      omega
    · exact hf.block k (Nat.lt_of_lt_of_le hk h3.size) hs
  · rcases hR g hg with hg | ⟨c, T, m, hc, t1, t2⟩
    · exact ⟨Nat.lt_of_lt_of_le (h6.1 g hg).1 hf.size, (h6.1 g hg).2⟩
    · exact ⟨lt_of_block hc, obj_ne hc ha'.1 t1, row_ne ha'.2 hc t2⟩
theorem Mv.step {R : Rest} {W0 W w : World} {b : Nat} {v : Value} {xs ys : List Int} {st st' : Int} (ha : Ar W b v xs st) (h3 : Below W0.heap.size W0 W) (h4 : W0.heap.size ≤ b) (h5 : ∀ g, v.ownBlock = some g → W0.heap.size ≤ g) (h6 : Apart R W b v) (h : ArStep W w b v ys st') : Mv R W0 w b ys st' := by
  obtain ⟨v', ha', hf, hv⟩ := h
  have h0 : W0.heap.size ≤ W.heap.size := h3.size
  refine ⟨v', ha', h3.trans (hf.below h0 ?_), h4, ?_, ?_, ?_⟩
  · rintro i (rfl | hk)
    · exact h4
    · exact h5 i hk
  · intro g hg
    rcases hv with hv | hv
    · exact h5 g (hv ▸ hg)
    · exact Nat.le_trans h0 (hv g hg)
  · intro k hk
    obtain ⟨a1, a2, a3⟩ := h6.1 k hk
    refine ⟨Nat.lt_of_lt_of_le a1 hf.size, a2, fun e => ?_⟩
    rcases hv with hv | hv
    · exact a3 (hv ▸ e)
    · have := hv k e
      omega
  · refine R.ok _ _ h6.2 fun k hk => hf.block k (h6.1 k hk).1 ?_
    rintro (e | e)
    · exact (h6.1 k hk).2.1 e
    · exact (h6.1 k hk).2.2 e
theorem alloc_mv {R : Rest} {W0 W : World} {b : Nat} {xs : List Int} {st : Int} (x : Int) (h : Mv R W0 W b xs st) (hl : (xs.length : Int) < 2097152) :
    Calls Tryz.prog 34 #[.pointer (some ⟨b, 0, none⟩), .int .i64 x] W fun e w' => e = .returned (.tuple #[.int .i64 xs.length, .nilIface]) ∧ Mv R W0 w' b (xs ++ [x]) st := by
  obtain ⟨v, ha, hb, h1, h2, h3⟩ := h
  exact (alloc_some x W b v xs st ha hl).mono fun _ _ ⟨he, hs⟩ => ⟨he, Mv.step ha hb h1 h2 h3 hs⟩
theorem len_mv {R : Rest} {W0 W : World} {b : Nat} {xs : List Int} {st : Int} (h : Mv R W0 W b xs st) :
    Calls Tryz.prog 46 #[.pointer (some ⟨b, 0, none⟩)] W fun e w' => e = .returned (.int .i64 xs.length) ∧ W = w' := by
  obtain ⟨v, ha, _⟩ := h
  exact len_some W b v xs st ha
section
variable {R : Rest}
def Av (R : Rest) (W0 W : World) (b q f k : Nat) (xs : List Int) (st : Int) : Prop :=
  ∃ v, Ar W b v xs st ∧ Bf W q f k ∧ Below W0.heap.size W0 W ∧ W0.heap.size ≤ b ∧ (∀ g, v.ownBlock = some g → W0.heap.size ≤ g) ∧ Apart R W b v
theorem Av.below {W0 W : World} {b q f k : Nat} {xs : List Int} {st : Int} (h : Av R W0 W b q f k xs st) : Below W0.heap.size W0 W := by
  obtain ⟨_, _, _, hb, _⟩ := h
  exact hb
theorem Av.bf {W0 W : World} {b q f k : Nat} {xs : List Int} {st : Int} (h : Av R W0 W b q f k xs st) : Bf W q f k := by
  obtain ⟨_, _, hb, _⟩ := h
  exact hb
theorem Av.inv {W0 W : World} {b q f k : Nat} {xs : List Int} {st : Int} (h : Av R W0 W b q f k xs st) : R.inv W := by
  obtain ⟨v, h1, h2, h3, h4, h5, h6⟩ := h
  exact h6.2
theorem Av.keep {W0 W w : World} {b q f k : Nat} {xs : List Int} {st : Int} (h : Av R W0 W b q f k xs st) (hb : Below W.heap.size W w) : Av R W0 w b q f k xs st := by
  obtain ⟨v, h1, h2, h3, h4, h5, h6⟩ := h
  exact ⟨v, h1.keepB hb, h2.keepB hb, bthen h3 hb, h4, h5, h6.keep (Frm.of_below hb fun _ => False) fun _ _ => id⟩
theorem Av.step {W0 W w : World} {b q f k : Nat} {v : Value} {xs ys : List Int} {st st' : Int} (ha : Ar W b v xs st) (hq : Bf W q f k) (h3 : Below W0.heap.size W0 W) (h4 : W0.heap.size ≤ b) (h5 : ∀ g, v.ownBlock = some g → W0.heap.size ≤ g) (h6 : Apart R W b v) (h : ArStep W w b v ys st') : Av R W0 w b q f k ys st' := by
  obtain ⟨v', ha', hf, hv⟩ := h
  have h0 : W0.heap.size ≤ W.heap.size := h3.size
  refine ⟨v', ha', hq.keep hf ?_, h3.trans (hf.below h0 ?_), h4, ?_, ?_, ?_⟩
  · rintro (e | e)
    · exact obj_ne hq.1 ha.1 (by decide) e
    · exact row_ne ha.2 hq.1 (by decide) e
  · rintro i (rfl | hk)
    · exact h4
    · exact h5 i hk
  · intro g hg
    rcases hv with hv | hv
    · exact h5 g (hv ▸ hg)
    · exact Nat.le_trans h0 (hv g hg)
  · intro k hk
    obtain ⟨a1, a2, a3⟩ := h6.1 k hk
    refine ⟨Nat.lt_of_lt_of_le a1 hf.size, a2, fun e => ?_⟩
    rcases hv with hv | hv
    · exact a3 (hv ▸ e)
    · have := hv k e
      omega
  · refine R.ok _ _ h6.2 fun k hk => hf.block k (h6.1 k hk).1 ?_
    rintro (e | e)
    · exact (h6.1 k hk).2.1 e
    · exact (h6.1 k hk).2.2 e
theorem Av.turn {R' : Rest} {S : Nat → Prop} {W0 W w : World} {b q f k : Nat} {xs : List Int} {st : Int} (h : Av R W0 W b q f k xs st) (hf : Frm S W w) (hS : ∀ g cs, W.heap[g]? = some cs → S g → W0.heap.size ≤ g ∧ g ≠ b ∧ g ≠ q ∧ ∀ c, cs ≠ .cells c 2 (0, 0)) (hR : ∀ g, R'.prot g → R.prot g ∨ ∃ c T m, w.heap[g]? = some (.cells c T m) ∧ T ≠ 171 ∧ 2 ≠ T) (hI : R'.inv w) : Av R' W0 w b q f k xs st := by
  obtain ⟨v, h1, h2, h3, h4, h5, h6⟩ := h
  have n1 : ¬ S b := fun e => (hS b _ h1.1 e).2.1 rfl
  have n2 : ¬ S q := fun e => (hS q _ h2.1 e).2.2.1 rfl
  have n3 : ∀ g, v.ownBlock = some g → ¬ S g := fun g hg e => by
    obtain ⟨cur, hc⟩ := ownsRow_obj h1.2 hg
    exact (hS g _ hc e).2.2.2 cur rfl
  have ha' := h1.keep hf n1 n3
  refine ⟨v, ha', h2.keep hf n2, h3.trans ⟨hf.os, hf.tape, hf.output, hf.size, fun k hk => ?_⟩, h4, h5, fun g hg => ?_, hI⟩
  · by_cases hs : S k
    · have := h3.size
      obtain ⟨o, ho⟩ : ∃ o, W.heap[k]? = some o := ⟨_, Array.getElem?_eq_getElem (by omega)⟩
      have := (hS k _ ho hs).1
      omega
    · exact hf.block k (Nat.lt_of_lt_of_le hk h3.size) hs
  · rcases hR g hg with hg | ⟨c, T, m, hc, t1, t2⟩
    · exact ⟨Nat.lt_of_lt_of_le (h6.1 g hg).1 hf.size, (h6.1 g hg).2⟩
    · exact ⟨lt_of_block hc, obj_ne hc ha'.1 t1, row_ne ha'.2 hc t2⟩
theorem Held.of_step {W w : World} {b : Nat} {v : Value} {xs ys : List Int} {st st' : Int} (ha : Ar W b v xs st) (h : ArStep W w b v ys st') : Held W w := by
  obtain ⟨v', _, hf, _⟩ := h
  intro E d n hc
  induction hc with
  | num n => exact .num n
  | fault q op seq E d n h0 h ih =>
    refine .fault q op seq E d n (hf.obj h0 ?_) ih
    rintro (e | e)
    · exact obj_ne h0 ha.1 (by decide) e
    · exact row_ne ha.2 h0 (by decide) e
theorem Av.mv {W0 W : World} {b q f k : Nat} {xs : List Int} {st : Int} (h : Av R W0 W b q f k xs st) : Mv R W0 W b xs st := by
  obtain ⟨v, ha, hq, h3, h4, h5, h6⟩ := h
  exact ⟨v, ha, h3, h4, h5, h6⟩
theorem swapy_v {W0 W : World} {b q f k : Nat} {xs : List Int} {st : Int} (h : Av R W0 W b q f k xs st) (i : Nat) (x y : Int) (hx : xs[i]? = some x) (h0 : 0 ≤ st) (h1 : st < 4611686018427387904) :
    Calls Tryz.prog 168 #[.pointer (some ⟨b, 0, none⟩), .int .i64 i, .int .i64 x, .int .i64 y] W fun e w' => e = .returned (.tuple #[.bool true, .nilIface]) ∧ Av R W0 w' b q f k (xs.set i y) (st + 1) := by
  obtain ⟨v, ha, hq, h3, h4, h5, h6⟩ := h
  exact (swap_yes i y W b v xs st x ha hx h0 h1).mono fun _ _ ⟨he, hs⟩ => ⟨he, Av.step ha hq h3 h4 h5 h6 hs⟩
theorem swapn_v {W0 W : World} {b q f k : Nat} {xs : List Int} {st : Int} (h : Av R W0 W b q f k xs st) (i : Nat) (o x y : Int) (hx : xs[i]? = some x) (ho : (x == o) = false) (h0 : 0 ≤ st) (h1 : st < 4611686018427387904) :
    Calls Tryz.prog 168 #[.pointer (some ⟨b, 0, none⟩), .int .i64 i, .int .i64 o, .int .i64 y] W fun e w' => e = .returned (.tuple #[.bool false, .nilIface]) ∧ Av R W0 w' b q f k xs (st + 1) := by
  obtain ⟨v, ha, hq, h3, h4, h5, h6⟩ := h
  exact (swap_no i o y W b v xs st x ha hx ho h0 h1).mono fun _ _ ⟨he, hs⟩ => ⟨he, Av.step ha hq h3 h4 h5 h6 hs⟩
theorem load_v {W0 W : World} {b q f k : Nat} {xs : List Int} {st : Int} (h : Av R W0 W b q f k xs st) (i : Nat) (x : Int) (hx : xs[i]? = some x) (h0 : 0 ≤ st) (h1 : st < 4611686018427387904) :
    Calls Tryz.prog 35 #[.pointer (some ⟨b, 0, none⟩), .int .i64 i] W fun e w' => e = .returned (.tuple #[.int .i64 x, .nilIface]) ∧ Av R W0 w' b q f k xs (st + 1) := by
  obtain ⟨v, ha, hq, h3, h4, h5, h6⟩ := h
  exact (load_some i W b v xs st x ha hx h0 h1).mono fun _ _ ⟨he, hs⟩ => ⟨he, Av.step ha hq h3 h4 h5 h6 hs⟩
theorem store_v {W0 W : World} {b q f k : Nat} {xs : List Int} {st : Int} (h : Av R W0 W b q f k xs st) (i : Nat) (y : Int) (hi : i < xs.length) (h0 : 0 ≤ st) (h1 : st < 4611686018427387904) :
    Calls Tryz.prog 167 #[.pointer (some ⟨b, 0, none⟩), .int .i64 i, .int .i64 y] W fun e w' => e = .returned .nilIface ∧ Av R W0 w' b q f k (xs.set i y) (st + 1) := by
  obtain ⟨v, ha, hq, h3, h4, h5, h6⟩ := h
  exact (store_some i y W b v xs st xs[i] ha (List.getElem?_eq_getElem hi) h0 h1).mono fun _ _ ⟨he, hs⟩ => ⟨he, Av.step ha hq h3 h4 h5 h6 hs⟩
theorem alloc_v {W0 W : World} {b q f k : Nat} {xs : List Int} {st : Int} (h : Av R W0 W b q f k xs st) (x : Int) (hl : (xs.length : Int) < 2097152) :
    Calls Tryz.prog 34 #[.pointer (some ⟨b, 0, none⟩), .int .i64 x] W fun e w' => e = .returned (.tuple #[.int .i64 xs.length, .nilIface]) ∧ Av R W0 w' b q f k (xs ++ [x]) st ∧ Held W w' := by
  obtain ⟨v, ha, hq, h3, h4, h5, h6⟩ := h
  exact (alloc_some x W b v xs st ha hl).mono fun _ _ ⟨he, hs⟩ => ⟨he, Av.step ha hq h3 h4 h5 h6 hs, Held.of_step ha hs⟩
theorem len_v {W0 W : World} {b q f k : Nat} {xs : List Int} {st : Int} (h : Av R W0 W b q f k xs st) :
    Calls Tryz.prog 46 #[.pointer (some ⟨b, 0, none⟩)] W fun e w' => e = .returned (.int .i64 xs.length) ∧ W = w' := by
  obtain ⟨v, ha, _⟩ := h
  exact len_some W b v xs st ha
def shownB (xs : List Int) (f k : Nat) (s : Int) : Bool := xs.getD (f + (s % two k).toNat) 0 == s / two k
theorem mod_nat (k : Nat) (s : Int) : ∃ i : Nat, s % two k = i ∧ (i : Int) < two k := by
  have h0 := two_pos k
  have h1 := Int.emod_nonneg s (show two k ≠ 0 by omega)
  have h2 := Int.emod_lt_of_pos s h0
  exact ⟨(s % two k).toNat, by omega, by omega⟩
theorem ashown_some {W0 W : World} {b q f k : Nat} {xs : List Int} {st : Int} (h : Av R W0 W b q f k xs st) (seq : Int) (hl : f + two k ≤ (xs.length : Int)) (h0 : 0 ≤ st) (h1 : st < 4611686018427387904) :
    Calls Tryz.prog 178 #[.pointer (some ⟨q, 0, none⟩), .pointer (some ⟨b, 0, none⟩), .int .i64 seq] W fun e w' => e = .returned (.tuple #[.bool (shownB xs f k seq), .nilIface]) ∧ Av R W0 w' b q f k xs (st + 1) := by
  obtain ⟨i, hi, hil⟩ := mod_nat k seq
  obtain ⟨x, hx⟩ : ∃ x, xs[f + i]? = some x := ⟨_, List.getElem?_eq_getElem (by omega)⟩
  have hs : shownB xs f k seq = (x == seq / two k) := by
    unfold shownB
    rw [hi]
    simp [List.getD, hx]
  rw [hs]
  have HI := Lib.hid hi
  have HX := Lib.hid hx
  have H := Lib.hid h
  clear hi hil hx hs h hl
  go_enter Tryz.func178, Tryz.ntmps178
  go_wp2_with (first
    | (go_at_call 172; refine (cell_some seq _ q f k H.out.bf i HI.out).mono ?_; rintro e w2 ⟨rfl, hb⟩; have H2 := Lib.hid (H.out.keep hb); clear hb)
    | (go_at_call 35; refine (load_v H2.out (f + i) x HX.out h0 h1).mono ?_; rintro e w3 ⟨rfl, hh⟩; have H3 := Lib.hid hh; clear hh)
    | (go_at_call 173; refine (rd_some seq _ q f k H3.out.bf).mono ?_; rintro e w4 ⟨rfl, hb⟩; have H4 := Lib.hid (H3.out.keep hb); clear hb))
  go_ret2
  exact ⟨rfl, H4.out⟩
def RunTo (P : Int → Bool) (lo hi : Int) (j : Nat) : Prop := (∀ i : Nat, i < j → P (lo + i) = true) ∧ (lo + j ≤ hi → P (lo + j) = false) ∧ (j = 0 ∨ lo + j - 1 ≤ hi)
theorem RunTo.unique {P Q : Int → Bool} {lo hi : Int} {i j : Nat} (h : RunTo P lo hi i) (g : RunTo Q lo hi j) (hPQ : ∀ s, lo ≤ s → s ≤ hi → P s = Q s) : i = j := by
  obtain ⟨h1, h2, h3⟩ := h
  obtain ⟨g1, g2, g3⟩ := g
  rcases Nat.lt_trichotomy i j with e | e | e
  · exfalso
    have a := g1 i e
    have b : lo + i ≤ hi := by omega
    have c := h2 b
    rw [hPQ _ (by omega) b, a] at c
    cases c
  · exact e
  · exfalso
    have a := h1 j e
    have b : lo + j ≤ hi := by omega
    have c := g2 b
    rw [hPQ _ (by omega) b] at a
    rw [a] at c
    cases c
theorem run_le {xs : List Int} {f k : Nat} {lo : Int} {j : Nat} (h : ∀ i : Nat, i < j → shownB xs f k (lo + i) = true) : (j : Int) ≤ two k := by
  by_cases hj : two k < (j : Int)
  · exfalso
    have h0 := two_pos k
    have a := h 0 (by omega)
    have b := h (two k).toNat (by omega)
    unfold shownB at a b
    simp only [beq_iff_eq] at a b
    have e : lo + ((two k).toNat : Int) = (lo + (0 : Nat)) + two k := by omega
    rw [e, Int.add_emod_right, a, Int.add_ediv_of_dvd_right (Int.dvd_refl _), Int.ediv_self (by omega)] at b
    omega
  · omega
end
end Go.Proofs.YtdfcfdcekdmcmaaGreat
namespace Go.Proofs.YtdfcfdcekdmcmaaGreat
open Go.RowKit
section
variable {R : Rest}
def Told (R : Rest) (W0 w : World) (b q f k : Nat) (xs : List Int) (st lo hi : Int) (e : Ending) : Prop :=
  ∃ (j : Nat) (st' : Int), RunTo (shownB xs f k) lo hi j ∧ e = .returned (.tuple #[.int .i64 (lo + j - 1), .nilIface]) ∧ Av R W0 w b q f k xs st' ∧ st ≤ st' ∧ st' ≤ st + 1048577
set_option maxHeartbeats 1000000 in
theorem walk_some {W0 W : World} {b q f k : Nat} {xs : List Int} {st : Int} (h : Av R W0 W b q f k xs st) (lo hi : Int) (hl0 : 0 ≤ lo) (hl1 : lo ≤ 4611686018427387904) (hh0 : -9223372036854775808 ≤ hi) (hh : hi ≤ 4611686018427387904) (hl : f + two k ≤ (xs.length : Int)) (h0 : 0 ≤ st) (h1 : st < 2305843009213693952) :
    Calls Tryz.prog 174 #[.pointer (some ⟨q, 0, none⟩), .pointer (some ⟨b, 0, none⟩), .int .i64 lo, .int .i64 hi] W fun e w' => Told R W0 w' b q f k xs st lo hi e := by
  have H := Lib.hid h
  have HL := Lib.hid hl
  have hk := two_le h.bf.2.1
  clear h hl
  go_enter Tryz.func174, Tryz.ntmps174
  go_wp2
  go_loopw [10] (fun i wl => ∃ j : Nat, i = .int .i64 (lo + j) ∧ Hid (Av R W0 wl b q f k xs (st + j)) ∧ Hid (∀ i : Nat, i < j → shownB xs f k (lo + i) = true) ∧ (j = 0 ∨ lo + j - 1 ≤ hi)) (fun i _ => (hi + 1 - intOf i).toNat)
  case atStart => exact ⟨0, by simp, by simpa using H, Lib.hid fun i hi => absurd hi (by omega), Or.inl rfl⟩
  case round =>
    obtain ⟨j, rfl, HA, HJ, hj⟩ := hrel
    have hjk := run_le HJ.out
    by_cases hle : lo + (j : Int) ≤ hi
    · by_cases hp : shownB xs f k (lo + j) = true
      · have HN : Hid (∀ i : Nat, i < j + 1 → shownB xs f k (lo + i) = true) := Lib.hid fun i hi => by
          by_cases e : i = j
          · subst e; exact hp
          · exact HJ.out i (by omega)
        go_wp2_with (go_at_call 178; refine (ashown_some HA.out (lo + j) HL.out (by omega) (by omega)).mono ?_; rintro e w2 ⟨rfl, hh⟩; rw [hp]; have H2 := Lib.hid hh; clear hh)
        exact ⟨⟨j + 1, by go_num, by rw [show st + ((j + 1 : Nat) : Int) = st + j + 1 by omega]; exact H2, HN, Or.inr (by omega)⟩, by simp [intOf]; omega⟩
      · have hp' : shownB xs f k (lo + j) = false := by simpa using hp
        clear hp
        go_wp2_with (go_at_call 178; refine (ashown_some HA.out (lo + j) HL.out (by omega) (by omega)).mono ?_; rintro e w2 ⟨rfl, hh⟩; rw [hp']; have H2 := Lib.hid hh; clear hh)
        go_ret2
        exact ⟨j, st + j + 1, ⟨HJ.out, fun _ => hp', hj⟩, rfl, H2.out, by omega, by omega⟩
    · have hgt : hi < lo + (j : Int) := by omega
      have hmx : max (lo - 1) hi = lo + (j : Int) - 1 := by omega
      go_wp2
      all_goals go_ret2
      all_goals exact ⟨j, st + j, ⟨HJ.out, fun h => absurd h (by omega), hj⟩, congrArg (fun x => Ending.returned (.tuple #[.int .i64 x, .nilIface])) (by omega), HA.out, by omega, by omega⟩
end
end Go.Proofs.YtdfcfdcekdmcmaaGreat
namespace Go.Proofs.YtdfcfdcekdmcmaaGreat
open Go.RowKit
section
variable {R : Rest}
set_option maxHeartbeats 1000000 in
theorem hi_ok {W0 W : World} {b q f k : Nat} {xs : List Int} {st : Int} (h : Av R W0 W b q f k xs st) (lo hi : Int) (hl0 : 0 ≤ lo) (hl1 : lo ≤ 4611686018427387904) (hh0 : -9223372036854775808 ≤ hi) (hh : hi ≤ 4611686018427387904) (hl : f + two k ≤ (xs.length : Int)) (h0 : 0 ≤ st) (h1 : st < 2305843009213693952) :
    Calls Tryz.prog 159 #[.pointer (some ⟨q, 0, none⟩), .pointer (some ⟨b, 0, none⟩), .int .i64 lo, .int .i64 hi] W fun e w' => Told R W0 w' b q f k xs st lo hi e := by
  obtain ⟨n, hn⟩ : ∃ n : Nat, (n : Int) = two k := ⟨(two k).toNat, by have := two_pos k; omega⟩
  have HE : Hid (Calls Tryz.prog 164 #[.pointer (some ⟨q, 0, none⟩)] W fun e w' => e = .returned (.int .i64 ((f + n : Nat) : Int)) ∧ Below W.heap.size W w') := Lib.hid (end_some W q f k h.bf n hn)
  have HLN : Hid (∀ w, Av R W0 w b q f k xs st → Calls Tryz.prog 46 #[.pointer (some ⟨b, 0, none⟩)] w fun e w' => e = .returned (.int .i64 xs.length) ∧ w = w') := Lib.hid fun w h => len_v h
  have HW : Hid (∀ w, Av R W0 w b q f k xs st → Calls Tryz.prog 174 #[.pointer (some ⟨q, 0, none⟩), .pointer (some ⟨b, 0, none⟩), .int .i64 lo, .int .i64 hi] w fun e w' => Told R W0 w' b q f k xs st lo hi e) := Lib.hid fun w h => walk_some h lo hi hl0 hl1 hh0 hh hl h0 h1
  have H := Lib.hid h
  have hle : f + n ≤ xs.length := by omega
  generalize f + n = fn at *
  generalize xs.length = ln at *
  clear h hl hn
  go_enter Tryz.func159, Tryz.ntmps159
  go_wp2_with (first
    | (go_at_call 170; refine (acheck_ok _ _ _ _ _ hl0 hl1).mono ?_; rintro e w' ⟨rfl, rfl⟩)
    | (go_at_call 164; refine HE.out.mono ?_; rintro e w2 ⟨rfl, hb⟩; have H2 := Lib.hid (H.out.keep hb); clear hb)
    | (go_at_call 46; refine (HLN.out _ H2.out).mono ?_; rintro e w3 ⟨rfl, rfl⟩)
    | (go_at_call 174; refine (HW.out _ H2.out).mono ?_; rintro e w4 ⟨j, st', ht1, rfl, ht2⟩; have HT := Lib.hid (show RunTo (shownB xs f k) lo hi j ∧ _ from ⟨ht1, ht2⟩); clear ht1 ht2))
  go_ret2
  exact ⟨j, st', HT.out.1, rfl, HT.out.2⟩
def showN (xs : List Int) (f k : Nat) (lo : Int) : Nat → List Int
  | 0 => xs
  | m + 1 => (showN xs f k lo m).set (f + ((lo + m) % two k).toNat) ((lo + m) / two k)
theorem showN_len (xs : List Int) (f k : Nat) (lo : Int) (m : Nat) : (showN xs f k lo m).length = xs.length := by
  induction m with
  | zero => rfl
  | succ m ih => rw [showN, List.length_set, ih]
set_option maxRecDepth 100000 in
set_option maxHeartbeats 2000000 in
theorem show_ok {W0 W : World} {b q f k : Nat} {xs : List Int} {st : Int} (h : Av R W0 W b q f k xs st) (lo hi : Int) (hl0 : 0 ≤ lo) (hlh : lo ≤ hi) (hh : hi ≤ 4611686018427387904) (hd : hi - lo < two k) (m : Nat) (hm : hi - lo + 1 = m) (hl : f + two k ≤ (xs.length : Int)) (h0 : 0 ≤ st) (h1 : st < 2305843009213693952) :
    Calls Tryz.prog 157 #[.pointer (some ⟨q, 0, none⟩), .pointer (some ⟨b, 0, none⟩), .int .i64 lo, .int .i64 hi] W fun e w' => e = .returned .nilIface ∧ Av R W0 w' b q f k (showN xs f k lo m) (st + m) := by
  obtain ⟨n, hn⟩ : ∃ n : Nat, (n : Int) = two k := ⟨(two k).toNat, by have := two_pos k; omega⟩
  have HN := Lib.hid hn
  have H := Lib.hid h
  have c1 := h.bf.c1
  have hk := h.bf.2.1
  have ht := two_le hk
  have HM := Lib.hid hm
  have HL := Lib.hid hl
  have d1 : decide (two k ≤ hi - lo) = false := decide_eq_false (by omega)
  have d2 : decide (4611686018427387904 < hi) = false := decide_eq_false (by omega)
  have d3 : decide (hi < lo) = false := decide_eq_false (by omega)
  clear h hm hl hn
  go_enter Tryz.func157, Tryz.ntmps157
  go_wp2_with (first
    | (go_at_call 170; refine (acheck_ok _ _ _ _ _ hl0 (by omega)).mono ?_; rintro e w' ⟨rfl, rfl⟩)
    | (go_at_call 51; refine (slots_any k hk _).mono ?_; rintro e w3 ⟨rfl, hw⟩; have H3 := Lib.hid (H.out.keep (slots_below hw)); clear hw)
    | (go_at_call 171; refine (last_some lo hi _ q f k H3.out.bf n HN.out).mono ?_; rintro e w4 ⟨c, rfl, hc, hb⟩; have H4 := Lib.hid (H3.out.keep hb); have hcl : decide ((xs.length : Int) ≤ c) = false := decide_eq_false (by have := HL.out; have := HN.out; omega); clear hb hc)
    | (go_at_call 46; refine (len_v H4.out).mono ?_; rintro e w5 ⟨rfl, rfl⟩))
  go_loopw [10] (fun i wl => ∃ j : Nat, j ≤ m ∧ i = .int .i64 (lo + j) ∧ Hid (Av R W0 wl b q f k (showN xs f k lo j) (st + j))) (fun i _ => (hi + 1 - intOf i).toNat)
  case atStart => exact ⟨0, Nat.zero_le _, by simp, by simpa [showN] using H4⟩
  case round =>
    obtain ⟨j, hj, rfl, HJ⟩ := hrel
    have hmm : (m : Int) ≤ two k := by have := HM.out; omega
    by_cases hlt : j < m
    · have hle : lo + (j : Int) ≤ hi := by have := HM.out; omega
      obtain ⟨i, hi', hil⟩ := mod_nat k (lo + j)
      have HI := Lib.hid hi'
      have HX : Hid ((showN xs f k lo j).set (f + i) ((lo + j) / two k) = showN xs f k lo (j + 1)) := Lib.hid (by rw [showN, hi']; rfl)
      have HLT : Hid (f + i < (showN xs f k lo j).length) := Lib.hid (by rw [showN_len]; have := HL.out; omega)
      clear hi' hil
      go_wp2_with (first
        | (go_at_call 172; refine (cell_some (lo + j) _ q f k HJ.out.bf i HI.out).mono ?_; rintro e w5 ⟨rfl, hb⟩; have H5 := Lib.hid (HJ.out.keep hb); clear hb)
        | (go_at_call 173; refine (rd_some (lo + j) _ q f k H5.out.bf).mono ?_; rintro e w6 ⟨rfl, hb⟩; have H6 := Lib.hid (H5.out.keep hb); clear hb)
        | (go_at_call 167; refine (store_v H6.out (f + i) _ HLT.out (by omega) (by omega)).mono ?_; rintro e w7 ⟨rfl, hh⟩; rw [HX.out] at hh; have H7 := Lib.hid hh; clear hh))
      exact ⟨⟨j + 1, by omega, by go_num, by rw [show st + ((j + 1 : Nat) : Int) = st + j + 1 by omega]; exact H7⟩, by simp [intOf]; omega⟩
    · obtain rfl : j = m := by omega
      have hgt : ¬ lo + (j : Int) ≤ hi := by have := HM.out; omega
      go_wp2
      go_ret
      exact ⟨rfl, HJ.out⟩
end
end Go.Proofs.YtdfcfdcekdmcmaaGreat
