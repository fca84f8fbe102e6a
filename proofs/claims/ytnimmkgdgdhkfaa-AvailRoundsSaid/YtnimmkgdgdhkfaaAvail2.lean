/-
  A buffer and an arena that a call made itself: whether an index is shown, up to which all are, by contract. Conditions: the arena has all of the buffer's cells; fewer than 2^61 steps.
-/
import Derived.Test.YtnimmkgdgdhkfaaAvail
namespace Go.Proofs.Ytnimmkgdgdhkfaa
open Go.RowKit

/-- What is neither an arena nor a row of integers stays as it is. -/
def Oth (W w : World) : Prop := ∀ (b : Nat) (cs : Array Value) (T : TypeId) (m : Nat × Nat), W.heap[b]? = some (.cells cs T m) → T ≠ 102 → 2 ≠ T → w.heap[b]? = some (.cells cs T m)
theorem Oth.of_below {W w : World} (hb : Below W.heap.size W w) : Oth W w := fun b _ _ _ h _ _ => (hb.block b (lt_of_block h)).trans h
theorem Oth.then {a b c : World} (h : Oth a b) (g : Oth b c) : Oth a c := fun q cs T m k n1 n2 => g q cs T m (h q cs T m k n1 n2) n1 n2
theorem Oth.of_step {W w : World} {b : Nat} {v : Value} {xs ys : List Int} {st st' : Int} (ha : Ar W b v xs st) (h : ArStep W w b v ys st') : Oth W w := by
  obtain ⟨v', _, hf, _⟩ := h
  intro q cs T m h0 n1 n2
  refine hf.obj h0 ?_
  rintro (e | e)
  · exact obj_ne h0 ha.1 n1 e
  · exact row_ne ha.2 h0 n2 e
/-- What stands beside an arena: another row of integers, and whatever else is known that no arena turns. -/
structure Rest where
  row : Value
  nums : List Int
  inv : World → Prop
  ok : ∀ w w', inv w → Oth w w' → inv w'
/-- It was made since W0, apart from the arena's. -/
def Apart (R : Rest) (W0 W : World) (v : Value) : Prop := W.ownsRow 0 2 1 R.row R.nums.length (R.nums.map (Value.int .i64)) ∧ (∀ g, R.row.ownBlock = some g → W0.heap.size ≤ g ∧ v.ownBlock ≠ some g) ∧ R.inv W
/-- Nothing else. -/
def R0 : Rest := ⟨.slice none 0 0, [], fun _ => True, fun _ _ _ _ => trivial⟩
theorem Apart.none (W0 W : World) (v : Value) : Apart R0 W0 W v := ⟨World.ownsRow_nil _ _ _ _, fun g hg => by simp [R0, Value.ownBlock] at hg, trivial⟩

section
variable {R : Rest}
/-- The arena was made since W0, the buffer stands beside it, and another row. -/
def Av (R : Rest) (W0 W : World) (b q f k : Nat) (xs : List Int) (st : Int) : Prop :=
  ∃ v, Ar W b v xs st ∧ Bf W q f k ∧ Below W0.heap.size W0 W ∧ W0.heap.size ≤ b ∧ (∀ g, v.ownBlock = some g → W0.heap.size ≤ g) ∧ Apart R W0 W v
theorem Av.below {W0 W : World} {b q f k : Nat} {xs : List Int} {st : Int} (h : Av R W0 W b q f k xs st) : Below W0.heap.size W0 W := by
  obtain ⟨_, _, _, hb, _⟩ := h
  exact hb
theorem Av.bf {W0 W : World} {b q f k : Nat} {xs : List Int} {st : Int} (h : Av R W0 W b q f k xs st) : Bf W q f k := by
  obtain ⟨_, _, hb, _⟩ := h
  exact hb
theorem Av.keep {W0 W w : World} {b q f k : Nat} {xs : List Int} {st : Int} (h : Av R W0 W b q f k xs st) (hb : Below W.heap.size W w) : Av R W0 w b q f k xs st := by
  obtain ⟨v, h1, h2, h3, h4⟩ := h
  exact ⟨v, h1.keepB hb, h2.keepB hb, bthen h3 hb, h4.1, h4.2.1, (Frm.of_below hb fun _ => False).row h4.2.2.1 fun _ _ => id, h4.2.2.2.1, R.ok _ _ h4.2.2.2.2 (Oth.of_below hb)⟩
theorem Av.step {W0 W w : World} {b q f k : Nat} {v : Value} {xs ys : List Int} {st st' : Int} (ha : Ar W b v xs st) (hq : Bf W q f k) (h3 : Below W0.heap.size W0 W) (h4 : W0.heap.size ≤ b) (h5 : ∀ g, v.ownBlock = some g → W0.heap.size ≤ g) (h6 : Apart R W0 W v) (h : ArStep W w b v ys st') : Av R W0 w b q f k ys st' := by
  have hoth := Oth.of_step ha h
  obtain ⟨v', ha', hf, hv⟩ := h
  have h0 : W0.heap.size ≤ W.heap.size := h3.size
  refine ⟨v', ha', hq.keep hf ?_, h3.trans (hf.below h0 ?_), h4, ?_, hf.row h6.1 ?_, ?_, R.ok _ _ h6.2.2 hoth⟩
  · rintro (e | e)
    · exact obj_ne hq.1 ha.1 (by decide) e
    · exact row_ne ha.2 hq.1 (by decide) e
  · rintro i (rfl | hk)
    · exact h4
    · exact h5 i hk
  · intro g hg
    rcases hv with hv | hv
    · exact h5 g (hv ▸ hg)
    · exact Nat.le_trans h0 (hv g hg)
  · rintro g hg (e | e)
    · exact row_ne h6.1 ha.1 (by decide) (e ▸ hg)
    · exact (h6.2.1 g hg).2 e
  · intro g hg
    refine ⟨(h6.2.1 g hg).1, fun e => ?_⟩
    rcases hv with hv | hv
    · exact (h6.2.1 g hg).2 (hv ▸ e)
    · have := hv g e
      have := row_lt h6.1 hg
      omega
/-- The other row grows. -/
theorem Av.app {W0 W w2 w' : World} {b q f k : Nat} {vs v' : Value} {ss xs : List Int} {st s : Int} {o : Obj} {I : World → Prop} {hI : ∀ w w', I w → Oth w w' → I w'} (h : Av ⟨vs, ss, I, hI⟩ W0 W b q f k xs st) (hb : Below W.heap.size W w2)
    (hown : w'.ownsRow 0 2 1 v' (ss.length + 1) (ss.map (Value.int .i64) ++ [.int .i64 s])) (hf : Frm (fun k => vs.ownBlock = some k) (w2.alloc o) w') (hv : v'.ownBlock = vs.ownBlock ∨ ∀ g, v'.ownBlock = some g → (w2.alloc o).heap.size ≤ g) :
    Av ⟨v', ss ++ [s], I, hI⟩ W0 w' b q f k xs st := by
  obtain ⟨v, h1, h2, h3, h4, h5, h6⟩ := h
  have hb2 : Below W.heap.size W (w2.alloc o) := balloc hb o
  have hb3 := bthen h3 hb2
  have n1 : vs.ownBlock ≠ some b := row_ne h6.1 h1.1 (by decide)
  have n2 : vs.ownBlock ≠ some q := row_ne h6.1 h2.1 (by decide)
  have n3 : ∀ g, v.ownBlock = some g → vs.ownBlock ≠ some g := fun g hg e => (h6.2.1 g e).2 hg
  refine ⟨v, (h1.keepB hb2).keep hf n1 n3, (h2.keepB hb2).keep hf n2, hb3.trans (hf.below hb3.size fun g hg => (h6.2.1 g hg).1), h4, h5, ?_, ?_, ?_⟩
  · simpa using hown
  · intro g hg
    rcases hv with hv | hv
    · exact h6.2.1 g (hv ▸ hg)
    · have := hv g hg
      refine ⟨Nat.le_trans hb3.size this, fun e => ?_⟩
      have := row_lt h1.2 e
      have := hb2.size
      omega
  · refine hI _ _ h6.2.2 ((Oth.of_below hb2).then fun b cs T m h0 _ n2 => hf.obj h0 fun e => ?_)
    exact row_ne ((Frm.of_below hb2 fun _ => False).row h6.1 fun _ _ => id) h0 n2 e
/-- Other things known. -/
theorem Av.know {W0 W : World} {b q f k : Nat} {vs : Value} {ss xs : List Int} {st : Int} {I J : World → Prop} {hI : ∀ w w', I w → Oth w w' → I w'} (h : Av ⟨vs, ss, I, hI⟩ W0 W b q f k xs st) (hJ : ∀ w w', J w → Oth w w' → J w') (hW : J W) : Av ⟨vs, ss, J, hJ⟩ W0 W b q f k xs st := by
  obtain ⟨v, h1, h2, h3, h4, h5, h6⟩ := h
  exact ⟨v, h1, h2, h3, h4, h5, h6.1, h6.2.1, hW⟩
theorem Av.inv {W0 W : World} {b q f k : Nat} {xs : List Int} {st : Int} (h : Av R W0 W b q f k xs st) : R.inv W := by
  obtain ⟨v, h1, h2, h3, h4, h5, h6⟩ := h
  exact h6.2.2

/-- Errors stay what they are. -/
def Held (W w : World) : Prop := ∀ E d n, Chain W E d n → Chain w E d n
theorem Held.of_below {W w : World} (hb : Below W.heap.size W w) : Held W w := fun _ _ _ h => h.keep hb
theorem Held.then {a b c : World} (h : Held a b) (g : Held b c) : Held a c := fun E d n k => g E d n (h E d n k)
theorem Held.of_step {W w : World} {b : Nat} {v : Value} {xs ys : List Int} {st st' : Int} (ha : Ar W b v xs st) (h : ArStep W w b v ys st') : Held W w := by
  obtain ⟨v', _, hf, _⟩ := h
  intro E d n hc
  induction hc with
  | num n => exact .num n
  | fault q op seq E d n h0 h ih =>
    refine .fault q op seq E d n (hf.obj h0 ?_) ih
    rintro (e | e)
    · exact obj_ne h0 ha.1 (by decide) e
    · exact row_ne ha.2 h0 (by decide) e

theorem load_v {W0 W : World} {b q f k : Nat} {xs : List Int} {st : Int} (h : Av R W0 W b q f k xs st) (i : Nat) (x : Int) (hx : xs[i]? = some x) (h0 : 0 ≤ st) (h1 : st < 4611686018427387904) :
    Calls Try.prog 33 #[.pointer (some ⟨b, 0, none⟩), .int .i64 i] W fun e w' => e = .returned (.tuple #[.int .i64 x, .nilIface]) ∧ Av R W0 w' b q f k xs (st + 1) := by
  obtain ⟨v, ha, hq, h3, h4, h5, h6⟩ := h
  exact (load_some i W b v xs st x ha hx h0 h1).mono fun _ _ ⟨he, hs⟩ => ⟨he, Av.step ha hq h3 h4 h5 h6 hs⟩
theorem store_v {W0 W : World} {b q f k : Nat} {xs : List Int} {st : Int} (h : Av R W0 W b q f k xs st) (i : Nat) (y : Int) (hi : i < xs.length) (h0 : 0 ≤ st) (h1 : st < 4611686018427387904) :
    Calls Try.prog 34 #[.pointer (some ⟨b, 0, none⟩), .int .i64 i, .int .i64 y] W fun e w' => e = .returned .nilIface ∧ Av R W0 w' b q f k (xs.set i y) (st + 1) := by
  obtain ⟨v, ha, hq, h3, h4, h5, h6⟩ := h
  exact (store_some i y W b v xs st xs[i] ha (List.getElem?_eq_getElem hi) h0 h1).mono fun _ _ ⟨he, hs⟩ => ⟨he, Av.step ha hq h3 h4 h5 h6 hs⟩
theorem alloc_v {W0 W : World} {b q f k : Nat} {xs : List Int} {st : Int} (h : Av R W0 W b q f k xs st) (x : Int) (hl : (xs.length : Int) < 2097152) :
    Calls Try.prog 35 #[.pointer (some ⟨b, 0, none⟩), .int .i64 x] W fun e w' => e = .returned (.tuple #[.int .i64 xs.length, .nilIface]) ∧ Av R W0 w' b q f k (xs ++ [x]) st ∧ Held W w' := by
  obtain ⟨v, ha, hq, h3, h4, h5, h6⟩ := h
  exact (alloc_some x W b v xs st ha hl).mono fun _ _ ⟨he, hs⟩ => ⟨he, Av.step ha hq h3 h4 h5 h6 hs, Held.of_step ha hs⟩
theorem len_v {W0 W : World} {b q f k : Nat} {xs : List Int} {st : Int} (h : Av R W0 W b q f k xs st) :
    Calls Try.prog 30 #[.pointer (some ⟨b, 0, none⟩)] W fun e w' => e = .returned (.int .i64 xs.length) ∧ W = w' := by
  obtain ⟨v, ha, _⟩ := h
  exact len_some W b v xs st ha

/-- Whether an index's cell has its round. -/
def shownB (xs : List Int) (f k : Nat) (s : Int) : Bool := xs.getD (f + (s % two k).toNat) 0 == s / two k

theorem mod_nat (k : Nat) (s : Int) : ∃ i : Nat, s % two k = i ∧ (i : Int) < two k := by
  have h0 := two_pos k
  have h1 := Int.emod_nonneg s (show two k ≠ 0 by omega)
  have h2 := Int.emod_lt_of_pos s h0
  exact ⟨(s % two k).toNat, by omega, by omega⟩

theorem ashown_some {W0 W : World} {b q f k : Nat} {xs : List Int} {st : Int} (h : Av R W0 W b q f k xs st) (seq : Int) (hl : f + two k ≤ (xs.length : Int)) (h0 : 0 ≤ st) (h1 : st < 4611686018427387904) :
    Calls Try.prog 70 #[.pointer (some ⟨q, 0, none⟩), .pointer (some ⟨b, 0, none⟩), .int .i64 seq] W fun e w' => e = .returned (.tuple #[.bool (shownB xs f k seq), .nilIface]) ∧ Av R W0 w' b q f k xs (st + 1) := by
  obtain ⟨i, hi, hil⟩ := mod_nat k seq
  obtain ⟨x, hx⟩ : ∃ x, xs[f + i]? = some x := ⟨_, List.getElem?_eq_getElem (by omega)⟩
  have hs : shownB xs f k seq = (x == seq / two k) := by
    unfold shownB
    rw [hi]
    simp [List.getD, hx]
  rw [hs]
  have HI := Lib.hid hi
  have HX := Lib.hid hx
  have H := Lib.hid h
  clear hi hil hx hs h hl
  go_enter Try.func70, Try.ntmps70
  go_wp2_with (first
    | (go_at_call 54; refine (cell_some seq _ q f k H.out.bf i HI.out).mono ?_; rintro e w2 ⟨rfl, hb⟩; have H2 := Lib.hid (H.out.keep hb); clear hb)
    | (go_at_call 33; refine (load_v H2.out (f + i) x HX.out h0 h1).mono ?_; rintro e w3 ⟨rfl, hh⟩; have H3 := Lib.hid hh; clear hh)
    | (go_at_call 55; refine (rd_some seq _ q f k H3.out.bf).mono ?_; rintro e w4 ⟨rfl, hb⟩; have H4 := Lib.hid (H3.out.keep hb); clear hb))
  go_ret2
  exact ⟨rfl, H4.out⟩

theorem is_nilA (p : Option Addr) (seq : Int) (W : World) :
    Calls Try.prog 50 #[.pointer p, .pointer none, .int .i64 seq] W fun e w' => ∃ E, e = .returned (.tuple #[.bool false, E]) ∧ Refused W w' E 2 := by
  go_enter Try.func50, Try.ntmps50
  go_wp2_with (go_at_call 68; refine (acheck_nilA _ _ _ _).mono ?_; rintro e w' ⟨E, rfl, q', rfl, hr1, hr2⟩; have HR := Lib.hid (show Refused W w' _ 2 from ⟨q', rfl, hr1, hr2⟩); clear hr1 hr2)
  go_ret2
  exact ⟨_, rfl, HR.out⟩
theorem is_nilB (b : Nat) (seq : Int) (W : World) :
    Calls Try.prog 50 #[.pointer none, .pointer (some ⟨b, 0, none⟩), .int .i64 seq] W fun e w' => ∃ E, e = .returned (.tuple #[.bool false, E]) ∧ Refused W w' E 2 := by
  go_enter Try.func50, Try.ntmps50
  go_wp2_with (go_at_call 68; refine (acheck_nilB _ _ _ _).mono ?_; rintro e w' ⟨E, rfl, q', rfl, hr1, hr2⟩; have HR := Lib.hid (show Refused W w' _ 2 from ⟨q', rfl, hr1, hr2⟩); clear hr1 hr2)
  go_ret2
  exact ⟨_, rfl, HR.out⟩
theorem is_bad (b q : Nat) (seq : Int) (W : World) (hs : seq < 0 ∨ 4611686018427387904 < seq) :
    Calls Try.prog 50 #[.pointer (some ⟨q, 0, none⟩), .pointer (some ⟨b, 0, none⟩), .int .i64 seq] W fun e w' => ∃ E, e = .returned (.tuple #[.bool false, E]) ∧ Refused W w' E 5 := by
  have HS := Lib.hid hs
  clear hs
  go_enter Try.func50, Try.ntmps50
  go_wp2_with (go_at_call 68; refine (acheck_bad _ _ _ _ _ HS.out).mono ?_; rintro e w' ⟨E, rfl, q', rfl, hr1, hr2⟩; have HR := Lib.hid (show Refused W w' _ 5 from ⟨q', rfl, hr1, hr2⟩); clear hr1 hr2)
  go_ret2
  exact ⟨_, rfl, HR.out⟩
theorem is_ok {W0 W : World} {b q f k : Nat} {xs : List Int} {st : Int} (h : Av R W0 W b q f k xs st) (seq : Int) (hs0 : 0 ≤ seq) (hs1 : seq ≤ 4611686018427387904) (hl : f + two k ≤ (xs.length : Int)) (h0 : 0 ≤ st) (h1 : st < 4611686018427387904) :
    Calls Try.prog 50 #[.pointer (some ⟨q, 0, none⟩), .pointer (some ⟨b, 0, none⟩), .int .i64 seq] W fun e w' => e = .returned (.tuple #[.bool (shownB xs f k seq), .nilIface]) ∧ Av R W0 w' b q f k xs (st + 1) := by
  have H := Lib.hid h
  have HL := Lib.hid hl
  clear h hl
  go_enter Try.func50, Try.ntmps50
  go_wp2_with (first
    | (go_at_call 68; refine (acheck_ok _ _ _ _ _ hs0 hs1).mono ?_; rintro e w' ⟨rfl, rfl⟩)
    | (go_at_call 70; refine (ashown_some H.out seq HL.out h0 h1).mono ?_; rintro e w2 ⟨rfl, hh⟩; have H2 := Lib.hid hh; clear hh))
  go_ret2
  exact ⟨rfl, H2.out⟩

/-- So many from an index on hold, and the next one doesn't, or is behind the last. -/
def RunTo (P : Int → Bool) (lo hi : Int) (j : Nat) : Prop := (∀ i : Nat, i < j → P (lo + i) = true) ∧ (lo + j ≤ hi → P (lo + j) = false) ∧ (j = 0 ∨ lo + j - 1 ≤ hi)
theorem RunTo.unique {P Q : Int → Bool} {lo hi : Int} {i j : Nat} (h : RunTo P lo hi i) (g : RunTo Q lo hi j) (hPQ : ∀ s, lo ≤ s → s ≤ hi → P s = Q s) : i = j := by
  obtain ⟨h1, h2, h3⟩ := h
  obtain ⟨g1, g2, g3⟩ := g
  rcases Nat.lt_trichotomy i j with e | e | e
  · exfalso
    have a := g1 i e
    have b : lo + i ≤ hi := by omega
    have c := h2 b
    rw [hPQ _ (by omega) b, a] at c
    cases c
  · exact e
  · exfalso
    have a := h1 j e
    have b : lo + j ≤ hi := by omega
    have c := g2 b
    rw [hPQ _ (by omega) b] at a
    rw [a] at c
    cases c
/-- No slot has two indexes shown. -/
theorem run_le {xs : List Int} {f k : Nat} {lo : Int} {j : Nat} (h : ∀ i : Nat, i < j → shownB xs f k (lo + i) = true) : (j : Int) ≤ two k := by
  by_cases hj : two k < (j : Int)
  · exfalso
    have h0 := two_pos k
    have a := h 0 (by omega)
    have b := h (two k).toNat (by omega)
    unfold shownB at a b
    simp only [beq_iff_eq] at a b
    have e : lo + ((two k).toNat : Int) = (lo + (0 : Nat)) + two k := by omega
    rw [e, Int.add_emod_right, a, Int.add_ediv_of_dvd_right (Int.dvd_refl _), Int.ediv_self (by omega)] at b
    omega
  · omega
end
end Go.Proofs.Ytnimmkgdgdhkfaa
