/-
  A clock and a table of actors side by side, and whatever else is known of blocks that are neither's: each step of the one or the other, by contract. Conditions: as each theorem names them.
  A room with a clock and a table: live, Wake, Halt, Park by contract. Conditions: as each theorem names them.
  Rows and blocks beside a clock and a table: made, appended to, set; what is known of them stays. What waking some actors, one behind the other, leaves, in plain lists. No condition but those that each theorem names.
  A room's Tick, find, Enlist and Signal by contract. Conditions: as each theorem names them.
-/
import Derived.Test.YtdfcfdcekdmcmaaGreatPk04
import Derived.Test.YtdfcfdcekdmcmaaGreatPk16
import Derived.Test.YtdfcfdcekdmcmaaGreatPk17
import Derived.Test.YtdfcfdcekdmcmaaGreatPk18
set_option linter.unusedVariables false
set_option linter.unusedSimpArgs false
namespace Go.Proofs.YtdfcfdcekdmcmaaGreat
open Go.RowKit
set_option linter.unusedVariables false
theorem rows_apart {w : World} {v u : Value} {e f : TypeId} {z y n m : Nat} {xs ys : List Value} {B C : Nat} (h : w.ownsRow B e z v n xs) (k : w.ownsRow C f y u m ys) (hne : e ≠ f) {g : Nat} (hg : v.ownBlock = some g) : u.ownBlock ≠ some g := by
  intro hu
  obtain ⟨c, hc⟩ := ownsRow_obj h hg
  obtain ⟨d, hd⟩ := ownsRow_obj k hu
  rw [hc] at hd
  cases hd
  exact hne rfl
def TcStep (W w' : World) (c t : Nat) (cv tv : Value) (ts : List (Int × Int)) (now : Int) (xs : List Ac) : Prop :=
  ∃ cv' tv', Ck w' c cv' ts now ∧ Tb w' t tv' xs ∧ Frm (fun k => (k = c ∨ cv.ownBlock = some k) ∨ (k = t ∨ tv.ownBlock = some k)) W w' ∧ (cv'.ownBlock = cv.ownBlock ∨ ∀ g, cv'.ownBlock = some g → W.heap.size ≤ g) ∧ (tv'.ownBlock = tv.ownBlock ∨ ∀ g, tv'.ownBlock = some g → W.heap.size ≤ g)
section
variable {W w' : World} {c t : Nat} {cv tv : Value} {ts ts' : List (Int × Int)} {now now' : Int} {xs xs' : List Ac}
theorem tc_ne (hc : Ck W c cv ts now) (ht : Tb W t tv xs) : c ≠ t := obj_ne hc.1 ht.1 (by decide)
theorem TcStep.tb (hc : Ck W c cv ts now) (ht : Tb W t tv xs) (h : TbStep W w' t tv xs') : TcStep W w' c t cv tv ts now xs' := by
  obtain ⟨tv', h1, h2, h3⟩ := h
  refine ⟨cv, tv', hc.keep h2 ?_ ?_, h1, h2.mono fun _ _ => .inr, .inl rfl, h3⟩
  · rintro (e | e)
    · exact tc_ne hc ht e
    · exact row_ne ht.2 hc.1 (by decide) e
  · rintro g hg (e | e)
    · exact row_ne hc.2 ht.1 (by decide) (e ▸ hg)
    · exact rows_apart hc.2 ht.2 (by decide) hg e
theorem TcStep.ck (hc : Ck W c cv ts now) (ht : Tb W t tv xs) {cv' : Value} (h : Ck w' c cv' ts' now') (hf : Frm (fun k => k = c ∨ cv.ownBlock = some k) W w') (hv : cv'.ownBlock = cv.ownBlock ∨ ∀ g, cv'.ownBlock = some g → W.heap.size ≤ g) : TcStep W w' c t cv tv ts' now' xs := by
  refine ⟨cv', tv, h, ht.keep hf ?_ ?_, hf.mono fun _ _ => .inl, hv, .inl rfl⟩
  · rintro (e | e)
    · exact tc_ne hc ht e.symm
    · exact row_ne hc.2 ht.1 (by decide) e
  · rintro g hg (e | e)
    · exact row_ne ht.2 hc.1 (by decide) (e ▸ hg)
    · exact rows_apart hc.2 ht.2 (by decide) e hg
end
def Rc (R : Rest) (W0 w : World) (c t : Nat) (ts : List (Int × Int)) (now : Int) (xs : List Ac) : Prop :=
  ∃ cv tv, Ck w c cv ts now ∧ Tb w t tv xs ∧ Below W0.heap.size W0 w ∧ (W0.heap.size ≤ c ∧ W0.heap.size ≤ t) ∧ (∀ g, cv.ownBlock = some g ∨ tv.ownBlock = some g → W0.heap.size ≤ g) ∧ (∀ k, R.prot k → k < w.heap.size ∧ ¬ ((k = c ∨ cv.ownBlock = some k) ∨ (k = t ∨ tv.ownBlock = some k))) ∧ R.inv w
section
variable {R R' : Rest} {S : Nat → Prop} {W0 W w : World} {c t : Nat} {ts ts' : List (Int × Int)} {now now' : Int} {xs xs' : List Ac}
theorem Rc.below (h : Rc R W0 W c t ts now xs) : Below W0.heap.size W0 W := by
  obtain ⟨cv, tv, h1, h2, h3, _⟩ := h
  exact h3
theorem Rc.inv (h : Rc R W0 W c t ts now xs) : R.inv W := by
  obtain ⟨cv, tv, h1, h2, h3, h4, h5, h6, h7⟩ := h
  exact h7
theorem Rc.prot_lt (h : Rc R W0 W c t ts now xs) {k : Nat} (hk : R.prot k) : k < W.heap.size := by
  obtain ⟨cv, tv, h1, h2, h3, h4, h5, h6, h7⟩ := h
  exact (h6 k hk).1
theorem Rc.keep (h : Rc R W0 W c t ts now xs) (hb : Below W.heap.size W w) : Rc R W0 w c t ts now xs := by
  obtain ⟨cv, tv, h1, h2, h3, h4, h5, h6, h7⟩ := h
  exact ⟨cv, tv, h1.keepB hb, h2.keepB hb, bthen h3 hb, h4, h5, fun k hk => ⟨Nat.lt_of_lt_of_le (h6 k hk).1 hb.size, (h6 k hk).2⟩, R.ok _ _ h7 fun k hk => hb.block k (h6 k hk).1⟩
theorem Rc.step {cv tv : Value} (h1 : Below W0.heap.size W0 W) (h2 : W0.heap.size ≤ c ∧ W0.heap.size ≤ t) (h3 : ∀ g, cv.ownBlock = some g ∨ tv.ownBlock = some g → W0.heap.size ≤ g) (h4 : ∀ k, R.prot k → k < W.heap.size ∧ ¬ ((k = c ∨ cv.ownBlock = some k) ∨ (k = t ∨ tv.ownBlock = some k))) (h5 : R.inv W)
    (h : TcStep W w c t cv tv ts now xs) : Rc R W0 w c t ts now xs := by
  obtain ⟨cv', tv', k1, k2, k3, k4, k5⟩ := h
  have hs := h1.size
  refine ⟨cv', tv', k1, k2, h1.trans (k3.below hs fun k e => ?_), h2, fun g hg => ?_, fun k hk => ⟨Nat.lt_of_lt_of_le (h4 k hk).1 k3.size, fun e => ?_⟩, R.ok _ _ h5 fun k hk => k3.block k (h4 k hk).1 (h4 k hk).2⟩
  · rcases e with (rfl | e) | (rfl | e)
    · exact h2.1
    · exact h3 k (.inl e)
    · exact h2.2
    · exact h3 k (.inr e)
  · rcases hg with hg | hg
    · rcases k4 with k4 | k4
      · exact h3 g (.inl (k4 ▸ hg))
      · exact Nat.le_trans hs (k4 g hg)
    · rcases k5 with k5 | k5
      · exact h3 g (.inr (k5 ▸ hg))
      · exact Nat.le_trans hs (k5 g hg)
  · obtain ⟨a1, a2⟩ := h4 k hk
    rcases e with (e | e) | (e | e)
    · exact a2 (.inl (.inl e))
    · rcases k4 with k4 | k4
      · exact a2 (.inl (.inr (k4 ▸ e)))
      · have := k4 k e
        omega
    · exact a2 (.inr (.inl e))
    · rcases k5 with k5 | k5
      · exact a2 (.inr (.inr (k5 ▸ e)))
      · have := k5 k e
        omega
theorem Rc.turn2 (h : Rc R W0 W c t ts now xs) (hf : Frm S W w) (hS : ∀ g, S g → W0.heap.size ≤ g ∧ R.prot g) (hR : ∀ g, R'.prot g → R.prot g ∨ (W.heap.size ≤ g ∧ g < w.heap.size)) (hI : R'.inv w) : Rc R' W0 w c t ts now xs := by
  obtain ⟨cv, tv, h1, h2, h3, h4, h5, h6, h7⟩ := h
  have nS : ∀ k, (k = c ∨ cv.ownBlock = some k) ∨ (k = t ∨ tv.ownBlock = some k) → ¬ S k := fun k e hs => (h6 k (hS k hs).2).2 e
  refine ⟨cv, tv, h1.keep hf (nS c (.inl (.inl rfl))) (fun g hg => nS g (.inl (.inr hg))), h2.keep hf (nS t (.inr (.inl rfl))) (fun g hg => nS g (.inr (.inr hg))), h3.trans ⟨hf.os, hf.tape, hf.output, hf.size, fun k hk => ?_⟩, h4, h5, fun g hg => ?_, hI⟩
  · by_cases hs : S k
    · have := (hS k hs).1
      omega
    · exact hf.block k (Nat.lt_of_lt_of_le hk h3.size) hs
  · rcases hR g hg with hg | ⟨g1, g2⟩
    · exact ⟨Nat.lt_of_lt_of_le (h6 g hg).1 hf.size, (h6 g hg).2⟩
    · refine ⟨g2, fun e => ?_⟩
      have b1 := lt_of_block h1.1
      have b2 := lt_of_block h2.1
      rcases e with (e | e) | (e | e)
      · omega
      · have := row_lt h1.2 e
        omega
      · omega
      · have := row_lt h2.2 e
        omega
theorem Rc.le (h : Rc R W0 W c t ts now xs) (hp : ∀ k, R'.prot k → R.prot k) (hi : R'.inv W) : Rc R' W0 W c t ts now xs :=
  h.turn2 (S := fun _ => False) (Frm.refl _ _) (fun _ h => h.elim) (fun g hg => .inl (hp g hg)) hi
theorem tadd_c (h : Rc R W0 W c t ts now xs) (hl : (xs.length : Int) < 64) :
    Calls Tryz.prog 52 #[.pointer (some ⟨t, 0, none⟩)] W fun e w' => e = .returned (.tuple #[.int .i64 xs.length, .nilIface]) ∧ Rc R W0 w' c t ts now (xs ++ [(0, false, 0)]) := by
  obtain ⟨cv, tv, h1, h2, h3, h4, h5, h6, h7⟩ := h
  exact (tadd_some W t tv xs h2 hl).mono fun e w' ⟨he, hs⟩ => ⟨he, Rc.step h3 h4 h5 h6 h7 (TcStep.tb h1 h2 hs)⟩
theorem tadd_full_c (h : Rc R W0 W c t ts now xs) (hl : 64 ≤ (xs.length : Int)) :
    Calls Tryz.prog 52 #[.pointer (some ⟨t, 0, none⟩)] W fun e w' => ∃ q, e = .returned (.tuple #[.int .i64 0, Flt q]) ∧ Chain w' (Flt q) 1 8 ∧ Below W.heap.size W w' := by
  obtain ⟨cv, tv, h1, h2, h3, h4, h5, h6, h7⟩ := h
  exact tadd_many W t tv xs h2 hl
theorem tpark_c (h : Rc R W0 W c t ts now xs) (i : Nat) (a : Ac) (hi : xs[i]? = some a) (hs : a.1 ≠ 2) :
    Calls Tryz.prog 76 #[.pointer (some ⟨t, 0, none⟩), .int .i64 i] W fun e w' => e = .returned (.tuple #[.bool (!a.2.1), .nilIface]) ∧ Rc R W0 w' c t ts now (xs.set i (parkS a)) := by
  obtain ⟨cv, tv, h1, h2, h3, h4, h5, h6, h7⟩ := h
  exact (park_ok W t tv xs i a h2 hi hs).mono fun e w' ⟨he, hs⟩ => ⟨he, Rc.step h3 h4 h5 h6 h7 (TcStep.tb h1 h2 hs.step)⟩
theorem twake_c (h : Rc R W0 W c t ts now xs) (i : Nat) (a : Ac) (hi : xs[i]? = some a) (hs : a.1 ≠ 2) (h0 : 0 ≤ a.2.2) (hm : a.2.2 < 4611686018427387904) :
    Calls Tryz.prog 99 #[.pointer (some ⟨t, 0, none⟩), .int .i64 i] W fun e w' => e = .returned (.tuple #[.bool (a.1 == 1), .nilIface]) ∧ Rc R W0 w' c t ts now (xs.set i (wakeS a)) := by
  obtain ⟨cv, tv, h1, h2, h3, h4, h5, h6, h7⟩ := h
  exact (wake_ok W t tv xs i a h2 hi hs h0 hm).mono fun e w' ⟨he, hs⟩ => ⟨he, Rc.step h3 h4 h5 h6 h7 (TcStep.tb h1 h2 hs.step)⟩
theorem twake_bad_c (h : Rc R W0 W c t ts now xs) (id n : Int) (hw : Wr xs id n) :
    Calls Tryz.prog 99 #[.pointer (some ⟨t, 0, none⟩), .int .i64 id] W fun e w' => ∃ q, e = .returned (.tuple #[.bool false, Flt q]) ∧ Chain w' (Flt q) 1 n ∧ Below W.heap.size W w' := by
  obtain ⟨cv, tv, h1, h2, h3, h4, h5, h6, h7⟩ := h
  exact wake_bad W t tv xs id n h2 hw
theorem thalt_c (h : Rc R W0 W c t ts now xs) (i : Nat) (a : Ac) (hi : xs[i]? = some a) (hs : a.1 ≠ 2) :
    Calls Tryz.prog 102 #[.pointer (some ⟨t, 0, none⟩), .int .i64 i] W fun e w' => e = .returned .nilIface ∧ Rc R W0 w' c t ts now (xs.set i (haltS a)) := by
  obtain ⟨cv, tv, h1, h2, h3, h4, h5, h6, h7⟩ := h
  exact (halt_ok W t tv xs i a h2 hi hs).mono fun e w' ⟨he, hs⟩ => ⟨he, Rc.step h3 h4 h5 h6 h7 (TcStep.tb h1 h2 hs.step)⟩
theorem thalt_bad_c (h : Rc R W0 W c t ts now xs) (id n : Int) (hw : Wr xs id n) :
    Calls Tryz.prog 102 #[.pointer (some ⟨t, 0, none⟩), .int .i64 id] W fun e w' => ∃ q, e = .returned (Flt q) ∧ Chain w' (Flt q) 1 n ∧ Below W.heap.size W w' := by
  obtain ⟨cv, tv, h1, h2, h3, h4, h5, h6, h7⟩ := h
  exact halt_bad W t tv xs id n h2 hw
theorem tstate_c (h : Rc R W0 W c t ts now xs) (i : Nat) (a : Ac) (hi : xs[i]? = some a) :
    Calls Tryz.prog 19 #[.pointer (some ⟨t, 0, none⟩), .int .i64 i] W fun e w' => e = .returned (.int .i64 a.1) ∧ Below W.heap.size W w' := by
  obtain ⟨cv, tv, h1, h2, h3, h4, h5, h6, h7⟩ := h
  exact tstate_in W t tv xs i a h2 hi
theorem ttoken_c (h : Rc R W0 W c t ts now xs) (i : Nat) (a : Ac) (hi : xs[i]? = some a) :
    Calls Tryz.prog 21 #[.pointer (some ⟨t, 0, none⟩), .int .i64 i] W fun e w' => e = .returned (.bool a.2.1) ∧ Below W.heap.size W w' := by
  obtain ⟨cv, tv, h1, h2, h3, h4, h5, h6, h7⟩ := h
  exact ttoken_in W t tv xs i a h2 hi
theorem tlen_c (h : Rc R W0 W c t ts now xs) :
    Calls Tryz.prog 15 #[.pointer (some ⟨t, 0, none⟩)] W fun e w' => e = .returned (.int .i64 xs.length) ∧ W = w' := by
  obtain ⟨cv, tv, h1, h2, h3, h4, h5, h6, h7⟩ := h
  exact tlen W t tv xs h2
theorem now_c (h : Rc R W0 W c t ts now xs) :
    Calls Tryz.prog 48 #[.pointer (some ⟨c, 0, none⟩)] W fun e w' => e = .returned (.int .i64 now) ∧ W = w' := by
  obtain ⟨cv, tv, h1, h2, h3, h4, h5, h6, h7⟩ := h
  exact now_some W c cv ts now h1
theorem waiting_c (h : Rc R W0 W c t ts now xs) :
    Calls Tryz.prog 67 #[.pointer (some ⟨c, 0, none⟩)] W fun e w' => e = .returned (.int .i64 ts.length) ∧ W = w' := by
  obtain ⟨cv, tv, h1, h2, h3, h4, h5, h6, h7⟩ := h
  exact waiting_some W c cv ts now h1
def notHis (ts : List (Int × Int)) (who : Int) : List (Int × Int) := keptL ts (fun t => t.2 == who) ts.length
theorem drop_c (h : Rc R W0 W c t ts now xs) (who : Int) (hn : (ts.length : Int) ≤ 1048576) :
    Calls Tryz.prog 77 #[.pointer (some ⟨c, 0, none⟩), .int .i64 who] W fun e w' => ∃ n, e = .returned (.int .i64 n) ∧ Rc R W0 w' c t (notHis ts who) now xs := by
  obtain ⟨cv, tv, h1, h2, h3, h4, h5, h6, h7⟩ := h
  refine (drop_some W c cv ts now who h1 hn).mono ?_
  rintro e w' ⟨v', he, hk, hv, hf⟩
  exact ⟨_, he, Rc.step h3 h4 h5 h6 h7 (TcStep.ck h1 h2 hk hf (.inl hv))⟩
theorem set_c (h : Rc R W0 W c t ts now xs) (at' who : Int) (hn : (ts.length : Int) < 64) (h0 : now < at') (hnow : 0 ≤ now) (h2 : at' ≤ 1099511627776) (h3 : 0 ≤ who) (h4 : who < 64) :
    Calls Tryz.prog 78 #[.pointer (some ⟨c, 0, none⟩), .int .i64 at', .int .i64 who] W fun e w' => e = .returned .nilIface ∧ Rc R W0 w' c t (ins (at', who) ts) now xs := by
  obtain ⟨cv, tv, k1, k2, k3, k4, k5, k6, k7⟩ := h
  refine (set_any W c (at', who) now cv ts hn k1 h0 hnow h2 h3 h4).mono ?_
  rintro e w' hd
  obtain ⟨v', he, hk, hf, hv⟩ := hd
  exact ⟨he, Rc.step k3 k4 k5 k6 k7 (TcStep.ck k1 k2 hk hf hv)⟩
def due (ts : List (Int × Int)) (now : Int) : List Int := whoL ts (fun t => decide (t.1 ≤ now)) ts.length
def notDue (ts : List (Int × Int)) (now : Int) : List (Int × Int) := keptL ts (fun t => decide (t.1 ≤ now)) ts.length
theorem tick_c (h : Rc R W0 W c t ts now xs) (d : Int) (hn : (ts.length : Int) ≤ 1048576) (hd : 1 ≤ d) (h0 : 0 ≤ now) (hm : now + d ≤ 1099511627776) :
    Calls Tryz.prog 100 #[.pointer (some ⟨c, 0, none⟩), .int .i64 d] W fun e w' => ∃ r, e = .returned (.tuple #[r, .nilIface]) ∧ w'.ownsRow W.heap.size 3 1 r (due ts (now + d)).length ((due ts (now + d)).map (Value.int .i64)) ∧ Rc (R.row W0.heap.size 3 1 r (due ts (now + d)).length ((due ts (now + d)).map (Value.int .i64))) W0 w' c t (notDue ts (now + d)) (now + d) xs := by
  obtain ⟨cv, tv, h1, h2, h3, h4, h5, h6, h7⟩ := h
  refine (tick_some W c cv ts now d h1 hn hd h0 hm).mono ?_
  rintro e w' ⟨r, v', he, ho, hr, hk, hv, hf⟩
  have hup := row_up ho hr
  have H := Rc.step h3 h4 h5 h6 h7 (TcStep.ck h1 h2 hk hf (.inl hv))
  obtain ⟨cv2, tv2, g1, g2, g3, g4, g5, g6, g7⟩ := H
  have hs := h3.size
  refine ⟨r, he, hup, cv2, tv2, g1, g2, g3, g4, g5, fun k hk => ?_, g7, row_up ho fun g hg => Nat.le_trans hs (hr g hg), fun k hk e => ?_⟩
  · rcases hk with hk | hk
    · exact g6 k hk
    · refine ⟨row_lt ho hk, fun e => ?_⟩
      rcases e with (e | e) | (e | e)
      · exact row_ne ho g1.1 (by decide) (e ▸ hk)
      · exact rows_apart ho g1.2 (by decide) hk e
      · exact row_ne ho g2.1 (by decide) (e ▸ hk)
      · exact rows_apart ho g2.2 (by decide) hk e
  · have := hr k e
    have := (h6 k hk).1
    omega
end
end Go.Proofs.YtdfcfdcekdmcmaaGreat
namespace Go.Proofs.YtdfcfdcekdmcmaaGreat
open Go.RowKit
set_option linter.unusedVariables false
structure RmC (w : World) (r a c t : Nat) : Prop where
  c0 : w.cell? ⟨r, 0, none⟩ = some (.pointer (some ⟨a, 0, none⟩))
  c1 : w.cell? ⟨r, 1, none⟩ = some (.pointer (some ⟨c, 0, none⟩))
  c2 : w.cell? ⟨r, 2, none⟩ = some (.pointer (some ⟨t, 0, none⟩))
theorem RmC.of {w : World} {r a c t : Nat} {rv : Value} (h : w.heap[r]? = some (.cells #[.pointer (some ⟨a, 0, none⟩), .pointer (some ⟨c, 0, none⟩), .pointer (some ⟨t, 0, none⟩), rv] 109 (0, 0))) : RmC w r a c t :=
  ⟨(obj_cell h 0).trans rfl, (obj_cell h 1).trans rfl, (obj_cell h 2).trans rfl⟩
section
variable {R : Rest} {W0 W w : World} {r a c t : Nat} {ts : List (Int × Int)} {now : Int} {xs : List Ac}
theorem rarena (p : Nat) {w : World} (h : RmC w r a c t) : Calls Tryz.prog 33 #[.pointer (some ⟨r, 0, none⟩)] w fun e w' => e = .returned (.pointer (some ⟨a, 0, none⟩)) ∧ w = w' := by
  have c0 := h.c0
  clear h
  go_enter Tryz.func33, Tryz.ntmps33
  go_wp2
  go_ret
  exact ⟨rfl, rfl⟩
theorem rclock {w : World} (h : RmC w r a c t) : Calls Tryz.prog 47 #[.pointer (some ⟨r, 0, none⟩)] w fun e w' => e = .returned (.pointer (some ⟨c, 0, none⟩)) ∧ w = w' := by
  have c1 := h.c1
  clear h
  go_enter Tryz.func47, Tryz.ntmps47
  go_wp2
  go_ret
  exact ⟨rfl, rfl⟩
theorem ractors {w : World} (h : RmC w r a c t) : Calls Tryz.prog 14 #[.pointer (some ⟨r, 0, none⟩)] w fun e w' => e = .returned (.pointer (some ⟨t, 0, none⟩)) ∧ w = w' := by
  have c2 := h.c2
  clear h
  go_enter Tryz.func14, Tryz.ntmps14
  go_wp2
  go_ret
  exact ⟨rfl, rfl⟩
theorem rlive_ok (hr : ∀ w, R.inv w → RmC w r a c t) (h : Rc R W0 W c t ts now xs) (op : ByteArray) (i : Nat) (x : Ac) (hi : xs[i]? = some x) (hs : x.1 ≠ 2) :
    Calls Tryz.prog 70 #[.pointer (some ⟨r, 0, none⟩), .string op, .int .i64 i] W fun e w' => e = .returned .nilIface ∧ Below W.heap.size W w' := by
  have c2 := (hr _ h.inv).c2
  have hlt : i < xs.length := (List.getElem?_eq_some_iff.1 hi).1
  have d1 : decide ((i : Int) < 0) = false := decide_eq_false (by omega)
  have d2 : decide ((xs.length : Int) ≤ (i : Int)) = false := decide_eq_false (by omega)
  have d5 : decide (xs.length ≤ i) = false := decide_eq_false (by omega)
  have d3 : (x.1 == 2) = false := by simpa using hs
  have HT := Lib.hid (tstate_c h i x hi)
  have HL := Lib.hid (tlen_c h)
  obtain ⟨x1, x2⟩ := x
  simp only at d3 HT
  clear h hr hi hs hlt
  go_enter Tryz.func70, Tryz.ntmps70
  go_wp2_with (first
    | (go_at_call 15; refine HL.out.mono ?_; rintro e w1 ⟨rfl, rfl⟩)
    | (go_at_call 19; refine HT.out.mono ?_; rintro e w1 ⟨rfl, hb⟩; have HB := Lib.hid hb; clear hb))
  go_ret
  exact ⟨rfl, HB.out⟩
theorem rlive_bad (hr : ∀ w, R.inv w → RmC w r a c t) (h : Rc R W0 W c t ts now xs) (op : ByteArray) (id n : Int) (hw : Wr xs id n) :
    Calls Tryz.prog 70 #[.pointer (some ⟨r, 0, none⟩), .string op, .int .i64 id] W fun e w' => ∃ q, e = .returned (Flt q) ∧ Chain w' (Flt q) 1 n ∧ Below W.heap.size W w' := by
  have c2 := (hr _ h.inv).c2
  have HL := Lib.hid (tlen_c h)
  rcases hw with ⟨rfl, hw⟩ | ⟨rfl, i, x, rfl, hi, ha⟩
  · by_cases h1 : id < 0
    · have d1 : decide (id < 0) = true := decide_eq_true h1
      clear h hr hw
      go_enter Tryz.func70, Tryz.ntmps70
      go_wp2_with (first
        | (go_at_call 15; refine HL.out.mono ?_; rintro e w1 ⟨rfl, rfl⟩)
        | (go_at_call 75; refine (wrap_iface _ _ _ _).mono ?_; rintro e w' ⟨rfl, hw⟩; obtain ⟨hch, hbb⟩ := ferr hw; clear hw))
      go_ret
      exact ⟨_, rfl, hch, hbb⟩
    · have h2 := hw.resolve_left h1
      have d1 : decide (id < 0) = false := decide_eq_false h1
      have d2 : decide ((xs.length : Int) ≤ id) = true := decide_eq_true h2
      clear h hr hw
      go_enter Tryz.func70, Tryz.ntmps70
      go_wp2_with (first
        | (go_at_call 15; refine HL.out.mono ?_; rintro e w1 ⟨rfl, rfl⟩)
        | (go_at_call 75; refine (wrap_iface _ _ _ _).mono ?_; rintro e w' ⟨rfl, hw⟩; obtain ⟨hch, hbb⟩ := ferr hw; clear hw))
      go_ret
      exact ⟨_, rfl, hch, hbb⟩
  · have hlt : i < xs.length := (List.getElem?_eq_some_iff.1 hi).1
    have d1 : decide ((i : Int) < 0) = false := decide_eq_false (by omega)
    have d2 : decide ((xs.length : Int) ≤ (i : Int)) = false := decide_eq_false (by omega)
    have d5 : decide (xs.length ≤ i) = false := decide_eq_false (by omega)
    have HT := Lib.hid (tstate_c h i x hi)
    obtain ⟨x1, x2⟩ := x
    simp only at ha HT
    subst ha
    clear h hr hi hlt
    go_enter Tryz.func70, Tryz.ntmps70
    go_wp2_with (first
      | (go_at_call 15; refine HL.out.mono ?_; rintro e w1 ⟨rfl, rfl⟩)
      | (go_at_call 19; refine HT.out.mono ?_; rintro e w1 ⟨rfl, hb⟩; have HB := Lib.hid hb; clear hb)
      | (go_at_call 75; refine (wrap_iface _ _ _ _).mono ?_; rintro e w' ⟨rfl, hw⟩; obtain ⟨hch, hbb⟩ := ferr hw; clear hw))
    go_ret
    exact ⟨_, rfl, hch, bthen HB.out hbb⟩
theorem rwake_ok (hr : ∀ w, R.inv w → RmC w r a c t) (h : Rc R W0 W c t ts now xs) (i : Nat) (x : Ac) (hi : xs[i]? = some x) (hs : x.1 ≠ 2) (h0 : 0 ≤ x.2.2) (hm : x.2.2 < 4611686018427387904) (hn : (ts.length : Int) ≤ 1048576) :
    Calls Tryz.prog 42 #[.pointer (some ⟨r, 0, none⟩), .int .i64 i] W fun e w' => e = .returned (.tuple #[.bool (x.1 == 1), .nilIface]) ∧ Rc R W0 w' c t (notHis ts i) now (xs.set i (wakeS x)) := by
  have HR := Lib.hid hr
  have HW := Lib.hid (twake_c h i x hi hs h0 hm)
  have c2 := (hr _ h.inv).c2
  clear h hr hi hs
  go_enter Tryz.func42, Tryz.ntmps42
  go_wp2_with (first
    | (go_at_call 99; refine HW.out.mono ?_; rintro e w1 ⟨rfl, hh⟩; have H1 := Lib.hid hh; have c1 := (HR.out _ hh.inv).c1; clear hh)
    | (go_at_call 77; refine (drop_c H1.out i hn).mono ?_; rintro e w2 ⟨n, rfl, hh⟩; have H2 := Lib.hid hh; clear hh))
  go_ret2
  exact ⟨rfl, H2.out⟩
theorem rwake_bad (hr : ∀ w, R.inv w → RmC w r a c t) (h : Rc R W0 W c t ts now xs) (id n : Int) (hw : Wr xs id n) :
    Calls Tryz.prog 42 #[.pointer (some ⟨r, 0, none⟩), .int .i64 id] W fun e w' => ∃ q, e = .returned (.tuple #[.bool false, Flt q]) ∧ Chain w' (Flt q) 1 n ∧ Below W.heap.size W w' := by
  have HW := Lib.hid (twake_bad_c h id n hw)
  have c2 := (hr _ h.inv).c2
  clear h hr hw
  go_enter Tryz.func42, Tryz.ntmps42
  go_wp2_with (go_at_call 99; refine HW.out.mono ?_; rintro e w1 ⟨q, rfl, hch, hbb⟩)
  go_ret2
  exact ⟨_, rfl, hch, hbb⟩
theorem rhalt_ok (hr : ∀ w, R.inv w → RmC w r a c t) (h : Rc R W0 W c t ts now xs) (i : Nat) (x : Ac) (hi : xs[i]? = some x) (hs : x.1 ≠ 2) (hn : (ts.length : Int) ≤ 1048576) :
    Calls Tryz.prog 45 #[.pointer (some ⟨r, 0, none⟩), .int .i64 i] W fun e w' => e = .returned .nilIface ∧ Rc R W0 w' c t (notHis ts i) now (xs.set i (haltS x)) := by
  have HR := Lib.hid hr
  have HW := Lib.hid (thalt_c h i x hi hs)
  have c2 := (hr _ h.inv).c2
  clear h hr hi hs
  go_enter Tryz.func45, Tryz.ntmps45
  go_wp2_with (first
    | (go_at_call 102; refine HW.out.mono ?_; rintro e w1 ⟨rfl, hh⟩; have H1 := Lib.hid hh; have c1 := (HR.out _ hh.inv).c1; clear hh)
    | (go_at_call 77; refine (drop_c H1.out i hn).mono ?_; rintro e w2 ⟨n, rfl, hh⟩; have H2 := Lib.hid hh; clear hh))
  go_ret
  exact ⟨rfl, H2.out⟩
theorem rhalt_bad (hr : ∀ w, R.inv w → RmC w r a c t) (h : Rc R W0 W c t ts now xs) (id n : Int) (hw : Wr xs id n) :
    Calls Tryz.prog 45 #[.pointer (some ⟨r, 0, none⟩), .int .i64 id] W fun e w' => ∃ q, e = .returned (Flt q) ∧ Chain w' (Flt q) 1 n ∧ Below W.heap.size W w' := by
  have HW := Lib.hid (thalt_bad_c h id n hw)
  have c2 := (hr _ h.inv).c2
  clear h hr hw
  go_enter Tryz.func45, Tryz.ntmps45
  go_wp2_with (go_at_call 102; refine HW.out.mono ?_; rintro e w1 ⟨q, rfl, hch, hbb⟩)
  go_ret
  exact ⟨_, rfl, hch, hbb⟩
theorem rpark_range (who d : Int) (hd : d < 0 ∨ 1099511627776 < d) (W : World) :
    Calls Tryz.prog 22 #[.pointer (some ⟨r, 0, none⟩), .int .i64 who, .int .i64 d] W fun e w' => ∃ q, e = .returned (.tuple #[.bool false, Flt q]) ∧ Chain w' (Flt q) 1 5 ∧ Below W.heap.size W w' := by
  by_cases h1 : d < 0
  · clear hd
    have d1 : decide (d < 0) = true := decide_eq_true h1
    go_enter Tryz.func22, Tryz.ntmps22
    go_wp2_with (go_at_call 75; refine (wrap_iface _ _ _ _).mono ?_; rintro e w' ⟨rfl, hw⟩; obtain ⟨hch, hbb⟩ := ferr hw; clear hw)
    go_ret2
    exact ⟨_, rfl, hch, hbb⟩
  · have h2 := hd.resolve_left h1
    clear hd
    have d1 : decide (d < 0) = false := decide_eq_false h1
    have d2 : decide (1099511627776 < d) = true := decide_eq_true h2
    go_enter Tryz.func22, Tryz.ntmps22
    go_wp2_with (go_at_call 75; refine (wrap_iface _ _ _ _).mono ?_; rintro e w' ⟨rfl, hw⟩; obtain ⟨hch, hbb⟩ := ferr hw; clear hw)
    go_ret2
    exact ⟨_, rfl, hch, hbb⟩
theorem rpark_bad (hr : ∀ w, R.inv w → RmC w r a c t) (h : Rc R W0 W c t ts now xs) (id n d : Int) (hw : Wr xs id n) (h0 : 0 ≤ d) (h1 : d ≤ 1099511627776) :
    Calls Tryz.prog 22 #[.pointer (some ⟨r, 0, none⟩), .int .i64 id, .int .i64 d] W fun e w' => ∃ q, e = .returned (.tuple #[.bool false, Flt q]) ∧ Chain w' (Flt q) 1 n ∧ Below W.heap.size W w' := by
  have HW := Lib.hid (fun op => rlive_bad hr h op id n hw)
  have d1 : decide (d < 0) = false := decide_eq_false (by omega)
  have d2 : decide (1099511627776 < d) = false := decide_eq_false (by omega)
  clear h hr hw
  go_enter Tryz.func22, Tryz.ntmps22
  go_wp2_with (go_at_call 70; refine (HW.out _).mono ?_; rintro e w1 ⟨q, rfl, hch, hbb⟩)
  go_ret2
  exact ⟨_, rfl, hch, hbb⟩
theorem rpark_late (hr : ∀ w, R.inv w → RmC w r a c t) (h : Rc R W0 W c t ts now xs) (i : Nat) (x : Ac) (hi : xs[i]? = some x) (hs : x.1 ≠ 2) (d : Int) (h0 : 1 ≤ d) (h1 : d ≤ 1099511627776) (h2 : d ≤ now) :
    Calls Tryz.prog 22 #[.pointer (some ⟨r, 0, none⟩), .int .i64 i, .int .i64 d] W fun e w' => e = .returned (.tuple #[.bool false, .nilIface]) ∧ Below W.heap.size W w' := by
  have HL := Lib.hid (fun op => rlive_ok hr h op i x hi hs)
  have H := Lib.hid h
  have HR := Lib.hid hr
  have d1 : decide (d < 0) = false := decide_eq_false (by omega)
  have d2 : decide (1099511627776 < d) = false := decide_eq_false (by omega)
  have d3 : (d == 0) = false := by simp; omega
  have d4 : decide (d ≤ now) = true := decide_eq_true h2
  clear h hr hi hs
  go_enter Tryz.func22, Tryz.ntmps22
  go_wp2_with (first
    | (go_at_call 70; refine (HL.out _).mono ?_; rintro e w1 ⟨rfl, hb⟩; have HB := Lib.hid hb; have H1 := Lib.hid (H.out.keep hb); have c1 := (HR.out _ (H.out.keep hb).inv).c1; clear hb)
    | (go_at_call 48; refine (now_c H1.out).mono ?_; rintro e w2 ⟨rfl, rfl⟩))
  go_ret2
  exact ⟨rfl, HB.out⟩
theorem rpark_zero (hr : ∀ w, R.inv w → RmC w r a c t) (h : Rc R W0 W c t ts now xs) (i : Nat) (x : Ac) (hi : xs[i]? = some x) (hs : x.1 ≠ 2) :
    Calls Tryz.prog 22 #[.pointer (some ⟨r, 0, none⟩), .int .i64 i, .int .i64 0] W fun e w' => e = .returned (.tuple #[.bool (!x.2.1), .nilIface]) ∧ Rc R W0 w' c t ts now (xs.set i (parkS x)) := by
  have HL := Lib.hid (fun op => rlive_ok hr h op i x hi hs)
  have H := Lib.hid h
  have HR := Lib.hid hr
  have HI := Lib.hid hi
  have HS := Lib.hid hs
  clear h hr hi hs
  go_enter Tryz.func22, Tryz.ntmps22
  go_wp2_with (first
    | (go_at_call 70; refine (HL.out _).mono ?_; rintro e w1 ⟨rfl, hb⟩; have H1 := Lib.hid (H.out.keep hb); have c2 := (HR.out _ (H.out.keep hb).inv).c2; clear hb)
    | (go_at_call 76; refine (tpark_c H1.out i x HI.out HS.out).mono ?_; rintro e w2 ⟨rfl, hh⟩; have H2 := Lib.hid hh; clear hh))
  go_ret2
  exact ⟨rfl, H2.out⟩
theorem rpark_tok (hr : ∀ w, R.inv w → RmC w r a c t) (h : Rc R W0 W c t ts now xs) (i : Nat) (x1 x3 : Int) (hi : xs[i]? = some (x1, true, x3)) (hs : x1 ≠ 2) (d : Int) (h0 : 1 ≤ d) (h1 : d ≤ 1099511627776) (h2 : now < d) :
    Calls Tryz.prog 22 #[.pointer (some ⟨r, 0, none⟩), .int .i64 i, .int .i64 d] W fun e w' => e = .returned (.tuple #[.bool false, .nilIface]) ∧ Rc R W0 w' c t ts now (xs.set i (parkS (x1, true, x3))) := by
  have HL := Lib.hid (fun op => rlive_ok hr h op i _ hi hs)
  have H := Lib.hid h
  have HR := Lib.hid hr
  have HI := Lib.hid hi
  have HS := Lib.hid hs
  have d1 : decide (d < 0) = false := decide_eq_false (by omega)
  have d2 : decide (1099511627776 < d) = false := decide_eq_false (by omega)
  have d3 : (d == 0) = false := by simp; omega
  have d4 : decide (d ≤ now) = false := decide_eq_false (by omega)
  clear h hr hi hs
  go_enter Tryz.func22, Tryz.ntmps22
  go_wp2_with (first
    | (go_at_call 70; refine (HL.out _).mono ?_; rintro e w1 ⟨rfl, hb⟩; have H1 := Lib.hid (H.out.keep hb); have c1 := (HR.out _ (H.out.keep hb).inv).c1; have c2 := (HR.out _ (H.out.keep hb).inv).c2; clear hb)
    | (go_at_call 48; refine (now_c H1.out).mono ?_; rintro e w2 ⟨rfl, rfl⟩)
    | (go_at_call 21; refine (ttoken_c H1.out i _ HI.out).mono ?_; rintro e w3 ⟨rfl, hb⟩; have H3 := Lib.hid (H1.out.keep hb); have c2 := (HR.out _ (H1.out.keep hb).inv).c2; clear hb)
    | (go_at_call 76; refine (tpark_c H3.out i _ HI.out HS.out).mono ?_; rintro e w4 ⟨rfl, hh⟩; have H4 := Lib.hid hh; clear hh))
  go_ret2
  exact ⟨rfl, H4.out⟩
theorem rpark_set (hr : ∀ w, R.inv w → RmC w r a c t) (h : Rc R W0 W c t ts now xs) (i : Nat) (x1 x3 : Int) (hi : xs[i]? = some (x1, false, x3)) (hs : x1 ≠ 2) (d : Int) (h0 : 1 ≤ d) (h1 : d ≤ 1099511627776) (h2 : now < d) (hnow : 0 ≤ now) (h64 : (i : Int) < 64) (hn : (ts.length : Int) ≤ 1048576) (hn2 : ((notHis ts i).length : Int) < 64) :
    Calls Tryz.prog 22 #[.pointer (some ⟨r, 0, none⟩), .int .i64 i, .int .i64 d] W fun e w' => e = .returned (.tuple #[.bool true, .nilIface]) ∧ Rc R W0 w' c t (ins (d, i) (notHis ts i)) now (xs.set i (1, false, x3)) := by
  have HL := Lib.hid (fun op => rlive_ok hr h op i _ hi hs)
  have H := Lib.hid h
  have HR := Lib.hid hr
  have HI := Lib.hid hi
  have HS := Lib.hid hs
  have HN := Lib.hid hn
  have HN2 := Lib.hid hn2
  have d1 : decide (d < 0) = false := decide_eq_false (by omega)
  have d2 : decide (1099511627776 < d) = false := decide_eq_false (by omega)
  have d3 : (d == 0) = false := by simp; omega
  have d4 : decide (d ≤ now) = false := decide_eq_false (by omega)
  clear h hr hi hs hn hn2
  go_enter Tryz.func22, Tryz.ntmps22
  go_wp2_with (first
    | (go_at_call 70; refine (HL.out _).mono ?_; rintro e w1 ⟨rfl, hb⟩; have H1 := Lib.hid (H.out.keep hb); have c1 := (HR.out _ (H.out.keep hb).inv).c1; have c2 := (HR.out _ (H.out.keep hb).inv).c2; clear hb)
    | (go_at_call 48; refine (now_c H1.out).mono ?_; rintro e w2 ⟨rfl, rfl⟩)
    | (go_at_call 21; refine (ttoken_c H1.out i _ HI.out).mono ?_; rintro e w3 ⟨rfl, hb⟩; have H3 := Lib.hid (H1.out.keep hb); have c1 := (HR.out _ (H1.out.keep hb).inv).c1; clear hb)
    | (go_at_call 77; refine (drop_c H3.out i HN.out).mono ?_; rintro e w4 ⟨n, rfl, hh⟩; have H4 := Lib.hid hh; have c1 := (HR.out _ hh.inv).c1; clear hh)
    | (go_at_call 78; refine (set_c H4.out d i HN2.out h2 hnow h1 (by omega) h64).mono ?_; rintro e w5 ⟨rfl, hh⟩; have H5 := Lib.hid hh; have c2 := (HR.out _ hh.inv).c2; clear hh)
    | (go_at_call 76; refine (tpark_c H5.out i _ HI.out HS.out).mono ?_; rintro e w6 ⟨rfl, hh⟩; have H6 := Lib.hid hh; clear hh))
  go_ret2
  exact ⟨rfl, H6.out⟩
end
end Go.Proofs.YtdfcfdcekdmcmaaGreat
namespace Go.Proofs.YtdfcfdcekdmcmaaGreat
open Go.RowKit
set_option linter.unusedVariables false
section
variable {R R' : Rest} {S : Nat → Prop} {W0 W w : World} {c t : Nat} {ts : List (Int × Int)} {now : Int} {xs : List Ac} {T U : TypeId} {z n p : Nat} {v v' : Value} {ys : List Value} {bx : Array Value}
theorem Rc.rowIs (h : Rc (R.row W0.heap.size T z v n ys) W0 W c t ts now xs) : W.ownsRow W0.heap.size T z v n ys := h.inv.2.1
theorem Rc.boxIs (h : Rc (R.box W0.heap.size p bx U) W0 W c t ts now xs) : W.heap[p]? = some (.cells bx U (0, 0)) := h.inv.2.1
theorem Rc.rowDrop (h : Rc (R.row W0.heap.size T z v n ys) W0 W c t ts now xs) : Rc R W0 W c t ts now xs := h.le (fun _ k => .inl k) h.inv.1
theorem Rc.boxDrop (h : Rc (R.box W0.heap.size p bx U) W0 W c t ts now xs) : Rc R W0 W c t ts now xs := h.le (fun _ k => .inl k) h.inv.1
theorem Rc.nil (h : Rc R W0 W c t ts now xs) (T : TypeId) (z : Nat) : Rc (R.row W0.heap.size T z (.slice none 0 0) 0 []) W0 W c t ts now xs := by
  refine h.le (fun g hg => ?_) ⟨h.inv, World.ownsRow_nil _ _ _ _, fun k _ e => by simp [Value.ownBlock] at e⟩
  rcases hg with hg | hg
  · exact hg
  · simp [Value.ownBlock] at hg
theorem Rc.app (h : Rc (R.row W0.heap.size T z v n ys) W0 W c t ts now xs) {n' : Nat} {zs : List Value} (hown : w.ownsRow 0 T z v' n' zs) (hf : Frm (fun k => v.ownBlock = some k) W w) (hv : v'.ownBlock = v.ownBlock ∨ ∀ g, v'.ownBlock = some g → W.heap.size ≤ g) :
    Rc (R.row W0.heap.size T z v' n' zs) W0 w c t ts now xs := by
  have h0 := h.below.size
  have hr := h.inv.2.1
  have hlow : ∀ g, v'.ownBlock = some g → W0.heap.size ≤ g := fun g hg => by
    rcases hv with hv | hv
    · exact (hr.lt g (hv ▸ hg)).1
    · have := hv g hg
      omega
  refine h.turn2 hf (fun g hg => ⟨(hr.lt g hg).1, .inr hg⟩) (fun g hg => ?_) ⟨R.ok _ _ h.inv.1 fun k hk => hf.block k (h.prot_lt (.inl hk)) (h.inv.2.2 k hk), row_up hown hlow, fun k hk e => ?_⟩
  · rcases hg with hg | hg
    · exact .inl (.inl hg)
    · rcases hv with hv | hv
      · exact .inl (.inr (hv ▸ hg))
      · exact .inr ⟨hv g hg, (hown.lt g hg).2⟩
  · rcases hv with hv | hv
    · exact h.inv.2.2 k hk (hv ▸ e)
    · have := hv k e
      have := h.prot_lt (k := k) (.inl hk)
      omega
theorem Rc.boxTurn {bx' : Array Value} (h : Rc (R.box W0.heap.size p bx U) W0 W c t ts now xs) (hf : Frm (fun k => k = p) W w) (hb : w.heap[p]? = some (.cells bx' U (0, 0))) : Rc (R.box W0.heap.size p bx' U) W0 w c t ts now xs := by
  have hi := h.inv
  refine h.turn2 hf (fun k hk => ?_) (fun g hg => .inl hg) ⟨R.ok _ _ hi.1 fun k hk => hf.block k (h.prot_lt (.inl hk)) fun e => hi.2.2.1 (e ▸ hk), hb, hi.2.2⟩
  subst hk
  exact ⟨hi.2.2.2, .inr rfl⟩
theorem Rc.boxSet (h : Rc (R.box W0.heap.size p bx U) W0 W c t ts now xs) (i : Nat) (u : Value) : Rc (R.box W0.heap.size p (bx.setIfInBounds i u) U) W0 (W.setCell ⟨p, i, none⟩ u) c t ts now xs :=
  h.boxTurn ((Frm.refl (fun k => k = p) W).setCell (p := ⟨p, i, none⟩) rfl u) (obj_setCell _ h.boxIs)
theorem Rc.boxOut (h : Rc ((R.box W0.heap.size p bx U).row W0.heap.size T z v n ys) W0 W c t ts now xs) : Rc ((R.row W0.heap.size T z v n ys).box W0.heap.size p bx U) W0 W c t ts now xs := by
  obtain ⟨⟨i1, i2, i3, i4⟩, i5, i6⟩ := h.inv
  refine h.le (fun g hg => ?_) ⟨⟨i1, i5, fun k hk => i6 k (.inl hk)⟩, i2, fun e => ?_, i4⟩
  · rcases hg with (hg | hg) | hg
    · exact .inl (.inl hg)
    · exact .inr hg
    · exact .inl (.inr hg)
  · rcases e with e | e
    · exact i3 e
    · exact i6 p (.inr rfl) e
theorem Rc.boxIn (h : Rc ((R.row W0.heap.size T z v n ys).box W0.heap.size p bx U) W0 W c t ts now xs) : Rc ((R.box W0.heap.size p bx U).row W0.heap.size T z v n ys) W0 W c t ts now xs := by
  obtain ⟨⟨i1, i5, i6⟩, i2, i3, i4⟩ := h.inv
  refine h.le (fun g hg => ?_) ⟨⟨i1, i2, fun e => i3 (.inl e), i4⟩, i5, fun k hk => ?_⟩
  · rcases hg with (hg | hg) | hg
    · exact .inl (.inl hg)
    · exact .inr hg
    · exact .inl (.inr hg)
  · rcases hk with hk | rfl
    · exact i6 k hk
    · exact fun e => i3 (.inr e)
end
def wk (p : List (Int × Int) × List Ac) (who : Int) : List (Int × Int) × List Ac :=
  match p.2[who.toNat]? with
  | some a => if 0 ≤ who ∧ a.1 ≠ 2 then (notHis p.1 who, p.2.set who.toNat (wakeS a)) else p
  | none => p
def woke (p : List (Int × Int) × List Ac) (who : Int) : Nat :=
  match p.2[who.toNat]? with
  | some a => if 0 ≤ who ∧ a.1 = 1 then 1 else 0
  | none => 0
theorem wk_yes {ts : List (Int × Int)} {xs : List Ac} {i : Nat} {a : Ac} (h : xs[i]? = some a) (hs : a.1 ≠ 2) : wk (ts, xs) (i : Int) = (notHis ts i, xs.set i (wakeS a)) ∧ woke (ts, xs) (i : Int) = if a.1 = 1 then 1 else 0 := by
  unfold wk woke
  simp [h, hs]
theorem wk_no {ts : List (Int × Int)} {xs : List Ac} {id n : Int} (h : Wr xs id n) : wk (ts, xs) id = (ts, xs) ∧ woke (ts, xs) id = 0 := by
  unfold wk woke
  rcases h with ⟨_, h | h⟩ | ⟨_, i, a, rfl, hi, ha⟩
  · have : ¬ 0 ≤ id := by omega
    cases xs[id.toNat]? <;> simp [this]
  · have : xs[id.toNat]? = none := List.getElem?_eq_none (by omega)
    simp [this]
  · simp [hi, ha]
theorem notHis_le (ts : List (Int × Int)) (who : Int) : (notHis ts who).length ≤ ts.length := by
  unfold notHis keptL
  rw [List.take_length]
  exact List.length_filter_le _ _
def Wb (B : Int) (xs : List Ac) : Prop := ∀ a ∈ xs, 0 ≤ a.2.2 ∧ a.2.2 ≤ B
theorem Wb.up {B C : Int} {xs : List Ac} (h : Wb B xs) (hl : B ≤ C) : Wb C xs := fun a ha => ⟨(h a ha).1, by have := (h a ha).2; omega⟩
theorem Wb.set {B : Int} {xs : List Ac} (h : Wb B xs) {i : Nat} {a : Ac} (h0 : 0 ≤ a.2.2) (h1 : a.2.2 ≤ B) : Wb B (xs.set i a) := by
  intro x hx
  rcases List.mem_or_eq_of_mem_set hx with hx | rfl
  · exact h x hx
  · exact ⟨h0, h1⟩
theorem wakeS_wakes (a : Ac) : (wakeS a).2.2 = a.2.2 + 1 := by unfold wakeS; split <;> rfl
theorem wk_bound {B : Int} {p : List (Int × Int) × List Ac} (h : Wb B p.2) (who : Int) : Wb (B + 1) (wk p who).2 ∧ (wk p who).2.length = p.2.length ∧ (wk p who).1.length ≤ p.1.length := by
  unfold wk
  cases ha : p.2[who.toNat]? with
  | none => exact ⟨h.up (by omega), rfl, Nat.le_refl _⟩
  | some a =>
    have hm := h a (List.mem_of_getElem? ha)
    by_cases hc : 0 ≤ who ∧ a.1 ≠ 2
    · simp only [if_pos hc]
      refine ⟨(h.up (by omega)).set ?_ ?_, by simp, notHis_le _ _⟩
      · rw [wakeS_wakes]; omega
      · rw [wakeS_wakes]; omega
    · simp only [if_neg hc]
      exact ⟨h.up (by omega), trivial, Nat.le_refl _⟩
def wks (p : List (Int × Int) × List Ac) (l : List Int) (k : Nat) : (List (Int × Int) × List Ac) × Nat := (l.take k).foldl (fun s who => (wk s.1 who, s.2 + woke s.1 who)) (p, 0)
theorem wks_zero (p : List (Int × Int) × List Ac) (l : List Int) : wks p l 0 = (p, 0) := by simp [wks]
theorem wks_next {p : List (Int × Int) × List Ac} {l : List Int} {k : Nat} (hk : k < l.length) : wks p l (k + 1) = (wk (wks p l k).1 (l.getD k 0), (wks p l k).2 + woke (wks p l k).1 (l.getD k 0)) := by
  unfold wks
  have : l.take (k + 1) = l.take k ++ [l.getD k 0] := by
    rw [List.take_add_one, List.getElem?_eq_getElem hk]
    simp [List.getD, hk]
  rw [this, List.foldl_append]
  rfl
theorem wks_bound {B : Int} {p : List (Int × Int) × List Ac} (h : Wb B p.2) (l : List Int) (k : Nat) (hk : k ≤ l.length) : Wb (B + k) (wks p l k).1.2 ∧ (wks p l k).1.2.length = p.2.length ∧ (wks p l k).1.1.length ≤ p.1.length ∧ (wks p l k).2 ≤ k := by
  induction k with
  | zero => rw [wks_zero]; exact ⟨by simpa using h, rfl, Nat.le_refl _, Nat.le_refl _⟩
  | succ k ih =>
    obtain ⟨h1, h2, h3, h4⟩ := ih (by omega)
    rw [wks_next (by omega)]
    obtain ⟨g1, g2, g3⟩ := wk_bound h1 (l.getD k 0)
    refine ⟨by rw [show B + ((k + 1 : Nat) : Int) = B + k + 1 by omega]; exact g1, g2.trans h2, Nat.le_trans g3 h3, ?_⟩
    have : woke (wks p l k).1 (l.getD k 0) ≤ 1 := by
      unfold woke
      split
      · split <;> omega
      · omega
    show (wks p l k).2 + woke (wks p l k).1 (l.getD k 0) ≤ k + 1
    omega
section
variable {R : Rest} {W0 W w : World} {r a c t : Nat} {ts : List (Int × Int)} {now : Int} {xs : List Ac}
theorem rwake_any {p : List (Int × Int) × List Ac} (hr : ∀ w, R.inv w → RmC w r a c t) (h : Rc R W0 W c t p.1 now p.2) {B : Int} (hb : Wb B p.2) (hB : B < 4611686018427387904) (hn : (p.1.length : Int) ≤ 1048576) (who : Int) :
    Calls Tryz.prog 42 #[.pointer (some ⟨r, 0, none⟩), .int .i64 who] W fun e w' => Rc R W0 w' c t (wk p who).1 now (wk p who).2 ∧ ((e = .returned (.tuple #[.bool true, .nilIface]) ∧ woke p who = 1) ∨ (e = .returned (.tuple #[.bool false, .nilIface]) ∧ woke p who = 0) ∨ (∃ q, e = .returned (.tuple #[.bool false, Flt q]) ∧ woke p who = 0)) := by
  obtain ⟨ts, xs⟩ := p
  rcases wr_or xs who with ⟨n, _, hw⟩ | ⟨i, x, rfl, hi, hs⟩
  · obtain ⟨e1, e2⟩ := wk_no (ts := ts) hw
    rw [e1, e2]
    refine (rwake_bad hr h who n hw).mono ?_
    rintro e w' ⟨q, rfl, _, hbb⟩
    exact ⟨h.keep hbb, .inr (.inr ⟨q, rfl, rfl⟩)⟩
  · obtain ⟨e1, e2⟩ := wk_yes (ts := ts) hi hs
    have hm := hb x (List.mem_of_getElem? hi)
    rw [e1, e2]
    refine (rwake_ok hr h i x hi hs hm.1 (by omega) hn).mono ?_
    rintro e w' ⟨rfl, hh⟩
    refine ⟨hh, ?_⟩
    by_cases h1 : x.1 = 1
    · exact .inl ⟨by simp [h1], by simp [h1]⟩
    · exact .inr (.inl ⟨by simp [h1], by simp [h1]⟩)
theorem rwake_val {p : List (Int × Int) × List Ac} (hr : ∀ w, R.inv w → RmC w r a c t) (h : Rc R W0 W c t p.1 now p.2) {B : Int} (hb : Wb B p.2) (hB : B < 4611686018427387904) (hn : (p.1.length : Int) ≤ 1048576) (who : Int) :
    Calls Tryz.prog 42 #[.pointer (some ⟨r, 0, none⟩), .int .i64 who] W fun e w' => ∃ v, e = .returned v ∧ Rc R W0 w' c t (wk p who).1 now (wk p who).2 := by
  refine (rwake_any hr h hb hB hn who).mono ?_
  rintro e w' ⟨hh, ⟨rfl, _⟩ | ⟨rfl, _⟩ | ⟨q, rfl, _⟩⟩ <;> exact ⟨_, rfl, hh⟩
end
end Go.Proofs.YtdfcfdcekdmcmaaGreat
namespace Go.Proofs.YtdfcfdcekdmcmaaGreat
open Go.RowKit
set_option linter.unusedVariables false
theorem due_le (ts : List (Int × Int)) (now : Int) : (due ts now).length ≤ ts.length := by
  unfold due whoL
  rw [List.length_map, List.take_length]
  exact List.length_filter_le _ _
theorem notDue_le (ts : List (Int × Int)) (now : Int) : (notDue ts now).length ≤ ts.length := by
  unfold notDue keptL
  rw [List.take_length]
  exact List.length_filter_le _ _
section
variable {R : Rest} {W0 W w : World} {r a c t : Nat} {ts : List (Int × Int)} {now : Int} {xs : List Ac}
set_option maxHeartbeats 1000000 in
theorem rtick_ok (hr : ∀ w, R.inv w → RmC w r a c t) (h : Rc R W0 W c t ts now xs) {B : Int} (hb : Wb B xs) (hB : B + ts.length < 4611686018427387904) (hn : (ts.length : Int) ≤ 1048576) (d : Int) (hd : 1 ≤ d) (h0 : 0 ≤ now) (hm : now + d ≤ 1099511627776) :
    Calls Tryz.prog 43 #[.pointer (some ⟨r, 0, none⟩), .int .i64 d] W fun e w' => ∃ p cap, e = .returned (.tuple #[.slice p (due ts (now + d)).length cap, .nilIface]) ∧ Rc (R.row W0.heap.size 3 1 (.slice p (due ts (now + d)).length cap) (due ts (now + d)).length ((due ts (now + d)).map (Value.int .i64))) W0 w' c t (wks (notDue ts (now + d), xs) (due ts (now + d)) (due ts (now + d)).length).1.1 (now + d) (wks (notDue ts (now + d), xs) (due ts (now + d)) (due ts (now + d)).length).1.2 := by
  have HT := Lib.hid (tick_c h d hn hd h0 hm)
  have c1 := (hr _ h.inv).c1
  have HR : Hid (∀ (v : Value) (n : Nat) (ys : List Value) (w : World), (R.row W0.heap.size 3 1 v n ys).inv w → RmC w r a c t) := Lib.hid fun v n ys w hi => hr w hi.1
  have HB := Lib.hid hb
  have hl1 := due_le ts (now + d)
  have hl2 := notDue_le ts (now + d)
  clear h hr hb
  generalize due ts (now + d) = l at *
  generalize notDue ts (now + d) = ts2 at *
  generalize hnn : now + d = now2 at *
  have hl3 : (ts2.length : Int) ≤ 1048576 := by omega
  have hll : (l.length : Int) ≤ 1048576 := by omega
  have hB2 : B + l.length < 4611686018427387904 := by omega
  have HL3 := Lib.hid hl3
  have HB2 := Lib.hid hB2
  clear hl1 hl2 hn hd h0 hm hnn hl3 hB2 hB
  go_enter Tryz.func43, Tryz.ntmps43
  go_wp2_with (go_at_call 100; refine HT.out.mono ?_; rintro e w1 ⟨v, rfl, ho, hh⟩; obtain ⟨p, cap, rfl, _⟩ := row_form ho; have H1 := Lib.hid hh; clear ho hh)
  go_loopw [29] (fun i wl => ∃ k : Nat, k ≤ l.length ∧ i = .int .i64 k ∧ Hid (Rc (R.row W0.heap.size 3 1 (.slice p l.length cap) l.length (l.map (Value.int .i64))) W0 wl c t (wks (ts2, xs) l k).1.1 now2 (wks (ts2, xs) l k).1.2)) (fun i _ => l.length - (intOf i).toNat)
  case atStart => exact ⟨0, by omega, rfl, by rw [wks_zero]; exact H1⟩
  case round =>
    obtain ⟨k, hk, rfl, HK⟩ := hrel
    by_cases hlt : k < l.length
    · obtain ⟨g, cap2, hsl, _⟩ := row_some HK.out.rowIs (by omega)
      obtain rfl : p = some ⟨g, 0, none⟩ := by simp at hsl; exact hsl.1
      have ck : wr.cell? ⟨g, k, none⟩ = some (.int .i64 (l.getD k 0)) := by
        rw [HK.out.rowIs.cellAt k (by omega)]
        simp [List.getD, hlt]
      have hbd := wks_bound HB.out (p := (ts2, xs)) l k hk
      have hl5 : ((wks (ts2, xs) l k).1.1.length : Int) ≤ 1048576 := by have h3 := hbd.2.2.1; have h4 := HL3.out; simp only at h3; omega
      have HW := Lib.hid (rwake_val (HR.out _ _ _) HK.out hbd.1 (by have := HB2.out; omega) hl5 (l.getD k 0))
      have HN : Hid (∀ w, Rc (R.row W0.heap.size 3 1 (.slice (some ⟨g, 0, none⟩) l.length cap) l.length (l.map (Value.int .i64))) W0 w c t (wk (wks (ts2, xs) l k).1 (l.getD k 0)).1 now2 (wk (wks (ts2, xs) l k).1 (l.getD k 0)).2 → Rc (R.row W0.heap.size 3 1 (.slice (some ⟨g, 0, none⟩) l.length cap) l.length (l.map (Value.int .i64))) W0 w c t (wks (ts2, xs) l (k + 1)).1.1 now2 (wks (ts2, xs) l (k + 1)).1.2) := Lib.hid fun w hh => by rw [wks_next hlt]; exact hh
      clear hsl hbd hl5
      generalize l.getD k 0 = z at *
      go_wp2_with (go_at_call 42; refine HW.out.mono ?_; rintro e w2 ⟨v, rfl, hh⟩; have H2 := Lib.hid (HN.out _ hh); clear hh)
      exact ⟨⟨k + 1, by omega, by go_num, H2⟩, by simp [intOf]; omega⟩
    · obtain rfl : k = l.length := by omega
      go_wp2
      go_ret2
      exact ⟨p, cap, rfl, HK.out⟩
end
theorem rfind_ok (op : ByteArray) {w : World} {r i g n cap rg : Nat} (c3 : w.cell? ⟨r, 3, none⟩ = some (.slice (some ⟨rg, 0, none⟩) n cap)) (hi : i < n) (hn : n ≤ 4611686018427387904) (cg : w.cell? ⟨rg, i, none⟩ = some (.pointer (some ⟨g, 0, none⟩))) :
    Calls Tryz.prog 69 #[.pointer (some ⟨r, 0, none⟩), .string op, .int .i64 i] w fun e w' => e = .returned (.tuple #[.pointer (some ⟨g, 0, none⟩), .nilIface]) ∧ w = w' := by
  have d1 : decide ((i : Int) < 0) = false := decide_eq_false (by omega)
  have d2 : decide ((n : Int) ≤ (i : Int)) = false := decide_eq_false (by omega)
  go_enter Tryz.func69, Tryz.ntmps69
  go_wp2
  go_ret2
  exact ⟨rfl, rfl⟩
theorem rcontains {w : World} {B : Nat} {v : Value} {ws : List Int} (h : w.ownsRow B 3 1 v ws.length (ws.map (Value.int .i64))) (x : Int) (hl : ws.length ≤ 1048576) :
    Calls Tryz.prog 71 #[v, .int .i64 x] w fun e w' => e = .returned (.bool (ws.contains x)) ∧ w = w' := by
  rcases h.2 with ⟨rfl, h0⟩ | ⟨g, cap, cur, rfl, _, _, _⟩
  · obtain rfl : ws = [] := List.eq_nil_of_length_eq_zero h0
    exact (Tryz.slices_Contains_int_empty none 0 x w).mono fun e w' ⟨h1, h2⟩ => ⟨h1, h2.symm⟩
  · have := Tryz.slices_Contains_int g 0 ws.length cap ws x w (Nat.le_refl _) (by omega) (fun j hj => by
      rw [Nat.zero_add, h.cellAt j (by omega)]
      simp [List.getD, hj])
    rw [List.take_length] at this
    exact this.mono fun e w' ⟨h1, h2⟩ => ⟨h1, h2.symm⟩
section
variable {R : Rest} {W0 W w : World} {r a c t g : Nat} {ts : List (Int × Int)} {now : Int} {xs : List Ac} {sl one many wv : Value} {ws : List Int}
abbrev RnR (R : Rest) (B g : Nat) (sl one many wv : Value) (ws : List Int) : Rest := (R.row B 3 1 wv ws.length (ws.map (Value.int .i64))).box B g #[sl, one, many, wv] 149
theorem enlist_end {w1 w3 : World} {wv' : Value} {o : Obj} {k : Int} (h : Rc (RnR R W0.heap.size g sl one many wv ws) W0 w1 c t ts now xs) (hown : w3.ownsRow 0 3 1 wv' (ws.length + 1) (ws.map (Value.int .i64) ++ [.int .i64 k])) (hf : Frm (fun q => wv.ownBlock = some q) (w1.alloc o) w3) (hv : wv'.ownBlock = wv.ownBlock ∨ ∀ q, wv'.ownBlock = some q → (w1.alloc o).heap.size ≤ q) :
    w3.heap[g]? = some (.cells #[sl, one, many, wv] 149 (0, 0)) ∧ Rc (RnR R W0.heap.size g sl one many wv' (ws ++ [k])) W0 (w3.setCell ⟨g, 3, none⟩ wv') c t ts now xs := by
  have h3 := (((h.keep (balloc (Below.refl _ _) o)).boxIn).app hown hf hv).boxOut
  refine ⟨h3.boxIs, ?_⟩
  have h4 := h3.boxSet 3 wv'
  rw [show (ws.length + 1) = (ws ++ [k]).length by simp, show ws.map (Value.int .i64) ++ [.int .i64 k] = (ws ++ [k]).map (Value.int .i64) by simp] at h4
  exact h4
set_option maxHeartbeats 1000000 in
set_option maxRecDepth 100000 in
theorem renlist_new {i0 : Nat} (hr : ∀ w, R.inv w → RmC w r a c t) (hfd : ∀ (w : World) (op : ByteArray), R.inv w → Calls Tryz.prog 69 #[.pointer (some ⟨r, 0, none⟩), .string op, .int .i64 i0] w fun e w' => e = .returned (.tuple #[.pointer (some ⟨g, 0, none⟩), .nilIface]) ∧ w = w')
    (h : Rc (RnR R W0.heap.size g sl one many wv ws) W0 W c t ts now xs) (i : Nat) (x : Ac) (hi : xs[i]? = some x) (hs : x.1 ≠ 2) (hin : ws.contains (i : Int) = false) (hl : ws.length ≤ 1000000) :
    Calls Tryz.prog 17 #[.pointer (some ⟨r, 0, none⟩), .int .i64 i0, .int .i64 i] W fun e w' => e = .returned .nilIface ∧ ∃ wv', Rc (RnR R W0.heap.size g sl one many wv' (ws ++ [(i : Int)])) W0 w' c t ts now xs := by
  obtain ⟨i1, hi1, hy0, hy1, hy2⟩ := info_parts infoAI
  have HF := Lib.hid (fun op => hfd W op h.inv.1.1)
  have HLV := Lib.hid (fun op => rlive_ok (R := RnR R W0.heap.size g sl one many wv ws) (fun w hi => hr w hi.1.1) h op i x hi hs)
  obtain ⟨p, cap, rfl, _⟩ := row_form h.inv.1.2.1
  have H := Lib.hid h
  have HL := Lib.hid hl
  have HIN := Lib.hid hin
  clear h hr hfd hi hs hin hl
  go_enter Tryz.func17, Tryz.ntmps17
  go_wp2_with (first
    | (go_at_call 69; refine (HF.out _).mono ?_; rintro e w1 ⟨rfl, rfl⟩)
    | (go_at_call 70; refine (HLV.out _).mono ?_; rintro e w1 ⟨rfl, hb⟩; have H1 := Lib.hid (H.out.keep hb); have k3 : w1.cell? ⟨g, 3, none⟩ = some (.slice p ws.length cap) := (obj_cell (H.out.keep hb).boxIs 3).trans rfl; have kf := obj_free (H.out.keep hb).boxIs 3; clear hb)
    | (go_at_call 71; refine (rcontains H1.out.inv.1.2.1 i (by have := HL.out; omega)).mono ?_; rintro e w2 ⟨rfl, rfl⟩; rw [HIN.out])
    | (at_builtin; refine wpList_append_row rfl _ _ 40 rfl 3 i1 (.int .i64 0) 1 8 Tryz.underlying40 hi1 hy0 hy1 hy2 rfl (by decide) (.slice p ws.length cap) ws.length _ rfl ((row_base H1.out.inv.1.2.1 (Nat.zero_le _)).alloc _) ⟨w1.heap.size, 0, none⟩ 1 1 [.int .i64 i] rfl rfl (one_cellA _ _ _) (fun x hx => by simp at hx; subst hx; rfl) (by have := HL.out; unfold maxLen; omega) (by have := HL.out; omega) ?_; intro v' w3 hown3 hf3 hv3; obtain ⟨hob, hhe⟩ := enlist_end H1.out hown3 hf3 hv3; have hff := obj_free hob 3; have HE := Lib.hid hhe; obtain ⟨p', c', rfl, hc'⟩ := row_form hown3; have k4 : w3.cell? ⟨g, 3, none⟩ = some (.slice p ws.length cap) := (obj_cell hob 3).trans rfl; clear hob hhe hown3 hf3 hv3 hc'))
  go_ret
  exact ⟨rfl, _, HE.out⟩
theorem signal_end (h : Rc (RnR R W0.heap.size g sl one many wv ws) W0 W c t ts now xs) : Rc (R.box W0.heap.size g #[sl, one, many, .slice none 0 0] 149) W0 (W.setCell ⟨g, 3, none⟩ (.slice none 0 0)) c t ts now xs :=
  (h.boxSet 3 (.slice none 0 0)).boxIn.rowDrop
set_option maxHeartbeats 1000000 in
set_option maxRecDepth 100000 in
theorem rsignal_ok {i0 : Nat} (hr : ∀ w, R.inv w → RmC w r a c t) (hfd : ∀ (w : World) (op : ByteArray), R.inv w → Calls Tryz.prog 69 #[.pointer (some ⟨r, 0, none⟩), .string op, .int .i64 i0] w fun e w' => e = .returned (.tuple #[.pointer (some ⟨g, 0, none⟩), .nilIface]) ∧ w = w')
    (h : Rc (RnR R W0.heap.size g sl one many wv ws) W0 W c t ts now xs) {B : Int} (hb : Wb B xs) (hB : B + ws.length < 4611686018427387904) (hn : (ts.length : Int) ≤ 1048576) (hl : (ws.length : Int) ≤ 1048576) :
    Calls Tryz.prog 20 #[.pointer (some ⟨r, 0, none⟩), .int .i64 i0] W fun e w' => e = .returned (.tuple #[.int .i64 (wks (ts, xs) ws ws.length).2, .nilIface]) ∧ Rc (R.box W0.heap.size g #[sl, one, many, .slice none 0 0] 149) W0 w' c t (wks (ts, xs) ws ws.length).1.1 now (wks (ts, xs) ws ws.length).1.2 := by
  have HF := Lib.hid (fun op => hfd W op h.inv.1.1)
  have HR : Hid (∀ w, (RnR R W0.heap.size g sl one many wv ws).inv w → RmC w r a c t) := Lib.hid fun w hi => hr w hi.1.1
  obtain ⟨p, cap, rfl, _⟩ := row_form h.inv.1.2.1
  have k3 : W.cell? ⟨g, 3, none⟩ = some (.slice p ws.length cap) := (obj_cell h.boxIs 3).trans rfl
  have H := Lib.hid h
  have HN := Lib.hid hn
  have HB := Lib.hid hb
  have HB2 := Lib.hid hB
  clear h hr hfd hn hb hB
  go_enter Tryz.func20, Tryz.ntmps20
  go_wp2_with (go_at_call 69; refine (HF.out _).mono ?_; rintro e w1 ⟨rfl, rfl⟩)
  go_loopw [8, 27] (fun m i wl => ∃ k : Nat, k ≤ ws.length ∧ m = .int .i64 (wks (ts, xs) ws k).2 ∧ i = .int .i64 k ∧ Hid (Rc (RnR R W0.heap.size g sl one many (.slice p ws.length cap) ws) W0 wl c t (wks (ts, xs) ws k).1.1 now (wks (ts, xs) ws k).1.2)) (fun _ i _ => ws.length - (intOf i).toNat)
  case atStart => exact ⟨0, by omega, by rw [wks_zero]; rfl, rfl, by rw [wks_zero]; exact H⟩
  case round =>
    obtain ⟨k, hk, rfl, rfl, HK⟩ := hrel
    by_cases hlt : k < ws.length
    · obtain ⟨rg, cap2, hsl, _⟩ := row_some HK.out.inv.1.2.1 (by omega)
      obtain rfl : p = some ⟨rg, 0, none⟩ := by simp at hsl; exact hsl.1
      have ck : wr.cell? ⟨rg, k, none⟩ = some (.int .i64 (ws.getD k 0)) := by
        rw [HK.out.inv.1.2.1.cellAt k (by omega)]
        simp [List.getD, hlt]
      have hbd := wks_bound HB.out (p := (ts, xs)) ws k hk
      have hl5 : ((wks (ts, xs) ws k).1.1.length : Int) ≤ 1048576 := by have h3 := hbd.2.2.1; have h4 := HN.out; simp only at h3; omega
      have hm : (wks (ts, xs) ws k).2 ≤ k := hbd.2.2.2
      have HW := Lib.hid (rwake_any HR.out HK.out hbd.1 (by have := HB2.out; omega) hl5 (ws.getD k 0))
      have HX : Hid (∀ w, Rc (RnR R W0.heap.size g sl one many (.slice (some ⟨rg, 0, none⟩) ws.length cap) ws) W0 w c t (wk (wks (ts, xs) ws k).1 (ws.getD k 0)).1 now (wk (wks (ts, xs) ws k).1 (ws.getD k 0)).2 → Rc (RnR R W0.heap.size g sl one many (.slice (some ⟨rg, 0, none⟩) ws.length cap) ws) W0 w c t (wks (ts, xs) ws (k + 1)).1.1 now (wks (ts, xs) ws (k + 1)).1.2) := Lib.hid fun w hh => by rw [wks_next hlt]; exact hh
      have HM : Hid ((wks (ts, xs) ws (k + 1)).2 = (wks (ts, xs) ws k).2 + woke (wks (ts, xs) ws k).1 (ws.getD k 0)) := Lib.hid (by rw [wks_next hlt])
      clear hsl hbd hl5
      generalize (wks (ts, xs) ws k).2 = m at *
      generalize woke (wks (ts, xs) ws k).1 (ws.getD k 0) = d at *
      generalize ws.getD k 0 = z at *
      go_wp2_with fail
      refine HW.out.mono ?_
      rintro e w2 ⟨hh, ⟨rfl, hd⟩ | ⟨rfl, hd⟩ | ⟨q, rfl, hd⟩⟩
      · have H2 := Lib.hid (HX.out _ hh)
        clear hh
        go_wp2
        exact ⟨⟨k + 1, by omega, by rw [HM.out, hd]; go_num, by go_num, H2⟩, by simp [intOf]; omega⟩
      · have H2 := Lib.hid (HX.out _ hh)
        clear hh
        go_wp2
        exact ⟨⟨k + 1, by omega, by rw [HM.out, hd]; rfl, by go_num, H2⟩, by simp [intOf]; omega⟩
      · have H2 := Lib.hid (HX.out _ hh)
        clear hh
        go_wp2
        exact ⟨⟨k + 1, by omega, by rw [HM.out, hd]; rfl, by go_num, H2⟩, by simp [intOf]; omega⟩
    · obtain rfl : k = ws.length := by omega
      have k3 : wr.cell? ⟨g, 3, none⟩ = some (.slice p ws.length cap) := (obj_cell HK.out.boxIs 3).trans rfl
      have kf := obj_free HK.out.boxIs 3
      go_wp2
      go_ret2
      exact ⟨rfl, signal_end HK.out⟩
end
end Go.Proofs.YtdfcfdcekdmcmaaGreat
