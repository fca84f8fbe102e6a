/-
  The program's table and the document's, side by side: their state, and what a step of each leaves. Conditions: both are one's own.
-/
import Derived.Test.YtpnglcafjofmnaaLegal
import Derived.Test.YtpnglcafjofmnaaActor4
import Derived.Test.YtpnglcafjofmnaaLater
namespace Go.Proofs.Ytpnglcafjofmnaa
open Go.RowKit

/-- Both tables: the program's has xs, the document's ys. -/
def Md (W w : World) (v v1 v2 v3 : Value) (xs ys : List Ac) : Prop :=
  Below W.heap.size W w ∧ Tb w W.heap.size v xs ∧ Rt w (W.heap.size + 1) v1 v2 v3 ys ∧
    (∀ g, v.ownBlock = some g → W.heap.size ≤ g) ∧ (∀ g, v1.ownBlock = some g → W.heap.size ≤ g) ∧ (∀ g, v2.ownBlock = some g → W.heap.size ≤ g) ∧ (∀ g, v3.ownBlock = some g → W.heap.size ≤ g)
/-- The bounds of what an actor has. -/
def Bd (k : Nat) (xs : List Ac) : Prop := (xs.length : Int) ≤ 64 ∧ ∀ a ∈ xs, 0 ≤ a.2.2 ∧ a.2.2 ≤ k
/-- The loop's state. -/
def AP (W w : World) (k : Nat) : Prop := ∃ v v1 v2 v3 xs, Md W w v v1 v2 v3 xs xs ∧ Bd k xs

theorem own_ge {W w : World} {v v' : Value} (hs : W.heap.size ≤ w.heap.size) (h : ∀ g, v.ownBlock = some g → W.heap.size ≤ g) (hv : v'.ownBlock = v.ownBlock ∨ ∀ g, v'.ownBlock = some g → w.heap.size ≤ g) : ∀ g, v'.ownBlock = some g → W.heap.size ≤ g := by
  intro g hg
  rcases hv with hv | hv
  · exact h g (by rw [← hv]; exact hg)
  · exact Nat.le_trans hs (hv g hg)

theorem Md.later {W w w' : World} {v v1 v2 v3 : Value} {xs ys : List Ac} (h : Md W w v v1 v2 v3 xs ys) (hb : Below w.heap.size w w') : Md W w' v v1 v2 v3 xs ys :=
  ⟨bthen h.1 hb, h.2.1.keepB hb, h.2.2.1.keepB hb, h.2.2.2⟩
theorem Md.tb {W w w' : World} {v v1 v2 v3 : Value} {xs ys xs' : List Ac} (h : Md W w v v1 v2 v3 xs ys) (hs : TbStep w w' W.heap.size v xs') : ∃ v', Md W w' v' v1 v2 v3 xs' ys := by
  obtain ⟨h1, ht, hr, o, o1, o2, o3⟩ := h
  obtain ⟨v', k1, k2, k3⟩ := hs
  refine ⟨v', h1.trans (k2.below h1.size fun k e => ?_), k1, hr.keep k2 ?_ ?_ ?_ ?_, own_ge h1.size o k3, o1, o2, o3⟩
  · rcases e with rfl | e
    · exact Nat.le_refl _
    · exact o k e
  · rintro (e | e)
    · omega
    · exact row_ne ht.2 hr.1 (by decide) e
  · rintro g hg (e | e)
    · exact row_ne hr.2.1 ht.1 (by decide) (by rw [hg, e])
    · exact rows_neA ht.2 hr.2.1 (by decide) hg e
  · rintro g hg (e | e)
    · exact row_ne hr.2.2.1 ht.1 (by decide) (by rw [hg, e])
    · exact rows_neA ht.2 hr.2.2.1 (by decide) hg e
  · rintro g hg (e | e)
    · exact row_ne hr.2.2.2.1 ht.1 (by decide) (by rw [hg, e])
    · exact rows_neA ht.2 hr.2.2.2.1 (by decide) hg e
theorem Md.rt {W w w' : World} {v v1 v2 v3 : Value} {xs ys ys' : List Ac} (h : Md W w v v1 v2 v3 xs ys) (hs : RtStep w w' (W.heap.size + 1) v1 v2 v3 ys') : ∃ v1' v2' v3', Md W w' v v1' v2' v3' xs ys' := by
  obtain ⟨h1, ht, hr, o, o1, o2, o3⟩ := h
  obtain ⟨v1', v2', v3', k1, k2, k3, k4, k5⟩ := hs
  refine ⟨v1', v2', v3', h1.trans (k2.below h1.size fun k e => ?_), ht.keep k2 ?_ ?_, k1, o, own_ge h1.size o1 k3, own_ge h1.size o2 k4, own_ge h1.size o3 k5⟩
  · rcases e with rfl | e | e | e
    · omega
    · exact o1 k e
    · exact o2 k e
    · exact o3 k e
  · rintro (e | e | e | e)
    · omega
    · exact row_ne hr.2.1 ht.1 (by decide) e
    · exact row_ne hr.2.2.1 ht.1 (by decide) e
    · exact row_ne hr.2.2.2.1 ht.1 (by decide) e
  · rintro g hg (e | e | e | e)
    · exact row_ne ht.2 hr.1 (by decide) (by rw [hg, e])
    · exact rows_neA ht.2 hr.2.1 (by decide) e hg
    · exact rows_neA ht.2 hr.2.2.1 (by decide) e hg
    · exact rows_neA ht.2 hr.2.2.2.1 (by decide) e hg

/-- An object of another type is as it was behind a step of the program's, or of the document's. -/
theorem TbStep.obj {w w' : World} {b q : Nat} {v : Value} {xs xs' : List Ac} {cs : Array Value} {t : TypeId} (h : Tb w b v xs) (hs : TbStep w w' b v xs') (hq : w.heap[q]? = some (.cells cs t (0, 0))) (h1 : t ≠ 124) (h2 : 126 ≠ t) : w'.heap[q]? = some (.cells cs t (0, 0)) := by
  obtain ⟨v', _, hf, _⟩ := hs
  exact hf.obj hq fun e => e.elim (fun e => obj_ne hq h.1 h1 e) fun e => row_ne h.2 hq h2 e
theorem RtStep.obj {w w' : World} {M q : Nat} {v1 v2 v3 : Value} {xs xs' : List Ac} {cs : Array Value} {t : TypeId} (h : Rt w M v1 v2 v3 xs) (hs : RtStep w w' M v1 v2 v3 xs') (hq : w.heap[q]? = some (.cells cs t (0, 0))) (h1 : t ≠ 84) (h2 : 3 ≠ t) (h3 : 4 ≠ t) : w'.heap[q]? = some (.cells cs t (0, 0)) := by
  obtain ⟨_, _, _, _, hf, _⟩ := hs
  refine hf.obj hq ?_
  rintro (e | e | e | e)
  · exact obj_ne hq h.1 h1 e
  · exact row_ne h.2.1 hq h2 e
  · exact row_ne h.2.2.1 hq h3 e
  · exact row_ne h.2.2.2.1 hq h2 e
theorem obj_keepA {w w' : World} (hb : Below w.heap.size w w') {b : Nat} {o : Obj} (h : w.heap[b]? = some o) : w'.heap[b]? = some o := (hb.block _ (lt_of_block h)).trans h

theorem Bd.le {k : Nat} {xs : List Ac} (h : Bd k xs) : Bd (k + 1) xs := ⟨h.1, fun a ha => by have := h.2 a ha; omega⟩
theorem Bd.set {k i : Nat} {xs : List Ac} {a y : Ac} (h : Bd k xs) (hi : xs[i]? = some a) (hy : y.2.2 = a.2.2 ∨ y.2.2 = a.2.2 + 1) : Bd (k + 1) (xs.set i y) := by
  have ha := h.2 a (List.mem_of_getElem? hi)
  refine ⟨by rw [List.length_set]; exact h.1, fun z hz => ?_⟩
  rcases List.mem_or_eq_of_mem_set hz with hz | rfl
  · have := h.2 z hz; omega
  · rcases hy with e | e <;> (rw [e]; omega)
theorem Bd.add {k : Nat} {xs : List Ac} (h : Bd k xs) (hl : (xs.length : Int) < 64) : Bd (k + 1) (xs ++ [(0, false, 0)]) := by
  refine ⟨by rw [List.length_append]; show ((xs.length + 1 : Nat) : Int) ≤ 64; omega, fun z hz => ?_⟩
  rcases List.mem_append.1 hz with hz | hz
  · have := h.2 z hz; omega
  · simp at hz
    subst hz
    exact ⟨Int.le_refl _, by show (0 : Int) ≤ _; omega⟩
theorem Bd.at {k i : Nat} {xs : List Ac} {a : Ac} (h : Bd k xs) (hi : xs[i]? = some a) : 0 ≤ a.2.2 ∧ a.2.2 ≤ k := h.2 a (List.mem_of_getElem? hi)
theorem park_wk (a : Ac) : (parkS a).2.2 = a.2.2 := by unfold parkS; split <;> rfl
theorem wake_wk (a : Ac) : (wakeS a).2.2 = a.2.2 + 1 := by unfold wakeS; split <;> rfl

theorem AP.start (W : World) : AP W ((W.alloc (.cells #[.slice none 0 0] 124)).alloc (.cells #[.slice none 0 0, .slice none 0 0, .slice none 0 0] 84)) 0 := by
  have h1 := Tb.start W
  have h2 := obj_new (W.alloc (.cells #[.slice none 0 0] 124)) (.cells #[.slice none 0 0, .slice none 0 0, .slice none 0 0] 84)
  rw [World.size_alloc] at h2
  refine ⟨_, _, _, _, [], ⟨balloc (balloc (Below.refl _ _) _) _, h1.keepB (balloc (Below.refl _ _) _), Rt.start _ _ h2, fun g h => ?_, fun g h => ?_, fun g h => ?_, fun g h => ?_⟩, ⟨by decide, fun a ha => by simp at ha⟩⟩ <;> simp [Value.ownBlock] at h
end Go.Proofs.Ytpnglcafjofmnaa
