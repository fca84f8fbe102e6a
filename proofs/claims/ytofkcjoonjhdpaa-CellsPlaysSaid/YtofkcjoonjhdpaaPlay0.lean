/-
  The program's arena and the document's side by side: what each step leaves of both. No condition but those that each names.
-/
import Derived.Test.YtofkcjoonjhdpaaCells7
namespace Go.Proofs.Ytofkcjoonjhdpaa
open Go.RowKit

theorem Mo.c0 {W : World} {b : Nat} {v : Value} {xs : List Int} {st : Int} (h : Mo W b v xs st) : W.cell? ⟨b, 0, none⟩ = some v := by rw [obj_cell h.1]; rfl
theorem Mo.c1 {W : World} {b : Nat} {v : Value} {xs : List Int} {st : Int} (h : Mo W b v xs st) : W.cell? ⟨b, 1, none⟩ = some (.int .i64 st) := by rw [obj_cell h.1]; rfl
theorem Mo.f {W : World} {b : Nat} {v : Value} {xs : List Int} {st : Int} (h : Mo W b v xs st) (i : Nat) : W.frozen? ⟨b, i, none⟩ = false := obj_free h.1 i
theorem Mo.lt {W : World} {b : Nat} {v : Value} {xs : List Int} {st : Int} (h : Mo W b v xs st) : b < W.heap.size := lt_of_block h.1
theorem Mo.ne {W : World} {b : Nat} {v : Value} {xs : List Int} {st : Int} (h : Mo W b v xs st) : v.ownBlock ≠ some b := row_ne h.2 h.1 (by decide)
theorem Mo.keep {S : Nat → Prop} {W w' : World} {b : Nat} {v : Value} {xs : List Int} {st : Int} (h : Mo W b v xs st) (hf : Frm S W w') (hb : ¬ S b) (hr : ∀ g, v.ownBlock = some g → ¬ S g) : Mo w' b v xs st :=
  ⟨hf.obj h.1 hb, hf.row h.2 hr⟩

/-- Both, apart, and made since W0. -/
def Two (W0 W : World) (ba bm : Nat) (v u : Value) (xs : List Int) (st : Int) (ys : List Int) (su : Int) : Prop :=
  Ar W ba v xs st ∧ Mo W bm u ys su ∧ (∀ g, v.ownBlock = some g → u.ownBlock ≠ some g) ∧ Below W0.heap.size W0 W ∧ W0.heap.size ≤ ba ∧ W0.heap.size ≤ bm ∧ (∀ g, v.ownBlock = some g → W0.heap.size ≤ g) ∧ ∀ g, u.ownBlock = some g → W0.heap.size ≤ g

theorem Two.below {W0 W : World} {ba bm : Nat} {v u : Value} {xs ys : List Int} {st su : Int} (h : Two W0 W ba bm v u xs st ys su) : Below W0.heap.size W0 W := h.2.2.2.1
theorem Two.keep {W0 W w' : World} {ba bm : Nat} {v u : Value} {xs ys : List Int} {st su : Int} (h : Two W0 W ba bm v u xs st ys su) (hb : Below W.heap.size W w') : Two W0 w' ba bm v u xs st ys su :=
  ⟨h.1.keepB hb, h.2.1.keep (Frm.of_below hb fun _ => False) id fun _ _ => id, h.2.2.1, bthen h.2.2.2.1 hb, h.2.2.2.2⟩
theorem Two.drew {W0 W : World} {ba bm : Nat} {v u : Value} {xs ys : List Int} {st su : Int} (h : Two W0 W ba bm v u xs st ys su) : Two W0 W.drew ba bm v u xs st ys su := h.keep (Below.drew (Below.refl _ _))

/-- The program's arena does a step. -/
theorem Two.step {W0 W w' : World} {ba bm : Nat} {v u : Value} {xs ys xs' : List Int} {st su st' : Int} (h : Two W0 W ba bm v u xs st ys su) (hs : ArStep W w' ba v xs' st') :
    ∃ v', Two W0 w' ba bm v' u xs' st' ys su ∧ Frm (fun k => k = ba ∨ v.ownBlock = some k) W w' := by
  obtain ⟨v', ha, hf, hv⟩ := hs
  obtain ⟨a, m, d, hb, h1, h2, h3, h4⟩ := h
  have h0 : W0.heap.size ≤ W.heap.size := hb.size
  have nb : ¬ (bm = ba ∨ v.ownBlock = some bm) := by
    rintro (e | e)
    · exact obj_ne m.1 a.1 (by decide) e
    · exact row_ne a.2 m.1 (by decide) e
  have nu : ∀ g, u.ownBlock = some g → ¬ (g = ba ∨ v.ownBlock = some g) := by
    rintro g hg (e | e)
    · exact row_ne m.2 a.1 (by decide) (e ▸ hg)
    · exact d g e hg
  refine ⟨v', ⟨ha, m.keep hf nb nu, ?_, hb.trans (hf.below h0 ?_), h1, h2, ?_, h4⟩, hf⟩
  · intro g hg hu
    rcases hv with hv | hv
    · exact d g (hv ▸ hg) hu
    · have := hv g hg
      have := row_lt m.2 hu
      omega
  · rintro k (rfl | hk)
    · exact h1
    · exact h3 k hk
  · intro g hg
    rcases hv with hv | hv
    · exact h3 g (hv ▸ hg)
    · exact Nat.le_trans h0 (hv g hg)

/-- One step more is counted by the document's. -/
theorem Two.count {W0 W : World} {ba bm : Nat} {v u : Value} {xs ys : List Int} {st su : Int} (h : Two W0 W ba bm v u xs st ys su) (su' : Int) : Two W0 (W.setCell ⟨bm, 1, none⟩ (.int .i64 su')) ba bm v u xs st ys su' := by
  obtain ⟨a, m, d, hb, h1, h2, h3, h4⟩ := h
  have hf : Frm (fun k => k = bm) W (W.setCell ⟨bm, 1, none⟩ (.int .i64 su')) := (Frm.refl (fun k => k = bm) W).setCell (p := ⟨bm, 1, none⟩) rfl _
  refine ⟨a.keep hf (obj_ne a.1 m.1 (by decide)) fun g hg e => row_ne a.2 m.1 (by decide) (e ▸ hg), ⟨obj_setCell _ m.1, hf.row m.2 fun g hg e => m.ne (e ▸ hg)⟩, d, hb.setCell (p := ⟨bm, 1, none⟩) h2 _, h1, h2, h3, h4⟩

/-- The document's has a new row, made just now. -/
theorem Two.fresh {W0 W : World} {ba bm : Nat} {v u u' : Value} {xs ys ys' : List Int} {st su : Int} (h : Two W0 W ba bm v u xs st ys su) {B : Nat} (hB : W0.heap.size ≤ B) (ho : W.ownsRow 0 2 1 u' ys'.length (ys'.map (Value.int .i64))) (hn : ∀ g, u'.ownBlock = some g → B ≤ g) (hv : ∀ g, v.ownBlock = some g → g < B) :
    Two W0 ((W.setCell ⟨bm, 0, none⟩ u').setCell ⟨bm, 1, none⟩ (.int .i64 su)) ba bm v u' xs st ys' su := by
  obtain ⟨a, m, d, hb, h1, h2, h3, h4⟩ := h
  have hf : Frm (fun k => k = bm) W ((W.setCell ⟨bm, 0, none⟩ u').setCell ⟨bm, 1, none⟩ (.int .i64 su)) := ((Frm.refl (fun k => k = bm) W).setCell (p := ⟨bm, 0, none⟩) rfl _).setCell (p := ⟨bm, 1, none⟩) rfl _
  refine ⟨a.keep hf (obj_ne a.1 m.1 (by decide)) fun g hg e => row_ne a.2 m.1 (by decide) (e ▸ hg), ⟨obj_setCell _ (obj_setCell _ m.1), hf.row ho fun g hg e => row_ne ho m.1 (by decide) (e ▸ hg)⟩, ?_, (hb.setCell (p := ⟨bm, 0, none⟩) h2 _).setCell (p := ⟨bm, 1, none⟩) h2 _, h1, h2, h3, ?_⟩
  · intro g hg hu
    have := hn g hu
    have := hv g hg
    omega
  · intro g hg
    exact Nat.le_trans hB (hn g hg)

/-- The document's is lengthened. -/
theorem Two.app {W0 W w' : World} {ba bm : Nat} {v u u' : Value} {xs ys : List Int} {st su x : Int} (h : Two W0 W ba bm v u xs st ys su)
    (hown : w'.ownsRow 0 2 1 u' (ys.length + 1) (ys.map (Value.int .i64) ++ [Value.int .i64 x])) (hf : Frm (fun k => u.ownBlock = some k) (W.alloc (.cells #[.int .i64 x] 2)) w') (hv : u'.ownBlock = u.ownBlock ∨ ∀ g, u'.ownBlock = some g → (W.alloc (.cells #[.int .i64 x] 2)).heap.size ≤ g) :
    Two W0 (w'.setCell ⟨bm, 0, none⟩ u') ba bm v u' xs st (ys ++ [x]) su := by
  obtain ⟨a, m, d, hb, h1, h2, h3, h4⟩ := h
  have h0 : W0.heap.size ≤ W.heap.size := hb.size
  have hob : w'.heap[bm]? = some (.cells #[u, .int .i64 su] 29 (0, 0)) := hf.obj (obj_old _ m.1) m.ne
  have hnb : u'.ownBlock ≠ some bm := row_ne hown hob (by decide)
  have hF : Frm (fun k => k = bm ∨ u.ownBlock = some k) W (w'.setCell ⟨bm, 0, none⟩ u') := (((Frm.refl _ W).alloc _).then hf fun k _ h => .inr h).setCell (p := ⟨bm, 0, none⟩) (.inl rfl) _
  refine ⟨a.keep hF ?_ ?_, ⟨obj_setCell _ hob, ?_⟩, ?_, hb.trans (hF.below h0 ?_), h1, h2, h3, ?_⟩
  · rintro (e | e)
    · exact obj_ne a.1 m.1 (by decide) e
    · exact row_ne m.2 a.1 (by decide) e
  · rintro g hg (e | e)
    · exact row_ne a.2 m.1 (by decide) (e ▸ hg)
    · exact d g hg e
  · have := ownsRow_setCell_other hown (a := ⟨bm, 0, none⟩) hnb u'
    simpa using this
  · intro g hg hu
    rcases hv with hv | hv
    · exact d g hg (hv ▸ hu)
    · have := hv g hu
      have := row_lt a.2 hg
      simp at *
      omega
  · rintro k (rfl | hk)
    · exact h2
    · exact h4 k hk
  · intro g hg
    rcases hv with hv | hv
    · exact h4 g (hv ▸ hg)
    · have := hv g hg
      simp at this
      omega
end Go.Proofs.Ytofkcjoonjhdpaa
