/-
  Rows and blocks beside an arena: made, appended to, set; what is known of it stays. No condition but those that each theorem names.
-/
import Derived.Test.YtjadapjjilegnaaGreatMj
namespace Go.Proofs.YtjadapjjilegnaaGreat
open Go.RowKit
set_option linter.unusedVariables false

section
variable {R : Rest} {W0 W w w' : World} {a : Nat} {xs : List Int} {st : Int}
theorem Mv.less {R' : Rest} (h : Mv R W0 W a xs st) (hp : ∀ g, R'.prot g → R.prot g) (hi : R'.inv W) : Mv R' W0 W a xs st :=
  h.turn (S := fun _ => False) (Frm.refl _ _) (fun _ _ _ h => h.elim) (fun k hk => .inl (hp k hk)) hi
theorem load_mv (h : Mv R W0 W a xs st) (i : Nat) (x : Int) (hx : xs[i]? = some x) (h0 : 0 ≤ st) (h1 : st < 4611686018427387904) :
    Calls Tryz.prog 35 #[.pointer (some ⟨a, 0, none⟩), .int .i64 i] W fun e w' => e = .returned (.tuple #[.int .i64 x, .nilIface]) ∧ Mv R W0 w' a xs (st + 1) := by
  obtain ⟨v, ha, h3, h4, h5, h6⟩ := h
  exact (load_some i W a v xs st x ha hx h0 h1).mono fun _ _ ⟨he, hs⟩ => ⟨he, Mv.step ha h3 h4 h5 h6 hs⟩
end
section
variable {R R' : Rest} {S : Nat → Prop} {W0 W w : World} {b : Nat} {cs : List Int} {st : Int} {T U : TypeId} {z n p : Nat} {v v' : Value} {xs : List Value} {bx : Array Value}
/-- Blocks of the rest turn, blocks that are new come to it. -/
theorem Mv.turn2 (h : Mv R W0 W b cs st) (hf : Frm S W w) (hS : ∀ g, S g → W0.heap.size ≤ g ∧ R.prot g) (hR : ∀ g, R'.prot g → R.prot g ∨ (W.heap.size ≤ g ∧ g < w.heap.size)) (hI : R'.inv w) : Mv R' W0 w b cs st := by
  obtain ⟨v, h1, h3, h4, h5, h6⟩ := h
  have n1 : ¬ S b := fun e => (h6.1 b (hS b e).2).2.1 rfl
  have n3 : ∀ g, v.ownBlock = some g → ¬ S g := fun g hg e => (h6.1 g (hS g e).2).2.2 hg
  have ha' := h1.keep hf n1 n3
  refine ⟨v, ha', h3.trans ⟨hf.os, hf.tape, hf.output, hf.size, fun k hk => ?_⟩, h4, h5, fun g hg => ?_, hI⟩
  · by_cases hs : S k
    · have := (hS k hs).1
      omega
    · exact hf.block k (Nat.lt_of_lt_of_le hk h3.size) hs
  · rcases hR g hg with hg | ⟨g1, g2⟩
    · exact ⟨Nat.lt_of_lt_of_le (h6.1 g hg).1 hf.size, (h6.1 g hg).2⟩
    · refine ⟨g2, fun e => ?_, fun e => ?_⟩
      · have := lt_of_block h1.1
        omega
      · obtain ⟨cur, hc⟩ := ownsRow_obj h1.2 e
        have := lt_of_block hc
        omega
theorem Mv.rowIs (h : Mv (R.row W0.heap.size T z v n xs) W0 W b cs st) : W.ownsRow W0.heap.size T z v n xs := h.inv.2.1
theorem Mv.rowDrop (h : Mv (R.row W0.heap.size T z v n xs) W0 W b cs st) : Mv R W0 W b cs st := h.less (fun _ k => .inl k) h.inv.1
theorem Mv.boxIs (h : Mv (R.box W0.heap.size p bx U) W0 W b cs st) : W.heap[p]? = some (.cells bx U (0, 0)) := h.inv.2.1
theorem Mv.boxDrop (h : Mv (R.box W0.heap.size p bx U) W0 W b cs st) : Mv R W0 W b cs st := h.less (fun _ k => .inl k) h.inv.1
theorem Mv.nil (h : Mv R W0 W b cs st) (T : TypeId) (z : Nat) : Mv (R.row W0.heap.size T z (.slice none 0 0) 0 []) W0 W b cs st := by
  refine h.turn2 (S := fun _ => False) (Frm.refl _ _) (fun _ h => h.elim) (fun g hg => .inl ?_) ⟨h.inv, World.ownsRow_nil _ _ _ _, fun k _ e => by simp [Value.ownBlock] at e⟩
  rcases hg with hg | hg
  · exact hg
  · simp [Value.ownBlock] at hg
/-- A row more, made now. -/
theorem Mv.more (h : Mv R W0 W b cs st) (hb : Below W.heap.size W w) (ho : w.ownsRow W.heap.size T z v n xs) : Mv (R.row W0.heap.size T z v n xs) W0 w b cs st := by
  have h0 := h.below.size
  have hf := Frm.of_below hb fun _ => False
  refine h.turn2 hf (fun _ h => h.elim) (fun g hg => ?_) ⟨R.ok _ _ h.inv fun k hk => hf.block k (h.prot_lt hk) id, row_up ho fun g hg => ?_, fun k hk e => ?_⟩
  · rcases hg with hg | hg
    · exact .inl hg
    · exact .inr (ho.lt g hg)
  · have := (ho.lt g hg).1
    omega
  · have := (ho.lt k e).1
    have := h.prot_lt hk
    omega
/-- The row is appended to. -/
theorem Mv.app (h : Mv (R.row W0.heap.size T z v n xs) W0 W b cs st) {n' : Nat} {ys : List Value} (hown : w.ownsRow 0 T z v' n' ys) (hf : Frm (fun k => v.ownBlock = some k) W w) (hv : v'.ownBlock = v.ownBlock ∨ ∀ g, v'.ownBlock = some g → W.heap.size ≤ g) :
    Mv (R.row W0.heap.size T z v' n' ys) W0 w b cs st := by
  have h0 := h.below.size
  have hr := h.inv.2.1
  have hlow : ∀ g, v'.ownBlock = some g → W0.heap.size ≤ g := fun g hg => by
    rcases hv with hv | hv
    · exact (hr.lt g (hv ▸ hg)).1
    · have := hv g hg
      omega
  refine h.turn2 hf (fun g hg => ⟨(hr.lt g hg).1, .inr hg⟩) (fun g hg => ?_) ⟨R.ok _ _ h.inv.1 fun k hk => hf.block k (h.prot_lt (.inl hk)) (h.inv.2.2 k hk), row_up hown hlow, fun k hk e => ?_⟩
  · rcases hg with hg | hg
    · exact .inl (.inl hg)
    · rcases hv with hv | hv
      · exact .inl (.inr (hv ▸ hg))
      · exact .inr ⟨hv g hg, (hown.lt g hg).2⟩
  · rcases hv with hv | hv
    · exact h.inv.2.2 k hk (hv ▸ e)
    · have := hv k e
      have := h.prot_lt (k := k) (.inl hk)
      omega
/-- A block more, made now. -/
theorem Mv.boxNew (h : Mv R W0 W b cs st) (bx : Array Value) (U : TypeId) : Mv (R.box W0.heap.size W.heap.size bx U) W0 (W.alloc (.cells bx U)) b cs st := by
  have h0 := h.below.size
  have hf : Frm (fun _ => False) W (W.alloc (.cells bx U)) := (Frm.refl _ _).alloc _
  refine h.turn2 hf (fun _ h => h.elim) (fun g hg => ?_) ⟨R.ok _ _ h.inv fun k hk => hf.block k (h.prot_lt hk) id, obj_new _ _, fun e => Nat.lt_irrefl _ (h.prot_lt e), h0⟩
  rcases hg with hg | rfl
  · exact .inl hg
  · exact .inr ⟨Nat.le_refl _, by simp⟩
/-- A block that was made behind a world, by a call: it comes to what is known. -/
theorem Mv.boxAt (h : Mv R W0 W b cs st) (hb : Below W.heap.size W w) (hp : W.heap.size ≤ p) (hc : w.heap[p]? = some (.cells bx U (0, 0))) : Mv (R.box W0.heap.size p bx U) W0 w b cs st := by
  have h0 := h.below.size
  have hf := Frm.of_below hb fun _ => False
  refine h.turn2 hf (fun _ h => h.elim) (fun g hg => ?_) ⟨R.ok _ _ h.inv fun k hk => hf.block k (h.prot_lt hk) id, hc, fun e => by have := h.prot_lt e; omega, by omega⟩
  rcases hg with hg | rfl
  · exact .inl hg
  · exact .inr ⟨hp, lt_of_block hc⟩
/-- It turns. -/
theorem Mv.boxTurn {bx' : Array Value} (h : Mv (R.box W0.heap.size p bx U) W0 W b cs st) (hf : Frm (fun k => k = p) W w) (hb : w.heap[p]? = some (.cells bx' U (0, 0))) : Mv (R.box W0.heap.size p bx' U) W0 w b cs st := by
  have hi := h.inv
  refine h.turn2 hf (fun k hk => ?_) (fun g hg => .inl hg) ⟨R.ok _ _ hi.1 fun k hk => hf.block k (h.prot_lt (.inl hk)) fun e => hi.2.2.1 (e ▸ hk), hb, hi.2.2⟩
  subst hk
  exact ⟨hi.2.2.2, .inr rfl⟩
theorem Mv.boxSet (h : Mv (R.box W0.heap.size p bx U) W0 W b cs st) (i : Nat) (u : Value) : Mv (R.box W0.heap.size p (bx.setIfInBounds i u) U) W0 (W.setCell ⟨p, i, none⟩ u) b cs st :=
  h.boxTurn ((Frm.refl (fun k => k = p) W).setCell (p := ⟨p, i, none⟩) rfl u) (obj_setCell _ h.boxIs)
theorem Mv.boxRow (h : Mv (R.box W0.heap.size p bx U) W0 W b cs st) (bx' : Array Value) : Mv (R.box W0.heap.size p bx' U) W0 (W.setRow p bx') b cs st :=
  h.boxTurn ((Frm.refl (fun k => k = p) W).setRow rfl bx') (setRow_heap _ _ _ _ _ _ h.boxIs)
end
end Go.Proofs.YtjadapjjilegnaaGreat
