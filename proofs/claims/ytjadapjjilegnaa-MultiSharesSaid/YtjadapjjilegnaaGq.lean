/-
  A group of package gate that lies anywhere in a block: in, Len, Cells and Add by contract. Condition: at most 32 cells.
-/
import Derived.Test.YtjadapjjilegnaaRefused
import Derived.Test.YtjadapjjilegnaaCells
import Derived.Test.YtjadapjjilegnaaTail
import Derived.Test.YtjadapjjilegnaaShelf
namespace Go.Proofs.Ytjadapjjilegnaa
open Go.RowKit

/-- A group's numbers, and noughts up to 32. -/
def padI (ids : List Int) : List Int := ids ++ List.replicate (32 - ids.length) 0
theorem padI_len {ids : List Int} (h : ids.length ≤ 32) : (padI ids).length = 32 := by simp [padI]; omega
theorem padI_at {ids : List Int} {j : Nat} (hj : j < ids.length) : (padI ids).getD j 0 = ids.getD j 0 := by
  simp [padI, List.getElem?_append_left hj]
theorem padI_take (ids : List Int) : (padI ids).take ids.length = ids := by simp [padI]
theorem padI_more {ids : List Int} (hl : ids.length < 32) (id : Int) (j : Nat) : (padI (ids ++ [id])).getD j 0 = if j = ids.length then id else (padI ids).getD j 0 := by
  obtain ⟨r, hr⟩ : ∃ r, 32 - ids.length = r + 1 := ⟨31 - ids.length, by omega⟩
  have hr2 : 32 - (ids.length + 1) = r := by omega
  have e1 : padI (ids ++ [id]) = ids ++ id :: List.replicate r 0 := by simp [padI, hr2]
  have e2 : padI ids = ids ++ 0 :: List.replicate r 0 := by simp [padI, hr, List.replicate_succ]
  rw [e1, e2]
  simp only [List.getD_eq_getElem?_getD]
  by_cases h1 : j < ids.length
  · rw [if_neg (by omega), List.getElem?_append_left h1, List.getElem?_append_left h1]
  · by_cases h2 : j = ids.length
    · subst h2; simp
    · rw [if_neg h2, List.getElem?_append_right (by omega), List.getElem?_append_right (by omega)]
      obtain ⟨m, hm⟩ : ∃ m, j - ids.length = m + 1 := ⟨j - ids.length - 1, by omega⟩
      rw [hm]
      simp

/-- A group's cells in a row of cells, from a place on. -/
structure Gq (cs : Array Value) (o : Nat) (ids : List Int) : Prop where
  nth : ∀ j, j < 32 → cs[o + j]? = some (.int .i64 ((padI ids).getD j 0))
  n : cs[o + 32]? = some (.int .i64 ids.length)
  len : ids.length ≤ 32
/-- A block that is known whole. -/
abbrev Blk (W : World) (g : Nat) (cs : Array Value) (T : TypeId) : Prop := W.heap[g]? = some (.cells cs T (0, 0))
theorem blk_keep {W w : World} {g : Nat} {cs : Array Value} {T : TypeId} (h : Blk W g cs T) (hb : Below W.heap.size W w) : Blk w g cs T := (hb.block _ (lt_of_block h)).trans h

section
variable {W : World} {g o : Nat} {cs : Array Value} {T : TypeId} {ids : List Int}
theorem Gq.cN (hq : Gq cs o ids) (h : Blk W g cs T) : W.cell? ⟨g, o + 32, none⟩ = some (.int .i64 ids.length) := (obj_cell h _).trans hq.n
theorem Gq.cAt (hq : Gq cs o ids) (h : Blk W g cs T) (j : Nat) (hj : j < 32) : W.cell? ⟨g, o + j, none⟩ = some (.int .i64 ((padI ids).getD j 0)) := (obj_cell h _).trans (hq.nth j hj)
theorem Gq.cells (hq : Gq cs o ids) (h : Blk W g cs T) : ∀ j, j < (padI ids).length → W.cell? ⟨g, o + j, none⟩ = some (.int .i64 ((padI ids).getD j 0)) := by
  intro j hj
  rw [padI_len hq.len] at hj
  exact hq.cAt h j hj
theorem Gq.more (hq : Gq cs o ids) (hl : ids.length < 32) (id : Int) : Gq ((cs.setIfInBounds (o + ids.length) (.int .i64 id)).setIfInBounds (o + 32) (.int .i64 ((ids.length : Int) + 1))) o (ids ++ [id]) := by
  refine ⟨fun j hj => ?_, ?_, by simp; omega⟩
  · rw [Array.getElem?_setIfInBounds_ne (by omega), padI_more hl]
    have hs : o + ids.length < cs.size := by
      have := hq.nth ids.length hl
      rcases Nat.lt_or_ge (o + ids.length) cs.size with h | h
      · exact h
      · rw [Array.getElem?_eq_none h] at this; cases this
    by_cases e : j = ids.length
    · subst e
      rw [if_pos rfl, Array.getElem?_setIfInBounds_self_of_lt hs]
    · rw [if_neg e, Array.getElem?_setIfInBounds_ne (by omega)]
      exact hq.nth j hj
  · have hs : o + 32 < cs.size := by
      have := hq.n
      rcases Nat.lt_or_ge (o + 32) cs.size with h | h
      · exact h
      · rw [Array.getElem?_eq_none h] at this; cases this
    rw [Array.getElem?_setIfInBounds_self_of_lt (by simpa using hs)]
    simp
end

theorem in_nil (W : World) : Calls Try.prog 146 #[.pointer none] W fun e w' => e = .returned (.slice none 0 0) ∧ W = w' := by
  go_enter Try.func146, Try.ntmps146
  go_wp2
  go_ret
  exact ⟨rfl, rfl⟩
theorem in_q {W : World} {g o : Nat} {cs : Array Value} {T : TypeId} {ids : List Int} (h : Blk W g cs T) (hq : Gq cs o ids) : Calls Try.prog 146 #[.pointer (some ⟨g, o, none⟩)] W fun e w' => e = .returned (.slice (some ⟨g, o, none⟩) ids.length 32) ∧ Below W.heap.size W w' := by
  have c := hq.cN h
  have hl := hq.len
  clear h hq
  generalize ids.length = n at *
  have hl' : (n : Int) ≤ 32 := by omega
  go_enter Try.func146, Try.ntmps146
  go_wp2
  go_big_quiet (fail)
  go_wp2
  go_ret
  exact ⟨rfl, drewB (Below.refl _ _) _⟩

theorem glen_nil (W : World) : Calls Try.prog 165 #[.pointer none] W fun e w' => e = .returned (.int .i64 0) ∧ W = w' := by
  go_enter Try.func165, Try.ntmps165
  go_wp2_with (go_at_call 146; refine (in_nil _).mono ?_; rintro e w' ⟨rfl, rfl⟩)
  go_ret
  exact ⟨rfl, rfl⟩

/-- A new row of numbers. -/
def NewRow (W w' : World) (v : Value) (ids : List Int) : Prop :=
  w'.ownsRow W.heap.size 3 1 v ids.length (ids.map (Value.int .i64)) ∧ Below W.heap.size W w'
theorem row_base {w : World} {B B' : Nat} {e : TypeId} {size : Nat} {v : Value} {n : Nat} {xs : List Value} (h : w.ownsRow B e size v n xs) (hb : B' ≤ B) : w.ownsRow B' e size v n xs :=
  ⟨h.1, h.2.imp id fun ⟨g, cap, cur, hv, hg, r⟩ => ⟨g, cap, cur, hv, Nat.le_trans hb hg, r⟩⟩
theorem NewRow.old {W w1 w2 : World} {v : Value} {ids : List Int} (h : NewRow w1 w2 v ids) (hb : Below W.heap.size W w1) : NewRow W w2 v ids := ⟨row_base h.1 hb.size, bthen hb h.2⟩
theorem gclone_q {W : World} {g o : Nat} {cs : Array Value} {T : TypeId} {ids : List Int} (h : Blk W g cs T) (hq : Gq cs o ids) : Calls Try.prog 150 #[.slice (some ⟨g, o, none⟩) ids.length 32] W fun e w' => ∃ v, e = .returned v ∧ NewRow W w' v ids := by
  refine (Try.slices_Clone_int g o ids.length 32 (padI ids) W (by rw [padI_len hq.len]; exact hq.len) (by have := hq.len; omega) (hq.cells h)).mono ?_
  rintro e w' ⟨v, rfl, h1, _, h2⟩
  rw [padI_take] at h1
  exact ⟨v, rfl, h1, h2⟩
theorem gcells_q {W : World} {g o : Nat} {cs : Array Value} {T : TypeId} {ids : List Int} (h : Blk W g cs T) (hq : Gq cs o ids) : Calls Try.prog 96 #[.pointer (some ⟨g, o, none⟩)] W fun e w' => ∃ v, e = .returned v ∧ NewRow W w' v ids := by
  have H := Lib.hid h
  have HQ := Lib.hid hq
  clear h hq
  go_enter Try.func96, Try.ntmps96
  go_wp2_with (first
    | (go_at_call 146; refine (in_q H.out HQ.out).mono ?_; rintro e w1 ⟨rfl, hb⟩; have HB := Lib.hid hb; clear hb)
    | (go_at_call 150; refine (gclone_q (blk_keep H.out HB.out) HQ.out).mono ?_; rintro e w2 ⟨v, rfl, hn⟩; have HN := Lib.hid (hn.old HB.out); obtain ⟨p, c, rfl, _⟩ := row_form hn.1; clear hn))
  go_ret
  exact ⟨_, rfl, HN.out⟩

theorem ghas_q {W : World} {g o : Nat} {cs : Array Value} {T : TypeId} {ids : List Int} (h : Blk W g cs T) (hq : Gq cs o ids) (x : Int) : Calls Try.prog 145 #[.slice (some ⟨g, o, none⟩) ids.length 32, .int .i64 x] W fun e w' => e = .returned (.bool (ids.contains x)) ∧ W = w' := by
  refine (Try.slices_Contains_int g o ids.length 32 (padI ids) x W (by rw [padI_len hq.len]; exact hq.len) (by have := hq.len; omega) (hq.cells h)).mono ?_
  rintro e w' ⟨rfl, rfl⟩
  rw [padI_take]
  exact ⟨rfl, rfl⟩

theorem gadd_q {W : World} {g o : Nat} {cs : Array Value} {T : TypeId} {ids : List Int} (h : Blk W g cs T) (hq : Gq cs o ids) (id : Int) (h0 : 0 ≤ id) (h1 : id < 2097152) (hin : id ∉ ids) (hm : ids.length < 32) :
    Calls Try.prog 80 #[.pointer (some ⟨g, o, none⟩), .int .i64 id] W fun e w' => e = .returned .nilIface ∧ Blk w' g ((cs.setIfInBounds (o + ids.length) (.int .i64 id)).setIfInBounds (o + 32) (.int .i64 ((ids.length : Int) + 1))) T ∧ Frm (fun k => k = g) W w' := by
  have H := Lib.hid h
  have HQ := Lib.hid hq
  have hc : ids.contains id = false := by simpa using hin
  have HC := Lib.hid hc
  have HM := Lib.hid hm
  have hfin : ∀ w : World, Below W.heap.size W w → Blk ((w.setCell ⟨g, o + ids.length, none⟩ (.int .i64 id)).setCell ⟨g, o + 32, none⟩ (.int .i64 ((ids.length : Int) + 1))) g ((cs.setIfInBounds (o + ids.length) (.int .i64 id)).setIfInBounds (o + 32) (.int .i64 ((ids.length : Int) + 1))) T ∧ Frm (fun k => k = g) W ((w.setCell ⟨g, o + ids.length, none⟩ (.int .i64 id)).setCell ⟨g, o + 32, none⟩ (.int .i64 ((ids.length : Int) + 1))) := fun w hb => ⟨obj_setCell _ (obj_setCell _ (blk_keep h hb)), ((Frm.of_below hb fun k => k = g).setCell (p := ⟨g, o + ids.length, none⟩) rfl _).setCell (p := ⟨g, o + 32, none⟩) rfl _⟩
  have HF := Lib.hid hfin
  have hd : decide ((32 : Int) ≤ (ids.length : Int)) = false := by rw [decide_eq_false_iff_not]; omega
  have hcells : ∀ w : World, Below W.heap.size W w → w.cell? ⟨g, o + ids.length, none⟩ = some (.int .i64 ((padI ids).getD ids.length 0)) ∧ w.cell? ⟨g, o + 32, none⟩ = some (.int .i64 ids.length) ∧ w.frozen? ⟨g, o + ids.length, none⟩ = false ∧ w.frozen? ⟨g, o + 32, none⟩ = false := fun w hb => ⟨hq.cAt (blk_keep h hb) _ hm, hq.cN (blk_keep h hb), obj_free (blk_keep h hb) _, obj_free (blk_keep h hb) _⟩
  have HL := Lib.hid hcells
  have hm' : (ids.length : Int) < 32 := by omega
  clear h hq hin hc hfin hcells
  generalize ids.length = n at *
  generalize (padI ids).getD n 0 = y at *
  have hne : n ≠ 32 := by omega
  clear hm
  go_enter Try.func80, Try.ntmps80
  go_wp2_with (first
    | (go_at_call 146; refine (in_q H.out HQ.out).mono ?_; rintro e w1 ⟨rfl, hb⟩; have HB := Lib.hid hb; obtain ⟨cn, c32, fn, f32⟩ := HL.out _ hb; clear hb)
    | (go_at_call 145; refine (ghas_q (blk_keep H.out HB.out) HQ.out id).mono ?_; rintro e w2 ⟨rfl, rfl⟩; rw [HC.out]))
  have n0 : ∀ x : Later w1, x.to.cell? ⟨g, o + 32, none⟩ = some (.int .i64 n) := fun x => (HL.out _ (bthen HB.out x.below)).2.1
  clear cn c32 fn f32
  refine wp_region_later_tail 9 (by kernel_rfl) (by kernel_rfl) ?_
  simp only [List.take_succ_cons, List.take_zero, List.drop_succ_cons, List.drop_zero]
  repeat (go_big_quiet_step (fail))
  refine wpQuiet_nil ?_
  intro w2 hw'
  obtain ⟨⟨w2', hb2⟩, hw2⟩ := hw'
  obtain rfl : w2 = w2' := hw2
  have HB2 := Lib.hid (bthen HB.out hb2)
  obtain ⟨cn, c32, fn, f32⟩ := HL.out _ HB2.out
  clear n0 hb2
  go_wp2
  go_ret
  exact ⟨rfl, HF.out _ HB2.out⟩
end Go.Proofs.Ytjadapjjilegnaa
