/-
  A group of package gate: how it lies in its block; in, Len and Cells by contract. Condition: at most 32 cells.
-/
import Derived.Test.YtdbjeaploanalaaRefused
import Derived.Test.YtdbjeaploanalaaTail
import Derived.Test.YtdbjeaploanalaaShelf
namespace Go.Proofs.Ytdbjeaploanalaa
open Go.RowKit

/-- A group's numbers, and noughts up to 32. -/
def padI (ids : List Int) : List Int := ids ++ List.replicate (32 - ids.length) 0
def grC (ids : List Int) : Array Value := ((padI ids ++ [(ids.length : Int)]).map (Value.int .i64)).toArray

theorem padI_len {ids : List Int} (h : ids.length ≤ 32) : (padI ids).length = 32 := by simp [padI]; omega
theorem grC_size {ids : List Int} (h : ids.length ≤ 32) : (grC ids).size = 33 := by simp [grC, padI_len h]
theorem grC_at {ids : List Int} (h : ids.length ≤ 32) {j : Nat} (hj : j < 32) : (grC ids)[j]? = some (.int .i64 ((padI ids).getD j 0)) := by
  have hl := padI_len h
  simp [grC, List.getElem?_append_left (show j < ((padI ids).map (Value.int .i64)).length by simp; omega), List.getElem?_eq_getElem (show j < (padI ids).length by omega)]
theorem grC_n {ids : List Int} (h : ids.length ≤ 32) : (grC ids)[32]? = some (.int .i64 ids.length) := by
  have hl := padI_len h
  simp [grC, hl]
theorem padI_at {ids : List Int} {j : Nat} (hj : j < ids.length) : (padI ids).getD j 0 = ids.getD j 0 := by
  simp [padI, List.getElem?_append_left hj]
theorem padI_take (ids : List Int) : (padI ids).take ids.length = ids := by simp [padI]

/-- A group in a block. -/
def Gr (W : World) (g : Nat) (ids : List Int) : Prop :=
  W.heap[g]? = some (.cells (grC ids) 68 (0, 0)) ∧ ids.length ≤ 32

theorem Gr.n {W : World} {g : Nat} {ids : List Int} (h : Gr W g ids) : W.cell? ⟨g, 32, none⟩ = some (.int .i64 ids.length) := by rw [obj_cell h.1, grC_n h.2]
theorem Gr.at {W : World} {g : Nat} {ids : List Int} (h : Gr W g ids) (j : Nat) (hj : j < 32) : W.cell? ⟨g, j, none⟩ = some (.int .i64 ((padI ids).getD j 0)) := by rw [obj_cell h.1, grC_at h.2 hj]
theorem Gr.f {W : World} {g : Nat} {ids : List Int} (h : Gr W g ids) (i : Nat) : W.frozen? ⟨g, i, none⟩ = false := obj_free h.1 i
theorem Gr.keep {S : Nat → Prop} {W w' : World} {g : Nat} {ids : List Int} (h : Gr W g ids) (hf : Frm S W w') (hs : ¬ S g) : Gr w' g ids := ⟨hf.obj h.1 hs, h.2⟩
theorem Gr.keepB {W w' : World} {g : Nat} {ids : List Int} (h : Gr W g ids) (hb : Below W.heap.size W w') : Gr w' g ids := h.keep (Frm.of_below hb fun _ => False) id
theorem Gr.lt {W : World} {g : Nat} {ids : List Int} (h : Gr W g ids) : g < W.heap.size := lt_of_block h.1
theorem Gr.ne {W : World} {g b : Nat} {ids : List Int} {v : Value} {xs : List Int} {st : Int} (h : Gr W g ids) (ha : Ar W b v xs st) : g ≠ b := obj_ne h.1 ha.1 (by decide)
theorem Gr.neR {W : World} {g : Nat} {ids : List Int} (h : Gr W g ids) {base : Nat} {e : TypeId} {size : Nat} {v : Value} {n : Nat} {xs : List Value} (ho : W.ownsRow base e size v n xs) (hne : e ≠ 68) : v.ownBlock ≠ some g := row_ne ho h.1 hne
theorem Gr.cells {W : World} {g : Nat} {ids : List Int} (h : Gr W g ids) : ∀ j, j < (padI ids).length → W.cell? ⟨g, 0 + j, none⟩ = some (.int .i64 ((padI ids).getD j 0)) := by
  intro j hj
  rw [padI_len h.2] at hj
  rw [Nat.zero_add]
  exact h.at j hj

theorem in_nil (W : World) : Calls Try.prog 69 #[.pointer none] W fun e w' => e = .returned (.slice none 0 0) ∧ W = w' := by
  go_enter Try.func69, Try.ntmps69
  go_wp2
  go_ret
  exact ⟨rfl, rfl⟩
theorem in_some {W : World} {g : Nat} {ids : List Int} (h : Gr W g ids) : Calls Try.prog 69 #[.pointer (some ⟨g, 0, none⟩)] W fun e w' => e = .returned (.slice (some ⟨g, 0, none⟩) ids.length 32) ∧ Below W.heap.size W w' := by
  have c := h.n
  have hl := h.2
  clear h
  generalize ids.length = n at *
  have hl' : (n : Int) ≤ 32 := by omega
  go_enter Try.func69, Try.ntmps69
  go_wp2
  go_big_quiet (fail)
  go_wp2
  go_ret
  exact ⟨rfl, drewB (Below.refl _ _) _⟩

theorem glen_nil (W : World) : Calls Try.prog 44 #[.pointer none] W fun e w' => e = .returned (.int .i64 0) ∧ W = w' := by
  go_enter Try.func44, Try.ntmps44
  go_wp2_with (go_at_call 69; refine (in_nil _).mono ?_; rintro e w' ⟨rfl, rfl⟩)
  go_ret
  exact ⟨rfl, rfl⟩
theorem glen_some {W : World} {g : Nat} {ids : List Int} (h : Gr W g ids) : Calls Try.prog 44 #[.pointer (some ⟨g, 0, none⟩)] W fun e w' => e = .returned (.int .i64 ids.length) ∧ Below W.heap.size W w' := by
  have H := Lib.hid h
  clear h
  go_enter Try.func44, Try.ntmps44
  go_wp2_with (go_at_call 69; refine (in_some H.out).mono ?_; rintro e w' ⟨rfl, hb⟩)
  go_ret
  exact ⟨rfl, hb⟩

theorem gcells_nil (W : World) : Calls Try.prog 43 #[.pointer none] W fun e w' => e = .returned (.slice none 0 0) ∧ W = w' := by
  go_enter Try.func43, Try.ntmps43
  go_wp2_with (first
    | (go_at_call 69; refine (in_nil _).mono ?_; rintro e w' ⟨rfl, rfl⟩)
    | (go_at_call 73; refine (Try.slices_Clone_int_nil 0 0 _).mono ?_; rintro e w' ⟨rfl, rfl⟩))
  go_ret
  exact ⟨rfl, rfl⟩

/-- A new row of numbers. -/
def NewRow (W w' : World) (v : Value) (ids : List Int) : Prop :=
  w'.ownsRow W.heap.size 3 1 v ids.length (ids.map (Value.int .i64)) ∧ Below W.heap.size W w'
theorem row_base {w : World} {B B' : Nat} {e : TypeId} {size : Nat} {v : Value} {n : Nat} {xs : List Value} (h : w.ownsRow B e size v n xs) (hb : B' ≤ B) : w.ownsRow B' e size v n xs :=
  ⟨h.1, h.2.imp id fun ⟨g, cap, cur, hv, hg, r⟩ => ⟨g, cap, cur, hv, Nat.le_trans hb hg, r⟩⟩
theorem NewRow.old {W w1 w2 : World} {v : Value} {ids : List Int} (h : NewRow w1 w2 v ids) (hb : Below W.heap.size W w1) : NewRow W w2 v ids := ⟨row_base h.1 hb.size, bthen hb h.2⟩
theorem gclone {W : World} {g : Nat} {ids : List Int} (h : Gr W g ids) : Calls Try.prog 73 #[.slice (some ⟨g, 0, none⟩) ids.length 32] W fun e w' => ∃ v, e = .returned v ∧ NewRow W w' v ids := by
  refine (Try.slices_Clone_int g 0 ids.length 32 (padI ids) W (by rw [padI_len h.2]; exact h.2) (by have := h.2; omega) h.cells).mono ?_
  rintro e w' ⟨v, rfl, h1, _, h2⟩
  rw [padI_take] at h1
  exact ⟨v, rfl, h1, h2⟩
theorem gcells_some {W : World} {g : Nat} {ids : List Int} (h : Gr W g ids) : Calls Try.prog 43 #[.pointer (some ⟨g, 0, none⟩)] W fun e w' => ∃ v, e = .returned v ∧ NewRow W w' v ids := by
  have H := Lib.hid h
  clear h
  go_enter Try.func43, Try.ntmps43
  go_wp2_with (first
    | (go_at_call 69; refine (in_some H.out).mono ?_; rintro e w1 ⟨rfl, hb⟩; have HB := Lib.hid hb; clear hb)
    | (go_at_call 73; refine (gclone (H.out.keepB HB.out)).mono ?_; rintro e w2 ⟨v, rfl, hn⟩; have HN := Lib.hid (hn.old HB.out); obtain ⟨p, c, rfl, _⟩ := row_form hn.1; clear hn))
  go_ret
  exact ⟨_, rfl, HN.out⟩
end Go.Proofs.Ytdbjeaploanalaa
