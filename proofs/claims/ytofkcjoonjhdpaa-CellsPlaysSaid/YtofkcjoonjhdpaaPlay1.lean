/-
  One thing done to both arenas (norialaw03.play), where a cell is laid: by contract. Conditions: both arenas are the same, at most 1000 cells and steps.
-/
import Derived.Test.YtofkcjoonjhdpaaPlay0
import Derived.Test.YtofkcjoonjhdpaaMem2
import Derived.OwnWalk
namespace Go.Proofs.Ytofkcjoonjhdpaa
open Go.RowKit

/-- Both are the same, of at most k cells and steps. -/
def PS (W0 W : World) (ba bm k : Nat) : Prop :=
  ∃ v u xs st, Two W0 W ba bm v u xs st xs st ∧ xs.length ≤ k ∧ 0 ≤ st ∧ st ≤ k ∧ ∀ x ∈ xs, -9223372036854775808 ≤ x ∧ x ≤ 9223372036854775807

theorem PS.keep {W0 W w' : World} {ba bm k : Nat} (h : PS W0 W ba bm k) (hb : Below W.heap.size W w') : PS W0 w' ba bm k := by
  obtain ⟨v, u, xs, st, h, r⟩ := h
  exact ⟨v, u, xs, st, h.keep hb, r⟩

/-- What is done lies in a block of its own. -/
def OpAt (W : World) (b : Nat) (kind id old x : Int) : Prop := W.heap[b]? = some (.cells #[.int .i64 kind, .int .i64 id, .int .i64 old, .int .i64 x] 31 (0, 0))
theorem OpAt.keep {W w' : World} {ba bm b : Nat} {v u : Value} {xs ys : List Int} {W0 : World} {st su kind id old x : Int} (h : OpAt W b kind id old x) (t : Two W0 W ba bm v u xs st ys su) (hf : Frm (fun k => k = ba ∨ v.ownBlock = some k) W w') : OpAt w' b kind id old x :=
  hf.obj h fun e => e.elim (obj_ne h t.1.1 (by decide)) fun e => row_ne t.1.2 h (by decide) e

set_option maxRecDepth 100000 in
set_option maxHeartbeats 1000000 in
theorem play0 (W0 W : World) (ba bm : Nat) (v u : Value) (xs : List Int) (st : Int) (k : Nat) (h : Two W0 W ba bm v u xs st xs st) (hk : k ≤ 1000) (hl : xs.length ≤ k) (hs0 : 0 ≤ st) (hs1 : st ≤ k) (hx : ∀ x ∈ xs, -9223372036854775808 ≤ x ∧ x ≤ 9223372036854775807)
    (id old x : Int) (hx1 : -9223372036854775808 ≤ x) (hx2 : x ≤ 9223372036854775807) :
    Calls Try.prog 10 #[.pointer (some ⟨ba, 0, none⟩), .pointer (some ⟨bm, 0, none⟩), .agg #[.int .i64 0, .int .i64 id, .int .i64 old, .int .i64 x]] W fun e w' => e = .returned (.bool true) ∧ PS W0 w' ba bm (k + 1) := by
  obtain ⟨i0, hi0, hz0, hz1, hz2⟩ := info_parts infoI64
  have H := Lib.hid h
  have HX := Lib.hid hx
  have HS1 := Lib.hid hs1
  clear h hx hs1
  go_enter Try.func10, Try.ntmps10
  go_wp2_with fail
  refine (alloc_some x _ ba v xs st (H.out.1.keepB (balloc (Below.refl _ _) _)) (by omega)).mono ?_
  rintro e w2 ⟨rfl, hs⟩
  obtain ⟨v2, h2, hf2⟩ := (H.out.keep (balloc (Below.refl _ _) _)).step hs
  have ho2 : OpAt w2 W.heap.size 0 id old x := OpAt.keep (obj_new W _) (H.out.keep (balloc (Below.refl _ _) _)) hf2
  have hc3 : w2.cell? ⟨W.heap.size, 3, none⟩ = some (.int .i64 x) := (obj_cell ho2 3).trans rfl
  have hu0 := h2.2.1.c0
  have hne := h2.2.1.ne
  obtain ⟨pu, cu, rfl, hcu⟩ := row_form h2.2.1.2
  have hu1 : (w2.alloc (.cells #[.int .i64 x] 2)).cell? ⟨bm, 0, none⟩ = some (.slice pu xs.length cu) := keepc (balloc (Below.refl _ _) _) hu0
  have HNE := Lib.hid hne
  have H2 := Lib.hid h2.drew
  clear hs hf2 ho2 h2 hcu hne
  go_wp2_with fail
  go_region_law (refine step_append_row rfl (.tmp 35) (.tmp 38) 27 rfl 2 i0 (.int .i64 0) 1 8 Try.underlying27 hi0 hz0 hz1 hz2 rfl (by decide) (.slice pu xs.length cu) xs.length _ rfl (H2.out.2.1.2.alloc _) ⟨w2.heap.size, 0, none⟩ 1 1 [.int .i64 x] rfl rfl (one_cell w2.drew _ _) (fun x hx => by simp at hx; subst hx; rfl) (by unfold maxLen; omega) (by omega) ?_; intro v' w3 hown3 hf3 hv3; have hob := hf3.obj (obj_old _ H2.out.2.1.1) HNE.out; have hcc : w3.cell? ⟨bm, 0, none⟩ = some (.slice pu xs.length cu) := (obj_cell hob 0).trans rfl; have hff := obj_free hob 0; have HE := Lib.hid (Two.app H2.out hown3 hf3 hv3); obtain ⟨p', c', rfl, hc'⟩ := row_form hown3; clear hob hown3 hf3 hv3 hc')
  all_goals
    go_wp2
    go_ret
    exact ⟨rfl, _, _, _, _, HE.out, by simp; omega, hs0, by have := HS1.out; omega, fun y hy => by
      rcases List.mem_append.1 hy with h | h
      · exact HX.out y h
      · simp at h; subst h; exact ⟨hx1, hx2⟩⟩
end Go.Proofs.Ytofkcjoonjhdpaa
