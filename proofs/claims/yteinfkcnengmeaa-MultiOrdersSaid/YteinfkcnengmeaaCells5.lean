/-
  New, Len, Steps and Clone of package cells, and the statements' own example, by contract. Conditions: the arena's row is its own; for Clone at most 2097152 cells.
-/
import Derived.Test.YteinfkcnengmeaaCells4
import Derived.Test.YteinfkcnengmeaaRefused
import Derived.WalkSpells
import Derived.OwnWalk
namespace Go.Proofs.Yteinfkcnengmeaa
open Go.RowKit
theorem new_any (W : World) :
    Calls Try.prog 24 #[] W fun e w' => e = .returned (.pointer (some ⟨W.heap.size, 0, none⟩)) ∧ Ar w' W.heap.size (.slice none 0 0) [] 0 ∧ Below W.heap.size W w' := by
  go_enter Try.func24, Try.ntmps24
  go_wp2
  go_ret
  exact ⟨rfl, ⟨obj_new _ _, World.ownsRow_nil _ _ _ _⟩, by go_grown⟩
theorem len_nil (W : World) : Calls Try.prog 26 #[.pointer none] W fun e w' => e = .returned (.int .i64 0) ∧ W = w' := by
  go_enter Try.func26, Try.ntmps26
  go_wp2
  go_ret
  exact ⟨rfl, rfl⟩
theorem steps_nil (W : World) : Calls Try.prog 27 #[.pointer none] W fun e w' => e = .returned (.int .i64 0) ∧ W = w' := by
  go_enter Try.func27, Try.ntmps27
  go_wp2
  go_ret
  exact ⟨rfl, rfl⟩
theorem clone_nil (W : World) : Calls Try.prog 28 #[.pointer none] W fun e w' => e = .returned (.pointer none) ∧ W = w' := by
  go_enter Try.func28, Try.ntmps28
  go_wp2
  go_ret
  exact ⟨rfl, rfl⟩
theorem len_some (W : World) (b : Nat) (v : Value) (xs : List Int) (st : Int) (h : Ar W b v xs st) : Calls Try.prog 26 #[.pointer (some ⟨b, 0, none⟩)] W fun e w' => e = .returned (.int .i64 xs.length) ∧ W = w' := by
  have c0 := h.c0
  obtain ⟨p, c, rfl, hc⟩ := row_form h.2
  clear h hc
  go_enter Try.func26, Try.ntmps26
  go_wp2
  go_ret
  exact ⟨rfl, rfl⟩
theorem steps_some (W : World) (b : Nat) (v : Value) (xs : List Int) (st : Int) (h : Ar W b v xs st) : Calls Try.prog 27 #[.pointer (some ⟨b, 0, none⟩)] W fun e w' => e = .returned (.int .i64 st) ∧ W = w' := by
  have c1 := h.c1
  clear h
  go_enter Try.func27, Try.ntmps27
  go_wp2
  go_ret
  exact ⟨rfl, rfl⟩
/-- A row of its own, new. -/
def Fresh (W w' : World) (n : Nat) (ys : List Value) (e : Ending) : Prop :=
  ∃ v', e = .returned v' ∧ w'.ownsRow 0 2 1 v' n ys ∧ Below W.heap.size W w' ∧ ∀ g, v'.ownBlock = some g → W.heap.size ≤ g
theorem fresh_end {W w' : World} {v' : Value} {n : Nat} {ys : List Value} (T : TypeId) (hown : w'.ownsRow 0 2 1 v' n ys) (hf : Frm (fun k => (Value.slice (some ⟨W.heap.size, 0, none⟩) 0 0).ownBlock = some k) (W.alloc (.cells #[] T)) w')
    (hv : v'.ownBlock = (Value.slice (some ⟨W.heap.size, 0, none⟩) 0 0).ownBlock ∨ ∀ g, v'.ownBlock = some g → (W.alloc (.cells #[] T)).heap.size ≤ g) : Fresh W w' n ys (.returned v') := by
  refine ⟨v', rfl, hown, ?_, ?_⟩
  · have h : Frm (fun k => W.heap.size ≤ k) W w' := ((Frm.refl _ W).alloc _).then hf fun k hk he => by simp [Value.ownBlock] at he; omega
    exact h.below (Nat.le_refl _) fun _ h => h
  · intro g hg
    rcases hv with hv | hv
    · rw [hv] at hg; simp [Value.ownBlock] at hg; omega
    · have := hv g hg; simp at this; omega
set_option maxRecDepth 100000 in
theorem sclone_any (W : World) (v : Value) (n : Nat) (ys : List Value) (ho : W.ownsRow 0 2 1 v n ys) (hy : ∀ u ∈ ys, u.oneCell' = true) (hl : (n : Int) ≤ 2097152) :
    Calls Try.prog 85 #[v] W fun e w' => Fresh W w' n ys e := by
  obtain ⟨i0, hi, hz0, hz1, hz2⟩ := info_parts infoI64
  have HO := Lib.hid ho
  have HB := Lib.hid hl
  have HY := Lib.hid hy
  rcases ho.2 with ⟨rfl, rfl⟩ | ⟨g, cap, cur, rfl, _, hg, hnc, hcm, hcs, htake⟩
  · have hy0 : ys = [] := List.eq_nil_of_length_eq_zero (by simpa using ho.1)
    subst hy0
    clear ho hl hy
    have keq := fun w : World => Lib.run_eql_slice_nil (P := Try.prog) w 38 2 none 0 0 0 0 Try.underlying38
    go_enter Try.func85, Try.ntmps85
    go_wp2
    go_ret
    exact ⟨_, rfl, World.ownsRow_nil _ _ _ _, Below.refl _ _, by simp [Value.ownBlock]⟩
  · have hnews : ∀ w' : World, Frm (fun _ => False) W w' → ∀ j u, ys[j]? = some u → w'.cell? ((⟨g, 0, none⟩ : Addr).add j) = some u := fun w' hf => (hf.row ho fun _ _ => id).cells (g := g) rfl
    have HN := Lib.hid hnews
    have HM := Lib.hid ho.1
    clear ho hl hy hg hnc hcm hcs htake hnews
    have keq := fun w : World => Lib.run_eql_slice_nil (P := Try.prog) w 38 2 (some ⟨g, 0, none⟩) n cap 0 0 Try.underlying38
    go_enter Try.func85, Try.ntmps85
    go_wp2_with (at_builtin; refine wpList_append_row rfl _ _ 38 rfl 2 i0 (.int .i64 0) 1 8 Try.underlying38 hi hz0 hz1 hz2 rfl (by decide) (.slice (some ⟨W.heap.size, 0, none⟩) 0 0) 0 [] rfl (World.ownsRow_lit W #[] 0 (Nat.zero_le _) (Nat.zero_le _) rfl) ⟨g, 0, none⟩ n cap ys rfl HM.out (HN.out _ ((Frm.refl _ _).alloc _)) HY.out (by have := HB.out; unfold maxLen; omega) (by have := HB.out; omega) ?_; intro v' w3 hown3 hf3 hv3; simp only [Nat.zero_add, List.nil_append] at hown3; obtain ⟨p', c', rfl, hc'⟩ := row_form hown3; have HE := Lib.hid (fresh_end _ hown3 hf3 hv3); clear hown3 hf3 hv3 hc')
    go_ret
    exact HE.out
/-- A clone: the same, new. -/
def Cloned (W w' : World) (xs : List Int) (st : Int) (e : Ending) : Prop :=
  ∃ b v', e = .returned (.pointer (some ⟨b, 0, none⟩)) ∧ Ar w' b v' xs st ∧ Below W.heap.size W w' ∧ W.heap.size ≤ b ∧ ∀ g, v'.ownBlock = some g → W.heap.size ≤ g
theorem clone_end {W w2 : World} {v' : Value} {xs : List Int} {st : Int} (hb : Below W.heap.size W w2) (ho : w2.ownsRow 0 2 1 v' xs.length (xs.map (Value.int .i64))) (hg : ∀ g, v'.ownBlock = some g → W.heap.size ≤ g) :
    Cloned W (w2.alloc (.cells #[v', .int .i64 st] 135)) xs st (.returned (.pointer (some ⟨w2.heap.size, 0, none⟩))) :=
  ⟨_, v', rfl, ⟨obj_new _ _, ho.alloc _⟩, balloc hb _, hb.size, hg⟩
theorem cl_row {W a : World} {b n : Nat} {v x u : Value} {ys : List Value} (h : a.cell? ⟨b, 0, none⟩ = some v ∧ a.cell? ⟨b, 1, none⟩ = some x ∧ Below W.heap.size W a) (ho : W.ownsRow 0 2 1 u n ys) : a.ownsRow 0 2 1 u n ys :=
  (Frm.of_below h.2.2 fun _ => False).row ho fun _ _ => id
set_option maxRecDepth 100000 in
set_option maxHeartbeats 1000000 in
theorem clone_some (W : World) (b : Nat) (v : Value) (xs : List Int) (st : Int) (h : Ar W b v xs st) (hl : (xs.length : Int) ≤ 2097152) :
    Calls Try.prog 28 #[.pointer (some ⟨b, 0, none⟩)] W fun e w' => Cloned W w' xs st e := by
  have c0 := h.c0
  have c1 := h.c1
  have HR := Lib.hid h.2
  have HB := Lib.hid hl
  obtain ⟨p, c, rfl, hc⟩ := row_form h.2
  clear h hl hc
  go_enter Try.func28, Try.ntmps28
  go_wp2_with fail
  go_region_held3 (fun w' => w'.cell? ⟨b, 0, none⟩ = some (.slice p xs.length c) ∧ w'.cell? ⟨b, 1, none⟩ = some (.int .i64 st) ∧ Below W.heap.size W w') (first
      | exact ⟨by assumption, by assumption, by assumption⟩
      | exact ⟨by go_simp, by go_simp, Below.drew (by assumption)⟩
      | exact ⟨by go_simp, by go_simp, (Below.refl _ _).drew⟩
      | exact cl_alloc _ (by assumption)
      | exact cl_keep (by assumption) (by assumption)) (first
      | (go_at_call 85; refine (sclone_any _ _ _ _ (cl_row (by assumption) HR.out) (fun u hu => by simp at hu; obtain ⟨x, _, rfl⟩ := hu; rfl) HB.out).mono ?_; rintro e w3 ⟨v', rfl, ho3, hb3, hg3⟩; obtain ⟨p', c', rfl, hc'⟩ := row_form ho3; have HO3 := Lib.hid ho3; have HG3 := Lib.hid hg3; clear ho3 hg3 hc'))
  go_wp2
  go_ret
  exact clone_end (bthen (Below.drew (Below.refl _ _)) hb3) HO3.out HG3.out
end Go.Proofs.Yteinfkcnengmeaa
