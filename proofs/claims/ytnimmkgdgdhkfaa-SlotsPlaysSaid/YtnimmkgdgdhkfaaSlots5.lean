/-
  slices.Clone of events, Clone of package slots, by contract. Conditions: the ring is one that New made.
-/
import Derived.Test.YtnimmkgdgdhkfaaSlots4
import Derived.WalkSpells
namespace Go.Proofs.Ytnimmkgdgdhkfaa
open Go.RowKit

/-- A row of events, new. -/
def Fresh2 (W w' : World) (n : Nat) (ys : List Value) (e : Ending) : Prop :=
  ∃ v', e = .returned v' ∧ w'.ownsRow 0 67 2 v' n ys ∧ Below W.heap.size W w' ∧ ∀ g, v'.ownBlock = some g → W.heap.size ≤ g
theorem fresh2_end {W w' : World} {v' : Value} {n : Nat} {ys : List Value} (T : TypeId) (hown : w'.ownsRow 0 67 2 v' n ys) (hf : Frm (fun k => (Value.slice (some ⟨W.heap.size, 0, none⟩) 0 0).ownBlock = some k) (W.alloc (.cells #[] T)) w')
    (hv : v'.ownBlock = (Value.slice (some ⟨W.heap.size, 0, none⟩) 0 0).ownBlock ∨ ∀ g, v'.ownBlock = some g → (W.alloc (.cells #[] T)).heap.size ≤ g) : Fresh2 W w' n ys (.returned v') := by
  refine ⟨v', rfl, hown, ?_, ?_⟩
  · have h : Frm (fun k => W.heap.size ≤ k) W w' := ((Frm.refl _ W).alloc _).then hf fun k hk he => by simp [Value.ownBlock] at he; omega
    exact h.below (Nat.le_refl _) fun _ h => h
  · intro g hg
    rcases hv with hv | hv
    · rw [hv] at hg; simp [Value.ownBlock] at hg; omega
    · have := hv g hg; simp at this; omega

theorem flat2_one_cell (xs : List Ev) : ∀ u ∈ flat2 xs, u.oneCell' = true := by
  intro u hu
  unfold flat2 at hu
  rw [List.mem_flatMap] at hu
  obtain ⟨a, _, hu⟩ := hu
  simp at hu
  rcases hu with rfl | rfl <;> rfl

set_option maxRecDepth 100000 in
theorem sclone2_any (W : World) (g n cap : Nat) (ys : List Value) (ho : W.ownsRow 0 67 2 (.slice (some ⟨g, 0, none⟩) n cap) n ys) (hy : ∀ u ∈ ys, u.oneCell' = true) (hl : (n : Int) ≤ 2097152) :
    Calls Try.prog 66 #[.slice (some ⟨g, 0, none⟩) n cap] W fun e w' => Fresh2 W w' n ys e := by
  obtain ⟨i0, hi, hz0, hz1, hz2⟩ := info_parts infoEv
  have HB := Lib.hid hl
  have HY := Lib.hid hy
  have hnews : ∀ w' : World, Frm (fun _ => False) W w' → ∀ j u, ys[j]? = some u → w'.cell? ((⟨g, 0, none⟩ : Addr).add j) = some u := fun w' hf => (hf.row ho fun _ _ => id).cells (g := g) rfl
  have HN := Lib.hid hnews
  have HM := Lib.hid ho.1
  clear ho hl hy hnews
  have keq := fun w : World => Lib.run_eql_slice_nil (P := Try.prog) w 76 67 (some ⟨g, 0, none⟩) n cap 0 0 Try.underlying76
  go_enter Try.func66, Try.ntmps66
  go_wp2_with (at_builtin; refine wpList_append_row rfl _ _ 76 rfl 67 i0 (.agg #[.int .i64 0, .int .i64 0]) 2 16 Try.underlying76 hi hz0 hz1 hz2 rfl (by decide) (.slice (some ⟨W.heap.size, 0, none⟩) 0 0) 0 [] rfl (World.ownsRow_lit W #[] 0 (Nat.zero_le _) (Nat.zero_le _) rfl) ⟨g, 0, none⟩ n cap ys rfl HM.out (HN.out _ ((Frm.refl _ _).alloc _)) HY.out (by have := HB.out; unfold maxLen; omega) (by have := HB.out; omega) ?_; intro v' w3 hown3 hf3 hv3; simp only [Nat.zero_add, List.nil_append] at hown3; obtain ⟨p', c', rfl, hc'⟩ := row_form hown3; have HE := Lib.hid (fresh2_end _ hown3 hf3 hv3); clear hown3 hf3 hv3 hc')
  go_ret
  exact HE.out

/-- A ring's clone: the same, new. -/
def RgCloned (W w' : World) (k : Nat) (xs : List Ev) (e : Ending) : Prop :=
  ∃ b g c, e = .returned (.pointer (some ⟨b, 0, none⟩)) ∧ Rg w' b g c k xs ∧ Below W.heap.size W w' ∧ W.heap.size ≤ b ∧ W.heap.size ≤ g

theorem rclone_end {W w2 : World} {v' : Value} {k : Nat} {xs : List Ev} (hl : (xs.length : Int) = two k) (hk : k ≤ 20) (hb : Below W.heap.size W w2) (ho : w2.ownsRow 0 67 2 v' xs.length (flat2 xs)) (hg : ∀ g, v'.ownBlock = some g → W.heap.size ≤ g) :
    RgCloned W (w2.alloc (.cells #[.int .u8 k, v'] 112)) k xs (.returned (.pointer (some ⟨w2.heap.size, 0, none⟩))) := by
  obtain ⟨g, c, h1, h2⟩ := Rg.start ho hl hk
  exact ⟨_, g, c, rfl, h2, balloc hb _, hb.size, hg g h1⟩

theorem rclone_nil (W : World) : Calls Try.prog 42 #[.pointer none] W fun e w' => e = .returned (.pointer none) ∧ W = w' := by
  go_enter Try.func42, Try.ntmps42
  go_wp2
  go_ret
  exact ⟨rfl, rfl⟩

theorem rcl_row {W a : World} {b g n c : Nat} {v x : Value} {ys : List Value} (h : a.cell? ⟨b, 0, none⟩ = some v ∧ a.cell? ⟨b, 1, none⟩ = some x ∧ Below W.heap.size W a) (ho : W.ownsRow 0 67 2 (.slice (some ⟨g, 0, none⟩) n c) n ys) : a.ownsRow 0 67 2 (.slice (some ⟨g, 0, none⟩) n c) n ys :=
  (Frm.of_below h.2.2 fun _ => False).row ho fun _ _ => id

set_option maxRecDepth 100000 in
set_option maxHeartbeats 1000000 in
theorem rclone_some (W : World) (b g c k : Nat) (xs : List Ev) (h : Rg W b g c k xs) :
    Calls Try.prog 42 #[.pointer (some ⟨b, 0, none⟩)] W fun e w' => RgCloned W w' k xs e := by
  have c0 := h.c0
  have c1 := h.c1
  have HR := Lib.hid h.2.1
  have HL := Lib.hid h.2.2.1
  have hk := h.2.2.2
  have HB := Lib.hid (show (xs.length : Int) ≤ 2097152 by have := h.2.2.1; have := two_le hk; omega)
  clear h
  go_enter Try.func42, Try.ntmps42
  go_wp2_with fail
  go_region_held3 (fun w' => w'.cell? ⟨b, 0, none⟩ = some (.int .u8 k) ∧ w'.cell? ⟨b, 1, none⟩ = some (.slice (some ⟨g, 0, none⟩) xs.length c) ∧ Below W.heap.size W w') (first
      | exact ⟨by assumption, by assumption, by assumption⟩
      | exact ⟨by go_simp, by go_simp, Below.drew (by assumption)⟩
      | exact ⟨by go_simp, by go_simp, (Below.refl _ _).drew⟩
      | exact cl_alloc _ (by assumption)
      | exact cl_keep (by assumption) (by assumption)) (first
      | (go_at_call 66; refine (sclone2_any _ _ _ _ _ (rcl_row (by assumption) HR.out) (flat2_one_cell xs) HB.out).mono ?_; rintro e w3 ⟨v', rfl, ho3, hb3, hg3⟩; obtain ⟨p', c', rfl, hc'⟩ := row_form ho3; have HO3 := Lib.hid ho3; have HG3 := Lib.hid hg3; clear ho3 hg3 hc'))
  go_wp2
  go_ret
  exact rclone_end HL.out hk (bthen (Below.drew (Below.refl _ _)) hb3) HO3.out HG3.out
end Go.Proofs.Ytnimmkgdgdhkfaa
