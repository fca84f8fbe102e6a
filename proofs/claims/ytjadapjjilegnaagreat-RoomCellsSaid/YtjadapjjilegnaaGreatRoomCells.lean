/-
  RoomCells: for every shift, kind and number the law returns true, and leaves its arguments as they were. No condition.
-/
import Derived.Test.YtjadapjjilegnaaGreatRows
import Derived.Test.YtjadapjjilegnaaGreatRc0
import Derived.Test.YtjadapjjilegnaaGreatShut
import Derived.ProofKit
import Derived.OpenShut
namespace Go.Proofs.YtjadapjjilegnaaGreat.roomCells
open Go.ChangeShapes Go.WideShapes Go.ChangeAt Go.RowKit
set_option linter.unusedVariables false

theorem own : ownKnob Tryz.prog.godebug = none := by kernel_rfl

theorem walkOf (sh : Int) (w0 : (Lit.int .u8 sh).wf = true) (kd : Int) (w1 : (Lit.int .u8 kd).wf = true) (nn : Int) (w2 : (Lit.int .u8 nn).wf = true) {W0 : World} :
    Calls Tryz.prog 6 #[.int .u8 sh, .int .u8 kd, .int .u8 nn] W0 fun e w' => e = .returned (.bool true) ∧ Below W0.heap.size W0 w' := by
  have h0 := (u8_wf w0).1
  have h1 := (u8_wf w1).1
  have h2 := u8_wf w2
  have hk : sh % 6 = ((sh % 6).toNat : Int) := by have := Int.emod_nonneg sh (show (6 : Int) ≠ 0 by decide); omega
  have hz : kd % 2 = if decide (kd % 2 = 1) = true then 1 else 0 := by
    by_cases e : kd % 2 = 1
    · simp [e]
    · simp [e]; omega
  exact cells_walk W0 sh kd nn h0 (sh % 6).toNat hk (by omega) (decide (kd % 2 = 1)) h1 hz h2.1 h2.2

set_option maxRecDepth 100000 in
theorem lifted (os : Os) (started : os.Started) (H : Type) (enc : TypeId × Value → H) :
    ReturnsInHanded {} Tryz.checked os 6 .any (Rows.roomCellsSpec.pre6 enc Tryz.prog Tryz.f6 Rows.roomCellsRow.domain false) (Rows.roomCellsSpec.post enc Tryz.prog Tryz.f6 false true false false) := by
  refine returnsInHanded_of_change (C := Tryz.checked) own started (by kernel_rfl) Tryz.func6
    (ChangeSpec.witness6 (enc := enc) (C := Tryz.checked) false ⟨#[], #[.int .u8 0, .int .u8 0, .int .u8 0], []⟩ 8 (by kernel_rfl) (by kernel_rfl) (by kernel_rfl) (by kernel_rfl)) ?_
  intro W base args ds gs before hval0 hW hcnd _
  have hval : ∀ (j : Nat) t v, Tryz.f6.params[j]? = some t → args[j]? = some v → Value.okWide Tryz.prog W .any base t v := hval0
  have hW' := hW
  have hlt : ∀ p ∈ before, p.block < W.heap.size := fun p hp => hW.lt p hp
  obtain ⟨p, q, hA0, hV, rfl, hfz, hnd⟩ := hW
  have hA : DataW.TrodAll enc Tryz.prog W 0 (fun _ => true) true Tryz.f6.params.toList args.toList ds p := hA0
  rw [Tryz.params6] at hA hval
  obtain ⟨v0, vs0, d0, ds0, p0, q0, hargs, rfl, rfl, h0, r0⟩ := trodAll_cons hA
  obtain ⟨v1, vs1, d1, ds1, p1, q1, rfl, rfl, rfl, h1, r1⟩ := trodAll_cons r0
  obtain ⟨v2, vs2, d2, ds2, p2, q2, rfl, rfl, rfl, h2, r2⟩ := trodAll_cons r1
  obtain ⟨rfl, rfl, rfl⟩ := trodAll_nil r2
  obtain rfl : args = #[v0, v1, v2] := by cases args; simp_all
  obtain ⟨rfl, rfl⟩ := trodVars_none hV
  have t0 := h0
  obtain ⟨a0, rfl, _, _, w0⟩ := open_int Tryz.underlying5 (hval 0 5 v0 rfl rfl) h0
  have t1 := h1
  obtain ⟨a1, rfl, _, _, w1⟩ := open_int Tryz.underlying5 (hval 1 5 v1 rfl rfl) h1
  have t2 := h2
  obtain ⟨a2, rfl, _, _, w2⟩ := open_int Tryz.underlying5 (hval 2 5 v2 rfl rfl) h2
  clear hA0 hval0
  refine (walkOf a0 w0 a1 w1 a2 w2 (W0 := W)).mono fun e W' ⟨he, hb⟩ => ?_
  subst he
  have lo : laidOutB Tryz.prog = true := by kernel_rfl
  have tsize : Tryz.prog.types.size = 312 := by kernel_rfl
  simp only [List.append_nil] at hW'
  refine ⟨_, rfl, shut_same hb hW' (fun _ _ _ => trodAll_cons_mk (shut_bool Tryz.underlying4 _) trodAll_mk0) ?_ rfl⟩
  have k0 := Below.trod lo (by kernel_rfl) (by rw [tsize]; decide) t0 hb (fun x hx => hlt x (by simp [hx]))
  have k1 := Below.trod lo (by kernel_rfl) (by rw [tsize]; decide) t1 hb (fun x hx => hlt x (by simp [hx]))
  have k2 := Below.trod lo (by kernel_rfl) (by rw [tsize]; decide) t2 hb (fun x hx => hlt x (by simp [hx]))
  have kk := (trodAll_cons_mk k0 (trodAll_cons_mk k1 (trodAll_cons_mk k2 trodAll_mk0)))
  simp only [List.append_nil] at kk ⊢
  exact kk

theorem over : Rows.roomCellsRow.holds Tryz.pinned (OpenSpec.ofChange Rows.roomCellsSpec) :=
  OpenClaim.holds_of_wide 6 Tryz.f6 rfl rfl rfl rfl rfl rfl rfl ⟨rfl, rfl, rfl, rfl, rfl⟩ rfl rfl rfl rfl rfl (by kernel_rfl) Tryz.func6 (by kernel_rfl)
    (of_decide_eq_true (by kernel_rfl)) (by unfold Func.isWrapper; first | (rw [if_pos (by decide +kernel)]; kernel_rfl) | (rw [if_neg (by decide +kernel)]; exact ⟨rfl, rfl⟩))
    (fun os started H enc _ => lifted os started H enc)

theorem proved : Rows.RoomCellsSaid :=
  over
end Go.Proofs.YtjadapjjilegnaaGreat.roomCells
