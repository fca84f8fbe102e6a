/-
  MultiOrders: for all sizes and orders the law returns true, and leaves its arguments as they were. No condition.
-/
import Derived.Test.YteinfkcnengmeaaRows
import Derived.Test.YteinfkcnengmeaaMOr
import Derived.Test.YteinfkcnengmeaaShut
import Derived.ProofKit
import Derived.OpenShut
namespace Go.Proofs.Yteinfkcnengmeaa.multiOrders
open Go.ChangeShapes Go.WideShapes Go.ChangeAt Go.RowKit
set_option linter.unusedVariables false

theorem own : ownKnob Try.prog.godebug = none := by kernel_rfl

theorem walkOf {W0 : World} (v0 : Value) (n0 : Nat) (z0 : Nat → Int) (h0 : BysAt W0 v0 n0 z0) (v1 : Value) (n1 : Nat) (z1 : Nat → Int) (h1 : BysAt W0 v1 n1 z1) :
    Calls Try.prog 9 #[v0, v1] W0 fun e w' => e = .returned (.bool true) ∧ Below W0.heap.size W0 w' :=
  walkOr v0 v1 n0 n1 z0 z1 h0 h1

set_option maxRecDepth 100000 in
theorem lifted (os : Os) (started : os.Started) (H : Type) (enc : TypeId × Value → H) :
    ReturnsInHanded {} Try.checked os 9 .any (Rows.multiOrdersSpec.pre6 enc Try.prog Try.f9 Rows.multiOrdersRow.domain false) (Rows.multiOrdersSpec.post enc Try.prog Try.f9 false true false false) := by
  refine returnsInHanded_of_change (C := Try.checked) own started (by kernel_rfl) Try.func9
    (ChangeSpec.witness6 (enc := enc) (C := Try.checked) false ⟨#[], #[.slice none 0 0, .slice none 0 0], []⟩ 8 (by kernel_rfl) (by kernel_rfl) (by kernel_rfl) (by kernel_rfl)) ?_
  intro W base args ds gs before hval0 hW hcnd _
  have hval : ∀ (j : Nat) t v, Try.f9.params[j]? = some t → args[j]? = some v → Value.okWide Try.prog W .any base t v := hval0
  have hW' := hW
  have hlt : ∀ p ∈ before, p.block < W.heap.size := fun p hp => hW.lt p hp
  obtain ⟨p, q, hA0, hV, rfl, hfz, hnd⟩ := hW
  have hA : DataW.TrodAll enc Try.prog W 0 (fun _ => true) true Try.f9.params.toList args.toList ds p := hA0
  rw [Try.params9] at hA hval
  obtain ⟨v0, vs0, d0, ds0, p0, q0, hargs, rfl, rfl, h0, r0⟩ := trodAll_cons hA
  obtain ⟨v1, vs1, d1, ds1, p1, q1, rfl, rfl, rfl, h1, r1⟩ := trodAll_cons r0
  obtain ⟨rfl, rfl, rfl⟩ := trodAll_nil r1
  obtain rfl : args = #[v0, v1] := by cases args; simp_all
  obtain ⟨rfl, rfl⟩ := trodVars_none hV
  have t0 := h0
  obtain ⟨n0, z0, hO0⟩ : ∃ n z, BysAt W v0 n z := by
    obtain ⟨aa, len, cap, rfl⟩ := okWide_slice Try.underlying64 (hval 0 64 v0 rfl rfl)
    obtain ⟨fuel, hf⟩ := h0
    exact open_bys (by simpa [Value.cells] using hf)
  have t1 := h1
  obtain ⟨n1, z1, hO1⟩ : ∃ n z, BysAt W v1 n z := by
    obtain ⟨aa, len, cap, rfl⟩ := okWide_slice Try.underlying64 (hval 1 64 v1 rfl rfl)
    obtain ⟨fuel, hf⟩ := h1
    exact open_bys (by simpa [Value.cells] using hf)
  clear hA0 hval0
  refine (walkOf v0 n0 z0 hO0 v1 n1 z1 hO1 (W0 := W)).mono fun e W' ⟨he, hb⟩ => ?_
  subst he
  have lo : laidOutB Try.prog = true := by kernel_rfl
  have tsize : Try.prog.types.size = 221 := by kernel_rfl
  simp only [List.append_nil] at hW'
  refine ⟨_, rfl, shut_same hb hW' (fun _ _ _ => trodAll_cons_mk (shut_bool Try.underlying4 _) trodAll_mk0) ?_ rfl⟩
  have k0 := Below.trod lo (by kernel_rfl) (by rw [tsize]; decide) t0 hb (fun x hx => hlt x (by simp [hx]))
  have k1 := Below.trod lo (by kernel_rfl) (by rw [tsize]; decide) t1 hb (fun x hx => hlt x (by simp [hx]))
  have kk := (trodAll_cons_mk k0 (trodAll_cons_mk k1 trodAll_mk0))
  simp only [List.append_nil] at kk ⊢
  exact kk

theorem over : Rows.multiOrdersRow.holds Try.pinned (OpenSpec.ofChange Rows.multiOrdersSpec) :=
  OpenClaim.holds_of_wide 9 Try.f9 rfl rfl rfl rfl rfl rfl rfl ⟨rfl, rfl, rfl, rfl, rfl⟩ rfl rfl rfl rfl rfl (by kernel_rfl) Try.func9 (by kernel_rfl)
    (of_decide_eq_true (by kernel_rfl)) (by unfold Func.isWrapper; first | (rw [if_pos (by decide +kernel)]; kernel_rfl) | (rw [if_neg (by decide +kernel)]; exact ⟨rfl, rfl⟩))
    (fun os started H enc _ => lifted os started H enc)

theorem proved : Rows.MultiOrdersSaid :=
  over
end Go.Proofs.Yteinfkcnengmeaa.multiOrders
