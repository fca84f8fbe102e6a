/-
  GraphPlays: for whatever is done with a graph the law returns true, and leaves its argument as it was. No condition.
-/
import Derived.Test.YtggjimeligbmcabRows
import Derived.Test.YtggjimeligbmcabGr36
import Derived.Test.YtggjimeligbmcabOpsGr
import Derived.Test.YtggjimeligbmcabShut
import Derived.ProofKit
import Derived.OpenShut
namespace Go.Proofs.Ytggjimeligbmcab.graphPlays
open Go.ChangeShapes Go.WideShapes Go.ChangeAt Go.RowKit
set_option linter.unusedVariables false

theorem own : ownKnob Try.prog.godebug = none := by kernel_rfl

theorem walkOf {W0 : World} (v0 : Value) (n0 : Nat) (z0 : Nat → OpD) (h0 : OpsG W0 v0 n0 z0) :
    Calls Try.prog 3 #[v0] W0 fun e w' => e = .returned (.bool true) ∧ Below W0.heap.size W0 w' :=
  gplays_walk h0

set_option maxRecDepth 100000 in
theorem lifted (os : Os) (started : os.Started) (H : Type) (enc : TypeId × Value → H) :
    ReturnsInHanded {} Try.checked os 3 .any (Rows.graphPlaysSpec.pre6 enc Try.prog Try.f3 Rows.graphPlaysRow.domain false) (Rows.graphPlaysSpec.post enc Try.prog Try.f3 false true false false) := by
  refine returnsInHanded_of_change (C := Try.checked) own started (by kernel_rfl) Try.func3
    (ChangeSpec.witness6 (enc := enc) (C := Try.checked) false ⟨#[], #[.slice none 0 0], []⟩ 8 (by kernel_rfl) (by kernel_rfl) (by kernel_rfl) (by kernel_rfl)) ?_
  intro W base args ds gs before hval0 hW hcnd _
  have hval : ∀ (j : Nat) t v, Try.f3.params[j]? = some t → args[j]? = some v → Value.okWide Try.prog W .any base t v := hval0
  have hW' := hW
  have hlt : ∀ p ∈ before, p.block < W.heap.size := fun p hp => hW.lt p hp
  obtain ⟨p, q, hA0, hV, rfl, hfz, hnd⟩ := hW
  have hA : DataW.TrodAll enc Try.prog W 0 (fun _ => true) true Try.f3.params.toList args.toList ds p := hA0
  rw [Try.params3] at hA hval
  obtain ⟨v0, vs0, d0, ds0, p0, q0, hargs, rfl, rfl, h0, r0⟩ := trodAll_cons hA
  obtain ⟨rfl, rfl, rfl⟩ := trodAll_nil r0
  obtain rfl : args = #[v0] := by cases args; simp_all
  obtain ⟨rfl, rfl⟩ := trodVars_none hV
  have t0 := h0
  obtain ⟨n0, z0, hO0⟩ : ∃ n z, OpsG W v0 n z := by
    obtain ⟨aa, len, cap, rfl⟩ := okWide_slice Try.underlying22 (hval 0 22 v0 rfl rfl)
    obtain ⟨fuel, hf⟩ := h0
    exact open_opsG (by simpa [Value.cells] using hf)
  clear hA0 hval0
  refine (walkOf v0 n0 z0 hO0 (W0 := W)).mono fun e W' ⟨he, hb⟩ => ?_
  subst he
  have lo : laidOutB Try.prog = true := by kernel_rfl
  have tsize : Try.prog.types.size = 126 := by kernel_rfl
  simp only [List.append_nil] at hW'
  refine ⟨_, rfl, shut_same hb hW' (fun _ _ _ => trodAll_cons_mk (shut_bool Try.underlying4 _) trodAll_mk0) ?_ rfl⟩
  have k0 := Below.trod lo (by kernel_rfl) (by rw [tsize]; decide) t0 hb (fun x hx => hlt x (by simp [hx]))
  have kk := (trodAll_cons_mk k0 trodAll_mk0)
  simp only [List.append_nil] at kk ⊢
  exact kk

theorem over : Rows.graphPlaysRow.holds Try.pinned (OpenSpec.ofChange Rows.graphPlaysSpec) :=
  OpenClaim.holds_of_wide 3 Try.f3 rfl rfl rfl rfl rfl rfl rfl ⟨rfl, rfl, rfl, rfl, rfl⟩ rfl rfl rfl rfl rfl (by kernel_rfl) Try.func3 (by kernel_rfl)
    (of_decide_eq_true (by kernel_rfl)) (by unfold Func.isWrapper; first | (rw [if_pos (by decide +kernel)]; kernel_rfl) | (rw [if_neg (by decide +kernel)]; exact ⟨rfl, rfl⟩))
    (fun os started H enc _ => lifted os started H enc)

theorem proved : Rows.GraphPlaysSaid :=
  over
end Go.Proofs.Ytggjimeligbmcab.graphPlays
