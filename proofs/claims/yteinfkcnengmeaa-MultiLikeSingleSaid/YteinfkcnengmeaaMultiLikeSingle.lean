/-
  MultiLikeSingle: for every size, sizes and truths the law returns true, and leaves its arguments as they were. No condition.
-/
import Derived.Test.YteinfkcnengmeaaRows
import Derived.Test.YteinfkcnengmeaaMLs
import Derived.Test.YteinfkcnengmeaaShut
import Derived.ProofKit
import Derived.OpenShut
namespace Go.Proofs.Yteinfkcnengmeaa.multiLikeSingle
open Go.ChangeShapes Go.WideShapes Go.ChangeAt Go.RowKit
set_option linter.unusedVariables false

theorem own : ownKnob Try.prog.godebug = none := by kernel_rfl

theorem walkOf {W0 : World} (a0 : Int) (w0 : (Lit.int .u8 a0).wf = true) (v1 : Value) (n1 : Nat) (z1 : Nat → Int) (h1 : BysAt W0 v1 n1 z1) (v2 : Value) (n2 : Nat) (z2 : Nat → Bool) (h2 : BolsAt W0 v2 n2 z2) :
    Calls Try.prog 10 #[.int .u8 a0, v1, v2] W0 fun e w' => e = .returned (.bool true) ∧ Below W0.heap.size W0 w' :=
  walkLS v1 v2 n1 n2 z1 z2 h1 h2 a0 (u8_wf w0).1

set_option maxRecDepth 100000 in
theorem lifted (os : Os) (started : os.Started) (H : Type) (enc : TypeId × Value → H) :
    ReturnsInHanded {} Try.checked os 10 .any (Rows.multiLikeSingleSpec.pre6 enc Try.prog Try.f10 Rows.multiLikeSingleRow.domain false) (Rows.multiLikeSingleSpec.post enc Try.prog Try.f10 false true false false) := by
  refine returnsInHanded_of_change (C := Try.checked) own started (by kernel_rfl) Try.func10
    (ChangeSpec.witness6 (enc := enc) (C := Try.checked) false ⟨#[], #[.int .u8 0, .slice none 0 0, .slice none 0 0], []⟩ 8 (by kernel_rfl) (by kernel_rfl) (by kernel_rfl) (by kernel_rfl)) ?_
  intro W base args ds gs before hval0 hW hcnd _
  have hval : ∀ (j : Nat) t v, Try.f10.params[j]? = some t → args[j]? = some v → Value.okWide Try.prog W .any base t v := hval0
  have hW' := hW
  have hlt : ∀ p ∈ before, p.block < W.heap.size := fun p hp => hW.lt p hp
  obtain ⟨p, q, hA0, hV, rfl, hfz, hnd⟩ := hW
  have hA : DataW.TrodAll enc Try.prog W 0 (fun _ => true) true Try.f10.params.toList args.toList ds p := hA0
  rw [Try.params10] at hA hval
  obtain ⟨v0, vs0, d0, ds0, p0, q0, hargs, rfl, rfl, h0, r0⟩ := trodAll_cons hA
  obtain ⟨v1, vs1, d1, ds1, p1, q1, rfl, rfl, rfl, h1, r1⟩ := trodAll_cons r0
  obtain ⟨v2, vs2, d2, ds2, p2, q2, rfl, rfl, rfl, h2, r2⟩ := trodAll_cons r1
  obtain ⟨rfl, rfl, rfl⟩ := trodAll_nil r2
  obtain rfl : args = #[v0, v1, v2] := by cases args; simp_all
  obtain ⟨rfl, rfl⟩ := trodVars_none hV
  have t0 := h0
  obtain ⟨a0, rfl, _, _, w0⟩ := open_int Try.underlying5 (hval 0 5 v0 rfl rfl) h0
  have t1 := h1
  obtain ⟨n1, z1, hO1⟩ : ∃ n z, BysAt W v1 n z := by
    obtain ⟨aa, len, cap, rfl⟩ := okWide_slice Try.underlying64 (hval 1 64 v1 rfl rfl)
    obtain ⟨fuel, hf⟩ := h1
    exact open_bys (by simpa [Value.cells] using hf)
  have t2 := h2
  obtain ⟨n2, z2, hO2⟩ : ∃ n z, BolsAt W v2 n z := by
    obtain ⟨aa, len, cap, rfl⟩ := okWide_slice Try.underlying105 (hval 2 105 v2 rfl rfl)
    obtain ⟨fuel, hf⟩ := h2
    exact open_bols (by simpa [Value.cells] using hf)
  clear hA0 hval0
  refine (walkOf a0 w0 v1 n1 z1 hO1 v2 n2 z2 hO2 (W0 := W)).mono fun e W' ⟨he, hb⟩ => ?_
  subst he
  have lo : laidOutB Try.prog = true := by kernel_rfl
  have tsize : Try.prog.types.size = 221 := by kernel_rfl
  simp only [List.append_nil] at hW'
  refine ⟨_, rfl, shut_same hb hW' (fun _ _ _ => trodAll_cons_mk (shut_bool Try.underlying4 _) trodAll_mk0) ?_ rfl⟩
  have k0 := Below.trod lo (by kernel_rfl) (by rw [tsize]; decide) t0 hb (fun x hx => hlt x (by simp [hx]))
  have k1 := Below.trod lo (by kernel_rfl) (by rw [tsize]; decide) t1 hb (fun x hx => hlt x (by simp [hx]))
  have k2 := Below.trod lo (by kernel_rfl) (by rw [tsize]; decide) t2 hb (fun x hx => hlt x (by simp [hx]))
  have kk := (trodAll_cons_mk k0 (trodAll_cons_mk k1 (trodAll_cons_mk k2 trodAll_mk0)))
  simp only [List.append_nil] at kk ⊢
  exact kk

theorem over : Rows.multiLikeSingleRow.holds Try.pinned (OpenSpec.ofChange Rows.multiLikeSingleSpec) :=
  OpenClaim.holds_of_wide 10 Try.f10 rfl rfl rfl rfl rfl rfl rfl ⟨rfl, rfl, rfl, rfl, rfl⟩ rfl rfl rfl rfl rfl (by kernel_rfl) Try.func10 (by kernel_rfl)
    (of_decide_eq_true (by kernel_rfl)) (by unfold Func.isWrapper; first | (rw [if_pos (by decide +kernel)]; kernel_rfl) | (rw [if_neg (by decide +kernel)]; exact ⟨rfl, rfl⟩))
    (fun os started H enc _ => lifted os started H enc)

theorem proved : Rows.MultiLikeSingleSaid :=
  over
end Go.Proofs.Yteinfkcnengmeaa.multiLikeSingle
