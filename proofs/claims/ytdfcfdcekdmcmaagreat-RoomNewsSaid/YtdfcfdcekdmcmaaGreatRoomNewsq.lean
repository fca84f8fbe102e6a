/-
  RoomNews: for every list of operations and every row of numbers the law returns true, and leaves its arguments as they were. No condition.
-/
import Derived.Test.YtdfcfdcekdmcmaaGreatPk51
import Derived.Test.YtdfcfdcekdmcmaaGreatRows
import Derived.ProofKit
import Derived.OpenShut
set_option linter.unusedVariables false
set_option linter.unusedSimpArgs false
namespace Go.Proofs.YtdfcfdcekdmcmaaGreat.roomNews
open Go.ChangeShapes Go.WideShapes Go.ChangeAt Go.RowKit
set_option linter.unusedVariables false
theorem own : ownKnob Tryz.prog.godebug = none := by kernel_rfl
theorem walkOf (v : Value) (n : Nat) (fld : Nat → Nat → Int) {W0 : World} (hO : OpsAt W0 v n 5 fld) (u : Value) (m : Nat) (y : Nat → Int) (hU : NumsAt W0 u m y) :
    Calls Tryz.prog 4 #[v, u] W0 fun e w' => e = .returned (.bool true) ∧ Below W0.heap.size W0 w' :=
  rnews_walk hO hU
set_option maxRecDepth 100000 in
theorem lifted (os : Os) (started : os.Started) (H : Type) (enc : TypeId × Value → H) :
    ReturnsInHanded {} Tryz.checked os 4 .any (Rows.roomNewsSpec.pre6 enc Tryz.prog Tryz.f4 Rows.roomNewsRow.domain false) (Rows.roomNewsSpec.post enc Tryz.prog Tryz.f4 false true false false) := by
  refine returnsInHanded_of_change (C := Tryz.checked) own started (by kernel_rfl) Tryz.func4
    (ChangeSpec.witness6 (enc := enc) (C := Tryz.checked) false ⟨#[], #[.slice none 0 0, .slice none 0 0], []⟩ 8 (by kernel_rfl) (by kernel_rfl) (by kernel_rfl) (by kernel_rfl)) ?_
  intro W base args ds gs before hval0 hW hcnd _
  have hval : ∀ (j : Nat) t v, Tryz.f4.params[j]? = some t → args[j]? = some v → Value.okWide Tryz.prog W .any base t v := hval0
  have hW' := hW
  have hlt : ∀ p ∈ before, p.block < W.heap.size := fun p hp => hW.lt p hp
  obtain ⟨p, q, hA0, hV, rfl, hfz, hnd⟩ := hW
  have hA : DataW.TrodAll enc Tryz.prog W 0 (fun _ => true) true Tryz.f4.params.toList args.toList ds p := hA0
  rw [Tryz.params4] at hA hval
  obtain ⟨v0, vs0, d0, ds0, p0, q0, hargs, rfl, rfl, h0, r0⟩ := trodAll_cons hA
  obtain ⟨v1, vs1, d1, ds1, p1, q1, rfl, rfl, rfl, h1, r1⟩ := trodAll_cons r0
  obtain ⟨rfl, rfl, rfl⟩ := trodAll_nil r1
  obtain rfl : args = #[v0, v1] := by cases args; simp_all
  obtain ⟨rfl, rfl⟩ := trodVars_none hV
  have t0 := h0
  obtain ⟨n0, fld0, hO0⟩ : ∃ (n : Nat) (fld : Nat → Nat → Int), OpsAt W v0 n 5 fld := by
    obtain ⟨aa, len, cap, rfl⟩ := okWide_slice Tryz.underlying22 (hval 0 22 v0 rfl rfl)
    obtain ⟨fuel, hf⟩ := h0
    exact open_ops (by simpa [Value.cells] using hf)
  have t1 := h1
  obtain ⟨n1, z1, hO1⟩ : ∃ n z, NumsAt W v1 n z := by
    obtain ⟨aa, len, cap, rfl⟩ := okWide_slice Tryz.underlying33 (hval 1 33 v1 rfl rfl)
    obtain ⟨fuel, hf⟩ := h1
    exact open_nums (by simpa [Value.cells] using hf)
  clear hA0 hval0
  refine (walkOf v0 n0 fld0 hO0 v1 n1 z1 hO1 (W0 := W)).mono fun e W' ⟨he, hb⟩ => ?_
  subst he
  have lo : laidOutB Tryz.prog = true := by kernel_rfl
  have tsize : Tryz.prog.types.size = 312 := by kernel_rfl
  simp only [List.append_nil] at hW'
  refine ⟨_, rfl, shut_same hb hW' (fun _ _ _ => trodAll_cons_mk (shut_bool Tryz.underlying4 _) trodAll_mk0) ?_ rfl⟩
  have k0 := Below.trod lo (by kernel_rfl) (by rw [tsize]; decide) t0 hb (fun x hx => hlt x (by simp [hx]))
  have k1 := Below.trod lo (by kernel_rfl) (by rw [tsize]; decide) t1 hb (fun x hx => hlt x (by simp [hx]))
  have kk := (trodAll_cons_mk k0 (trodAll_cons_mk k1 trodAll_mk0))
  simp only [List.append_nil] at kk ⊢
  exact kk
theorem over : Rows.roomNewsRow.holds Tryz.pinned (OpenSpec.ofChange Rows.roomNewsSpec) :=
  OpenClaim.holds_of_wide 4 Tryz.f4 rfl rfl rfl rfl rfl rfl rfl ⟨rfl, rfl, rfl, rfl, rfl⟩ rfl rfl rfl rfl rfl (by kernel_rfl) Tryz.func4 (by kernel_rfl)
    (of_decide_eq_true (by kernel_rfl)) (by unfold Func.isWrapper; first | (rw [if_pos (by decide +kernel)]; kernel_rfl) | (rw [if_neg (by decide +kernel)]; exact ⟨rfl, rfl⟩))
    (fun os started H enc _ => lifted os started H enc)
theorem proved : Rows.RoomNewsSaid :=
  over
end Go.Proofs.YtdfcfdcekdmcmaaGreat.roomNews
