/-
  RoomWrong: for all numbers the law returns true, and leaves its arguments as they were. No condition.
-/
import Derived.Test.YtndmhnakfhofpaaGreatRows
import Derived.Test.YtndmhnakfhofpaaGreatRw4
import Derived.ProofKit
import Derived.OpenShut
import Derived.Test.YtndmhnakfhofpaaGreatShut
namespace Go.Proofs.YtndmhnakfhofpaaGreat.roomWrong
open Go.ChangeShapes Go.WideShapes Go.ChangeAt Go.RowKit
set_option linter.unusedVariables false

theorem own : ownKnob Tryz.prog.godebug = none := by kernel_rfl

theorem walkOf (n : Int) (wn : (Lit.int .i64 n).wf = true) (who : Int) (ww : (Lit.int .i64 who).wf = true) (at' : Int) (wa : (Lit.int .i64 at').wf = true) {W0 : World} :
    Calls Tryz.prog 7 #[.int .i64 n, .int .i64 who, .int .i64 at'] W0 fun e w' => e = .returned (.bool true) ∧ Below W0.heap.size W0 w' :=
  wrong_walk W0 n who at'

set_option maxRecDepth 100000 in
theorem lifted (os : Os) (started : os.Started) (H : Type) (enc : TypeId × Value → H) :
    ReturnsInHanded {} Tryz.checked os 7 .any (Rows.roomWrongSpec.pre6 enc Tryz.prog Tryz.f7 Rows.roomWrongRow.domain false) (Rows.roomWrongSpec.post enc Tryz.prog Tryz.f7 false true false false) := by
  refine returnsInHanded_of_change (C := Tryz.checked) own started (by kernel_rfl) Tryz.func7
    (ChangeSpec.witness6 (enc := enc) (C := Tryz.checked) false ⟨#[], #[.int .i64 0, .int .i64 0, .int .i64 0], []⟩ 8 (by kernel_rfl) (by kernel_rfl) (by kernel_rfl) (by kernel_rfl)) ?_
  intro W base args ds gs before hval0 hW hcnd _
  have hval : ∀ (j : Nat) t v, Tryz.f7.params[j]? = some t → args[j]? = some v → Value.okWide Tryz.prog W .any base t v := hval0
  have hW' := hW
  have hlt : ∀ p ∈ before, p.block < W.heap.size := fun p hp => hW.lt p hp
  obtain ⟨p, q, hA0, hV, rfl, hfz, hnd⟩ := hW
  have hA : DataW.TrodAll enc Tryz.prog W 0 (fun _ => true) true Tryz.f7.params.toList args.toList ds p := hA0
  rw [Tryz.params7] at hA hval
  obtain ⟨v0, vs0, d0, ds0, p0, q0, hargs, rfl, rfl, h0, r0⟩ := trodAll_cons hA
  obtain ⟨v1, vs1, d1, ds1, p1, q1, rfl, rfl, rfl, h1, r1⟩ := trodAll_cons r0
  obtain ⟨v2, vs2, d2, ds2, p2, q2, rfl, rfl, rfl, h2, r2⟩ := trodAll_cons r1
  obtain ⟨rfl, rfl, rfl⟩ := trodAll_nil r2
  obtain rfl : args = #[v0, v1, v2] := by cases args; simp_all
  obtain ⟨rfl, rfl⟩ := trodVars_none hV
  have t0 := h0
  obtain ⟨a0, rfl, _, _, w0⟩ := open_int Tryz.underlying3 (hval 0 3 v0 rfl rfl) h0
  have t1 := h1
  obtain ⟨a1, rfl, _, _, w1⟩ := open_int Tryz.underlying3 (hval 1 3 v1 rfl rfl) h1
  have t2 := h2
  obtain ⟨a2, rfl, _, _, w2⟩ := open_int Tryz.underlying2 (hval 2 2 v2 rfl rfl) h2
  clear hA0 hval0
  refine (walkOf a0 w0 a1 w1 a2 w2 (W0 := W)).mono fun e W' ⟨he, hb⟩ => ?_
  subst he
  have lo : laidOutB Tryz.prog = true := by kernel_rfl
  have tsize : Tryz.prog.types.size = 312 := by kernel_rfl
  simp only [List.append_nil] at hW'
  refine ⟨_, rfl, shut_same hb hW' (fun _ _ _ => trodAll_cons_mk (shut_bool Tryz.underlying4 _) trodAll_mk0) ?_ rfl⟩
  have k0 := Below.trod lo (by kernel_rfl) (by rw [tsize]; decide) t0 hb (fun x hx => hlt x (by simp [hx]))
  have k1 := Below.trod lo (by kernel_rfl) (by rw [tsize]; decide) t1 hb (fun x hx => hlt x (by simp [hx]))
  have k2 := Below.trod lo (by kernel_rfl) (by rw [tsize]; decide) t2 hb (fun x hx => hlt x (by simp [hx]))
  have kk := (trodAll_cons_mk k0 (trodAll_cons_mk k1 (trodAll_cons_mk k2 trodAll_mk0)))
  simp only [List.append_nil] at kk ⊢
  exact kk

theorem over : Rows.roomWrongRow.holds Tryz.pinned (OpenSpec.ofChange Rows.roomWrongSpec) :=
  OpenClaim.holds_of_wide 7 Tryz.f7 rfl rfl rfl rfl rfl rfl rfl ⟨rfl, rfl, rfl, rfl, rfl⟩ rfl rfl rfl rfl rfl (by kernel_rfl) Tryz.func7 (by kernel_rfl)
    (of_decide_eq_true (by kernel_rfl)) (by unfold Func.isWrapper; first | (rw [if_pos (by decide +kernel)]; kernel_rfl) | (rw [if_neg (by decide +kernel)]; exact ⟨rfl, rfl⟩))
    (fun os started H enc _ => lifted os started H enc)

theorem proved : Rows.RoomWrongSaid :=
  over
end Go.Proofs.YtndmhnakfhofpaaGreat.roomWrong
