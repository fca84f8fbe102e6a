/-
  BarrierNew: for every plan of a barrier and index the law returns true, and leaves its arguments as they were. No condition.
-/
import Derived.Test.YtejkjpmigajidaaRows
import Derived.Test.YtejkjpmigajidaaBw2
import Derived.ProofKit
import Derived.OpenShut
namespace Go.Proofs.Ytejkjpmigajidaa.barrierNew
open Go.ChangeShapes Go.WideShapes Go.ChangeAt Go.RowKit
set_option linter.unusedVariables false

theorem own : ownKnob Try.prog.godebug = none := by kernel_rfl

set_option maxRecDepth 100000 in
theorem walkOf {W0 : World} (cu : Int) (va : Value) (n : Nat) (z : Nat → Int) (bf : Bool) (vs : Value) (m : Nat) (y : Nat → Int) (al sf : Int) (wc : (Lit.int .i64 cu).wf = true) (la : LongsAt W0 va n z) (lb : ByteRow W0 vs m y) (wl : (Lit.int .i64 al).wf = true) (ws : (Lit.int .u8 sf).wf = true) (next : Int) (wn : (Lit.int .i64 next).wf = true) :
    Calls Try.prog 14 #[.agg #[.int .i64 cu, va, .bool bf, vs, .int .i64 al, .int .u8 sf], .int .i64 next] W0 fun e w' => e = .returned (.bool true) ∧ Below W0.heap.size W0 w' := by
  obtain ⟨pa, ca, rfl, _⟩ := id la
  obtain ⟨ps, cb, rfl, _⟩ := id lb
  have hsf := (u8_wf ws).1
  by_cases hg : PlanOk cu 0 n m z
  · exact new_ok la lb hg hsf (i64_wf wn)
  · exact new_bad la lb hg

set_option maxRecDepth 100000 in
theorem lifted (os : Os) (started : os.Started) (H : Type) (enc : TypeId × Value → H) :
    ReturnsInHanded {} Try.checked os 14 .any (Rows.barrierNewSpec.pre6 enc Try.prog Try.f14 Rows.barrierNewRow.domain false) (Rows.barrierNewSpec.post enc Try.prog Try.f14 false true false false) := by
  refine returnsInHanded_of_change (C := Try.checked) own started (by kernel_rfl) Try.func14
    (ChangeSpec.witness6 (enc := enc) (C := Try.checked) false ⟨#[], #[.agg #[.int .i64 0, .slice none 0 0, .bool false, .slice none 0 0, .int .i64 0, .int .u8 0], .int .i64 0], []⟩ 8 (by kernel_rfl) (by kernel_rfl) (by kernel_rfl) (by kernel_rfl)) ?_
  intro W base args ds gs before hval0 hW hcnd _
  have hval : ∀ (j : Nat) t v, Try.f14.params[j]? = some t → args[j]? = some v → Value.okWide Try.prog W .any base t v := hval0
  have hW' := hW
  have hlt : ∀ p ∈ before, p.block < W.heap.size := fun p hp => hW.lt p hp
  obtain ⟨p, q, hA0, hV, rfl, hfz, hnd⟩ := hW
  have hA : DataW.TrodAll enc Try.prog W 0 (fun _ => true) true Try.f14.params.toList args.toList ds p := hA0
  rw [Try.params14] at hA hval
  obtain ⟨v0, vs0, d0, ds0, p0, q0, hargs, rfl, rfl, h0, r0⟩ := trodAll_cons hA
  obtain ⟨v1, vs1, d1, ds1, p1, q1, rfl, rfl, rfl, h1, r1⟩ := trodAll_cons r0
  obtain ⟨rfl, rfl, rfl⟩ := trodAll_nil r1
  obtain rfl : args = #[v0, v1] := by cases args; simp_all
  obtain ⟨rfl, rfl⟩ := trodVars_none hV
  have t0 := h0
  obtain ⟨cu0, va0, n0, z0, bf0, vs0, m0, y0, al0, sf0, rfl, wc0, la0, lb0, wl0, ws0⟩ := open_plan6 Try.underlying125 (by kernel_rfl) (by kernel_rfl) Try.underlying2 Try.underlying4 Try.underlying2 Try.underlying5 (fun _ _ _ h => open_longs h) (fun _ _ _ h => open_byteRow h) (hval 0 125 v0 rfl rfl) h0
  have t1 := h1
  obtain ⟨a1, rfl, _, _, w1⟩ := open_int Try.underlying2 (hval 1 2 v1 rfl rfl) h1
  clear hA0 hval0
  refine (walkOf cu0 va0 n0 z0 bf0 vs0 m0 y0 al0 sf0 wc0 la0 lb0 wl0 ws0 a1 w1 (W0 := W)).mono fun e W' ⟨he, hb⟩ => ?_
  subst he
  have lo : laidOutB Try.prog = true := by kernel_rfl
  have tsize : Try.prog.types.size = 235 := by kernel_rfl
  simp only [List.append_nil] at hW'
  refine ⟨_, rfl, shut_same hb hW' (fun _ _ _ => trodAll_cons_mk (shut_bool Try.underlying4 _) trodAll_mk0) ?_ rfl⟩
  have k0 := Below.trod lo (by kernel_rfl) (by rw [tsize]; decide) t0 hb (fun x hx => hlt x (by simp [hx]))
  have k1 := Below.trod lo (by kernel_rfl) (by rw [tsize]; decide) t1 hb (fun x hx => hlt x (by simp [hx]))
  have kk := (trodAll_cons_mk k0 (trodAll_cons_mk k1 trodAll_mk0))
  simp only [List.append_nil] at kk ⊢
  exact kk

theorem over : Rows.barrierNewRow.holds Try.pinned (OpenSpec.ofChange Rows.barrierNewSpec) :=
  OpenClaim.holds_of_wide 14 Try.f14 rfl rfl rfl rfl rfl rfl rfl ⟨rfl, rfl, rfl, rfl, rfl⟩ rfl rfl rfl rfl rfl (by kernel_rfl) Try.func14 (by kernel_rfl)
    (of_decide_eq_true (by kernel_rfl)) (by unfold Func.isWrapper; first | (rw [if_pos (by decide +kernel)]; kernel_rfl) | (rw [if_neg (by decide +kernel)]; exact ⟨rfl, rfl⟩))
    (fun os started H enc _ => lifted os started H enc)

theorem proved : Rows.BarrierNewSaid :=
  over
end Go.Proofs.Ytejkjpmigajidaa.barrierNew
