/-
  TraceSpans: for whatever notes, ring and indexes the law returns true, and leaves its arguments as they were. No condition.
-/
import Derived.Test.YtnblkkmandlllaaRows
import Derived.Test.YtnblkkmandlllaaTsp
import Derived.Test.YtnblkkmandlllaaOpsNt
import Derived.ProofKit
import Derived.OpenShut
namespace Go.Proofs.Ytnblkkmandlllaa.traceSpans
open Go.ChangeShapes Go.WideShapes Go.ChangeAt Go.RowKit
set_option linter.unusedVariables false

theorem own : ownKnob Try.prog.godebug = none := by kernel_rfl

set_option maxRecDepth 100000 in
theorem walkOf {W0 : World} (v0 : Value) (l0 : List Nt) (h0 : NtsAt W0 v0 l0) (a1 : Int) (w1 : (Lit.int .i64 a1).wf = true) (v2 : Value) (l2 : List Int) (h2 : IntsR W0 v2 l2) :
    Calls Try.prog 4 #[v0, .int .i64 a1, v2] W0 fun e w' => e = .returned (.bool true) ∧ Below W0.heap.size W0 w' :=
  spans_walk h0 h2

set_option maxRecDepth 100000 in
theorem lifted (os : Os) (started : os.Started) (H : Type) (enc : TypeId × Value → H) :
    ReturnsInHanded {} Try.checked os 4 .any (Rows.traceSpansSpec.pre6 enc Try.prog Try.f4 Rows.traceSpansRow.domain false) (Rows.traceSpansSpec.post enc Try.prog Try.f4 false true false false) := by
  refine returnsInHanded_of_change (C := Try.checked) own started (by kernel_rfl) Try.func4
    (ChangeSpec.witness6 (enc := enc) (C := Try.checked) false ⟨#[], #[.slice none 0 0, .int .i64 0, .slice none 0 0], []⟩ 8 (by kernel_rfl) (by kernel_rfl) (by kernel_rfl) (by kernel_rfl)) ?_
  intro W base args ds gs before hval0 hW hcnd _
  have hval : ∀ (j : Nat) t v, Try.f4.params[j]? = some t → args[j]? = some v → Value.okWide Try.prog W .any base t v := hval0
  have hW' := hW
  have hlt : ∀ p ∈ before, p.block < W.heap.size := fun p hp => hW.lt p hp
  obtain ⟨p, q, hA0, hV, rfl, hfz, hnd⟩ := hW
  have hA : DataW.TrodAll enc Try.prog W 0 (fun _ => true) true Try.f4.params.toList args.toList ds p := hA0
  rw [Try.params4] at hA hval
  obtain ⟨v0, vs0, d0, ds0, p0, q0, hargs, rfl, rfl, h0, r0⟩ := trodAll_cons hA
  obtain ⟨v1, vs1, d1, ds1, p1, q1, rfl, rfl, rfl, h1, r1⟩ := trodAll_cons r0
  obtain ⟨v2, vs2, d2, ds2, p2, q2, rfl, rfl, rfl, h2, r2⟩ := trodAll_cons r1
  obtain ⟨rfl, rfl, rfl⟩ := trodAll_nil r2
  obtain rfl : args = #[v0, v1, v2] := by cases args; simp_all
  obtain ⟨rfl, rfl⟩ := trodVars_none hV
  have t0 := h0
  obtain ⟨l0, hO0⟩ : ∃ l, NtsAt W v0 l := by
    obtain ⟨aa, len, cap, rfl⟩ := okWide_slice Try.underlying22 (hval 0 22 v0 rfl rfl)
    obtain ⟨fuel, hf⟩ := h0
    exact open_notes (by simpa [Value.cells] using hf)
  have t1 := h1
  obtain ⟨a1, rfl, _, _, w1⟩ := open_int Try.underlying3 (hval 1 3 v1 rfl rfl) h1
  have t2 := h2
  obtain ⟨l2, hO2⟩ : ∃ l, IntsR W v2 l := by
    obtain ⟨aa, len, cap, rfl⟩ := okWide_slice Try.underlying39 (hval 2 39 v2 rfl rfl)
    obtain ⟨fuel, hf⟩ := h2
    exact open_longsR (by simpa [Value.cells] using hf)
  clear hA0 hval0
  refine (walkOf v0 l0 hO0 a1 w1 v2 l2 hO2 (W0 := W)).mono fun e W' ⟨he, hb⟩ => ?_
  subst he
  have lo : laidOutB Try.prog = true := by kernel_rfl
  have tsize : Try.prog.types.size = 112 := by kernel_rfl
  simp only [List.append_nil] at hW'
  refine ⟨_, rfl, shut_same hb hW' (fun _ _ _ => trodAll_cons_mk (shut_bool Try.underlying4 _) trodAll_mk0) ?_ rfl⟩
  have k0 := Below.trod lo (by kernel_rfl) (by rw [tsize]; decide) t0 hb (fun x hx => hlt x (by simp [hx]))
  have k1 := Below.trod lo (by kernel_rfl) (by rw [tsize]; decide) t1 hb (fun x hx => hlt x (by simp [hx]))
  have k2 := Below.trod lo (by kernel_rfl) (by rw [tsize]; decide) t2 hb (fun x hx => hlt x (by simp [hx]))
  have kk := (trodAll_cons_mk k0 (trodAll_cons_mk k1 (trodAll_cons_mk k2 trodAll_mk0)))
  simp only [List.append_nil] at kk ⊢
  exact kk

theorem over : Rows.traceSpansRow.holds Try.pinned (OpenSpec.ofChange Rows.traceSpansSpec) :=
  OpenClaim.holds_of_wide 4 Try.f4 rfl rfl rfl rfl rfl rfl rfl ⟨rfl, rfl, rfl, rfl, rfl⟩ rfl rfl rfl rfl rfl (by kernel_rfl) Try.func4 (by kernel_rfl)
    (of_decide_eq_true (by kernel_rfl)) (by unfold Func.isWrapper; first | (rw [if_pos (by decide +kernel)]; kernel_rfl) | (rw [if_neg (by decide +kernel)]; exact ⟨rfl, rfl⟩))
    (fun os started H enc _ => lifted os started H enc)

theorem proved : Rows.TraceSpansSaid :=
  over
end Go.Proofs.Ytnblkkmandlllaa.traceSpans
