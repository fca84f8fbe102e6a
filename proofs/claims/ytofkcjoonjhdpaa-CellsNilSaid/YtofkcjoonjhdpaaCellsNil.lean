/-
  CellsNil: for every id and v the law returns true, and leaves its arguments as they were. No condition.
-/
import Derived.Test.YtofkcjoonjhdpaaRows
import Derived.Test.YtofkcjoonjhdpaaCells6
import Derived.Test.YtofkcjoonjhdpaaPost
import Derived.ProofKit
import Derived.OpenShut
namespace Go.Proofs.Ytofkcjoonjhdpaa.cellsNil
open Go.ChangeShapes Go.WideShapes Go.ChangeAt Go.RowKit
set_option linter.unusedVariables false

theorem own : ownKnob Try.prog.godebug = none := by kernel_rfl

set_option maxHeartbeats 1000000 in
theorem walkOf (a0 a1 : Int) (w0 : (Lit.int .i64 a0).wf = true) (w1 : (Lit.int .i64 a1).wf = true) (w : World) :
    Calls Try.prog 5 #[.int .i64 a0, .int .i64 a1] w fun e w' => e = .returned (.bool true) ∧ Below w.heap.size w w' := by
  clear w0 w1
  go_enter Try.func5, Try.ntmps5
  go_wp2_with (first
    | (go_at_call 16; refine (alloc_nil _ _).mono ?_; rintro e x1 ⟨rfl, hw⟩; obtain ⟨c1, b1⟩ := err_new hw; clear hw)
    | (go_at_call 14; refine (load_nil _ _).mono ?_; rintro e x2 ⟨rfl, hw⟩; obtain ⟨c2, b2⟩ := err_new hw; clear hw)
    | (go_at_call 17; refine (swap_nil _ _ _ _).mono ?_; rintro e x3 ⟨rfl, hw⟩; obtain ⟨c3, b3⟩ := err_new hw; clear hw)
    | (go_at_call 18; refine (add_nil _ _ _).mono ?_; rintro e x4 ⟨rfl, hw⟩; obtain ⟨c4, b4⟩ := err_new hw; clear hw)
    | (go_at_call 8; refine (awake3 _).mono ?_; rintro e x5 ⟨rfl, b5⟩; have k4 := c4.keep b5; have k3 := c3.keep (bthen b4 b5); have k2 := c2.keep (bthen b3 (bthen b4 b5)); have k1 := c1.keep (bthen b2 (bthen b3 (bthen b4 b5))); have k0 := bthen b1 (bthen b2 (bthen b3 (bthen b4 b5))); clear c1 c2 c3 c4 b1 b2 b3 b4 b5)
    | (go_at_call 19; refine (isN_chain 2 _ 1 2 (by assumption) (by decide)).mono ?_; rintro e y ⟨rfl, rfl⟩)
    | (go_at_call 15; refine (store_nil _ _ _).mono ?_; rintro e x6 ⟨rfl, hw⟩; obtain ⟨c6, b6⟩ := err_new hw; clear hw k1 k2 k3 k4)
    | (go_at_call 11; refine (len_nil _).mono ?_; rintro e y ⟨rfl, rfl⟩)
    | (go_at_call 12; refine (steps_nil _).mono ?_; rintro e y ⟨rfl, rfl⟩)
    | (go_at_call 13; refine (clone_nil _).mono ?_; rintro e y ⟨rfl, rfl⟩))
  go_ret
  exact ⟨rfl, bthen k0 b6⟩

set_option maxRecDepth 100000 in
theorem lifted (os : Os) (started : os.Started) (H : Type) (enc : TypeId × Value → H) :
    ReturnsInHanded {} Try.checked os 5 .any (Rows.cellsNilSpec.pre6 enc Try.prog Try.f5 Rows.cellsNilRow.domain false) (Rows.cellsNilSpec.post enc Try.prog Try.f5 false true false false) := by
  refine returnsInHanded_of_change (C := Try.checked) own started (by kernel_rfl) Try.func5
    (ChangeSpec.witness6 (enc := enc) (C := Try.checked) false ⟨#[], #[.int .i64 0, .int .i64 0], []⟩ 8 (by kernel_rfl) (by kernel_rfl) (by kernel_rfl) (by kernel_rfl)) ?_
  intro W base args ds gs before hval0 hW hcnd _
  have hval : ∀ (j : Nat) t v, Try.f5.params[j]? = some t → args[j]? = some v → Value.okWide Try.prog W .any base t v := hval0
  have hW' := hW
  obtain ⟨p, q, hA0, hV, rfl, hfz, hnd⟩ := hW
  have hA : DataW.TrodAll enc Try.prog W 0 (fun _ => true) true Try.f5.params.toList args.toList ds p := hA0
  rw [Try.params5] at hA hval
  obtain ⟨v0, vs0, d0, ds0, p0, q0, hargs, rfl, rfl, h0, r0⟩ := trodAll_cons hA
  obtain ⟨v1, vs1, d1, ds1, p1, q1, rfl, rfl, rfl, h1, r1⟩ := trodAll_cons r0
  obtain ⟨rfl, rfl, rfl⟩ := trodAll_nil r1
  obtain rfl : args = #[v0, v1] := by cases args; simp_all
  obtain ⟨rfl, rfl⟩ := trodVars_none hV
  obtain ⟨a0, rfl, rfl, rfl, w0⟩ := open_int Try.underlying3 (hval 0 3 v0 rfl rfl) h0
  obtain ⟨a1, rfl, rfl, rfl, w1⟩ := open_int Try.underlying2 (hval 1 2 v1 rfl rfl) h1
  clear hA0 hval0
  simp only [List.append_nil] at hW'
  refine (walkOf a0 a1 w0 w1 W).mono fun e W' ⟨he, hg⟩ => ?_
  subst he
  exact ⟨_, rfl, shut_below (pa := []) (pv := []) hg hW' rfl (fun _ _ _ => (trodAll_cons_mk (shut_bool Try.underlying4 _) trodAll_mk0)) (fun sp _ => (trodAll_cons_mk (shut_int Try.underlying3 w0) (trodAll_cons_mk (shut_int Try.underlying2 w1) trodAll_mk0))) (fun _ _ => rfl)⟩

theorem over : Rows.cellsNilRow.holds Try.pinned (OpenSpec.ofChange Rows.cellsNilSpec) :=
  OpenClaim.holds_of_wide 5 Try.f5 rfl rfl rfl rfl rfl rfl rfl ⟨rfl, rfl, rfl, rfl, rfl⟩ rfl rfl rfl rfl rfl (by kernel_rfl) Try.func5 (by kernel_rfl)
    (of_decide_eq_true (by kernel_rfl)) (by unfold Func.isWrapper; first | (rw [if_pos (by decide +kernel)]; kernel_rfl) | (rw [if_neg (by decide +kernel)]; exact ⟨rfl, rfl⟩))
    (fun os started H enc _ => lifted os started H enc)

theorem proved : Rows.CellsNilSaid :=
  over
end Go.Proofs.Ytofkcjoonjhdpaa.cellsNil
