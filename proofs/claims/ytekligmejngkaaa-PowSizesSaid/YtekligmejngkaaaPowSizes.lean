/-
  PowSizes: for every n the law returns true, and leaves its argument as it was. No condition.
-/
import Derived.Test.YtekligmejngkaaaRows
import Derived.Test.YtekligmejngkaaaPow4
import Derived.Test.YtekligmejngkaaaPost
import Derived.ProofKit
import Derived.OpenShut
namespace Go.Proofs.Ytekligmejngkaaa.powSizes
open Go.ChangeShapes Go.WideShapes Go.ChangeAt Go.RowKit
set_option linter.unusedVariables false

theorem own : ownKnob Try.prog.godebug = none := by kernel_rfl

theorem walk_great (n : Int) (h : 1048576 < n) (hno : ∀ k, k ≤ 20 → n ≠ two k) (w : World) :
    Calls Try.prog 3 #[.int .i64 n] w fun e w' => e = .returned (.bool true) ∧ Below w.heap.size w w' := by
  have HN := Lib.hid hno
  clear hno
  go_enter Try.func3, Try.ntmps3
  go_wp2_with (first
    | (go_at_call 7; refine (of_great n h _).mono ?_; rintro e w1 ⟨F1, rfl, hF1, hb1⟩)
    | (go_at_call 8; refine (refShift_no n HN.out _).mono ?_; rintro e w' ⟨rfl, rfl⟩)
    | (go_at_call 9; refine (isN_same _ _ (by first | exact Or.inr ⟨by decide, 1, hF1.keep (balloc (Below.refl _ _) _)⟩ | exact Or.inr ⟨by decide, 1, hF2⟩)).mono ?_; rintro e w' ⟨rfl, rfl⟩)
    | (go_at_call 13; refine (up_no n h _).mono ?_; rintro e w2 ⟨op, rfl, rfl⟩)
    | (go_at_call 14; refine (refUp_no n h _).mono ?_; rintro e w' ⟨rfl, rfl⟩)
    | (go_at_call 15; refine (awake2 _).mono ?_; rintro e w3 ⟨rfl, hb3⟩; have hF2 := Chain.keep hb3 (Chain.keep (balloc (Below.refl _ _) _) (.fault (w1.heap.size + 1 + 1) op n _ 0 7 (heap_at _ _ _ (by simp)) (.num 7))); have hu := keepc hb3 (b := w1.heap.size + 1 + 1 + 1) (o := 0) (v := .int .u8 0) (by go_simp)))
  go_ret
  exact ⟨rfl, bthen (balloc (balloc (balloc (balloc hb1 _) _) _) _) hb3⟩

theorem walk_size (k : Nat) (hk : k ≤ 20) (w : World) :
    Calls Try.prog 3 #[.int .i64 (two k)] w fun e w' => e = .returned (.bool true) ∧ Below w.heap.size w w' := by
  have g1 := two_le hk
  have g2 := two_pos k
  go_enter Try.func3, Try.ntmps3
  go_wp2_with (first
    | (go_at_call 7; refine (of_yes k hk _).mono ?_; rintro e w1 ⟨rfl, hb1⟩)
    | (go_at_call 8; refine (refShift_yes k hk _).mono ?_; rintro e w' ⟨rfl, rfl⟩)
    | (go_at_call 10; refine (shift_any k hk _).mono ?_; rintro e w' ⟨rfl, rfl⟩)
    | (go_at_call 11; refine (slots_any k hk _).mono ?_; rintro e w' ⟨rfl, rfl⟩)
    | (go_at_call 12; refine (mask_any k hk _).mono ?_; rintro e w4 ⟨rfl, hb4⟩)
    | (go_at_call 13; refine (up_yes k hk _ (by omega) (least_two k) _).mono ?_; rintro e w2 ⟨rfl, rfl⟩)
    | (go_at_call 14; refine (refUp_yes k hk _ (least_two k) _).mono ?_; rintro e w' ⟨rfl, rfl⟩)
    | (go_at_call 15; refine (awake2 _).mono ?_; rintro e w3 ⟨rfl, hb3⟩; have hu := keepc hb3 (b := w4.heap.size + 1) (o := 0) (v := .int .u8 k) (by go_simp)))
  go_ret
  exact ⟨rfl, bthen (balloc (balloc (bthen (balloc (balloc (balloc hb1 _) _) _) hb4) _) _) (bthen hb3 (balloc (Below.refl _ _) _))⟩

theorem walk_other (n : Int) (h0 : -9223372036854775808 ≤ n) (h : n ≤ 1048576) (hno : ∀ k, k ≤ 20 → n ≠ two k) (w : World) :
    Calls Try.prog 3 #[.int .i64 n] w fun e w' => e = .returned (.bool true) ∧ Below w.heap.size w w' := by
  obtain ⟨k, hk, hl⟩ := least_exists 20 n h
  have HN := Lib.hid hno
  have HL := Lib.hid hl
  clear hno hl
  go_enter Try.func3, Try.ntmps3
  go_wp2_with (first
    | (go_at_call 7; refine (of_other n h0 h HN.out _).mono ?_; rintro e w1 ⟨F1, rfl, hF1, hb1⟩)
    | (go_at_call 8; refine (refShift_no n HN.out _).mono ?_; rintro e w' ⟨rfl, rfl⟩)
    | (go_at_call 9; refine (isN_same _ _ (by exact Or.inr ⟨by decide, 1, hF1.keep (balloc (Below.refl _ _) _)⟩)).mono ?_; rintro e w' ⟨rfl, rfl⟩)
    | (go_at_call 13; refine (up_yes k hk n h0 HL.out _).mono ?_; rintro e w2 ⟨rfl, rfl⟩)
    | (go_at_call 14; refine (refUp_yes k hk n HL.out _).mono ?_; rintro e w' ⟨rfl, rfl⟩)
    | (go_at_call 15; refine (awake2 _).mono ?_; rintro e w3 ⟨rfl, hb3⟩; have hu := keepc hb3 (b := w1.heap.size + 1 + 1) (o := 0) (v := .int .u8 k) (by go_simp))
    | (go_at_call 10; refine (shift_any k hk _).mono ?_; rintro e w' ⟨rfl, rfl⟩))
  go_ret
  exact ⟨rfl, bthen (balloc (balloc (balloc hb1 _) _) _) (bthen hb3 (balloc (Below.refl _ _) _))⟩

theorem walkOf (a0 : Int) (w0 : (Lit.int .i64 a0).wf = true) (w : World) :
    Calls Try.prog 3 #[.int .i64 a0] w fun e w' => e = .returned (.bool true) ∧ Below w.heap.size w w' := by
  by_cases hno : ∀ k, k ≤ 20 → a0 ≠ two k
  · by_cases h : 1048576 < a0
    · exact walk_great a0 h hno w
    · exact walk_other a0 (i64_wf w0).1 (by omega) hno w
  · obtain ⟨k, hk⟩ := Classical.not_forall.1 hno
    obtain ⟨hk20, he⟩ := Classical.not_imp.1 hk
    obtain rfl : a0 = two k := Classical.not_not.1 he
    exact walk_size k hk20 w

set_option maxRecDepth 100000 in
theorem lifted (os : Os) (started : os.Started) (H : Type) (enc : TypeId × Value → H) :
    ReturnsInHanded {} Try.checked os 3 .any (Rows.powSizesSpec.pre6 enc Try.prog Try.f3 Rows.powSizesRow.domain false) (Rows.powSizesSpec.post enc Try.prog Try.f3 false true false false) := by
  refine returnsInHanded_of_change (C := Try.checked) own started (by kernel_rfl) Try.func3
    (ChangeSpec.witness6 (enc := enc) (C := Try.checked) false ⟨#[], #[.int .i64 0], []⟩ 8 (by kernel_rfl) (by kernel_rfl) (by kernel_rfl) (by kernel_rfl)) ?_
  intro W base args ds gs before hval0 hW hcnd _
  have hval : ∀ (j : Nat) t v, Try.f3.params[j]? = some t → args[j]? = some v → Value.okWide Try.prog W .any base t v := hval0
  have hW' := hW
  obtain ⟨p, q, hA0, hV, rfl, hfz, hnd⟩ := hW
  have hA : DataW.TrodAll enc Try.prog W 0 (fun _ => true) true Try.f3.params.toList args.toList ds p := hA0
  rw [Try.params3] at hA hval
  obtain ⟨v0, vs0, d0, ds0, p0, q0, hargs, rfl, rfl, h0, r0⟩ := trodAll_cons hA
  obtain ⟨rfl, rfl, rfl⟩ := trodAll_nil r0
  obtain rfl : args = #[v0] := by cases args; simp_all
  obtain ⟨rfl, rfl⟩ := trodVars_none hV
  obtain ⟨a0, rfl, rfl, rfl, w0⟩ := open_int Try.underlying3 (hval 0 3 v0 rfl rfl) h0
  clear hA0 hval0
  simp only [List.append_nil] at hW'
  refine (walkOf a0 w0 W).mono fun e W' ⟨he, hg⟩ => ?_
  subst he
  exact ⟨_, rfl, shut_below (pa := []) (pv := []) hg hW' rfl (fun _ _ _ => (trodAll_cons_mk (shut_bool Try.underlying4 _) trodAll_mk0)) (fun sp _ => (trodAll_cons_mk (shut_int Try.underlying3 w0) trodAll_mk0)) (fun _ _ => rfl)⟩

theorem over : Rows.powSizesRow.holds Try.pinned (OpenSpec.ofChange Rows.powSizesSpec) :=
  OpenClaim.holds_of_wide 3 Try.f3 rfl rfl rfl rfl rfl rfl rfl ⟨rfl, rfl, rfl, rfl, rfl⟩ rfl rfl rfl rfl rfl (by kernel_rfl) Try.func3 (by kernel_rfl)
    (of_decide_eq_true (by kernel_rfl)) (by unfold Func.isWrapper; first | (rw [if_pos (by decide +kernel)]; kernel_rfl) | (rw [if_neg (by decide +kernel)]; exact ⟨rfl, rfl⟩))
    (fun os started H enc _ => lifted os started H enc)

theorem proved : Rows.PowSizesSaid :=
  over
end Go.Proofs.Ytekligmejngkaaa.powSizes
