/-
  SlotsWrong: for every size and index the law returns true, and leaves its arguments as they were. No condition.
-/
import Derived.Test.YtnimmkgdgdhkfaaRows
import Derived.Test.YtnimmkgdgdhkfaaSpan
import Derived.Test.YtnimmkgdgdhkfaaPow3
import Derived.Test.YtnimmkgdgdhkfaaPost
import Derived.ProofKit
import Derived.OpenShut
namespace Go.Proofs.Ytnimmkgdgdhkfaa.slotsWrong
open Go.ChangeShapes Go.WideShapes Go.ChangeAt Go.RowKit
set_option linter.unusedVariables false

theorem own : ownKnob Try.prog.godebug = none := by kernel_rfl

set_option maxHeartbeats 2000000 in
theorem walk_none (n seq : Int) (hw : -9223372036854775808 ≤ n) (hno : ∀ k, k ≤ 20 → n ≠ two k) (w : World) :
    Calls Try.prog 10 #[.int .i64 n, .int .i64 seq] w fun e w' => e = .returned (.bool true) ∧ Below w.heap.size w w' := by
  have HN := Lib.hid hno
  clear hno
  go_enter Try.func10, Try.ntmps10
  go_wp2_with (first
    | (go_at_call 15; refine (refShift_no n HN.out _).mono ?_; rintro e w' ⟨rfl, rfl⟩)
    | (go_at_call 39; refine (rnew_no n hw HN.out _).mono ?_; rintro e w1 ⟨E, rfl, hc, hb⟩; have HC := Lib.hid hc; have HB1 := Lib.hid hb; clear hc hb)
    | (go_at_call 16; refine (isN_chain 7 _ 2 7 HC.out (by decide)).mono ?_; rintro e y ⟨rfl, rfl⟩; clear HC)
    | (go_at_call 43; refine (get_nil seq _).mono ?_; rintro e w2 ⟨E2, rfl, hr2⟩; have HR2 := Lib.hid hr2; clear hr2)
    | (go_at_call 46; refine (span_nil seq seq _).mono ?_; rintro e w3 ⟨E3, rfl, hr3⟩; have HR3 := Lib.hid hr3; clear hr3)
    | (go_at_call 45; refine (fill_nil seq _ _).mono ?_; rintro e w4 ⟨E4, rfl, hr4⟩; have HR4 := Lib.hid hr4; clear hr4)
    | (go_at_call 38; refine (awake6 _).mono ?_; rintro e w5 ⟨rfl, hb5⟩; have HB5 := Lib.hid hb5; clear hb5)
    | (go_at_call 41; refine (put_nil seq _ _ _).mono ?_; rintro e w6 ⟨E6, rfl, hr6⟩; have k6 := hr6.hold (Below.refl _ _); have b65 := bthen HB5.out hr6.below; have k4 := HR4.out.hold b65; have k3 := HR3.out.hold (bthen HR4.out.below b65); have b32 := bthen ((Below.refl _ w2).alloc (Nat.le_refl _) (.cells #[.int .i64 0, .int .i64 0] 67)) (bthen HR3.out.below (bthen HR4.out.below b65)); have k2 := HR2.out.hold b32; have HB := Lib.hid (bthen HR2.out.below b32); clear hr6 b65 b32)
    | (go_at_call 16; refine (isN_chain 2 _ 1 2 (by assumption) (by decide)).mono ?_; rintro e y ⟨rfl, rfl⟩)
    | (go_at_call 42; refine (rclone_nil _).mono ?_; rintro e y ⟨rfl, rfl⟩)
    | (go_at_call 40; refine (size_nil _).mono ?_; rintro e w7 ⟨rfl, hb7⟩; have HB7 := Lib.hid hb7; clear hb7 k2 k3 k4 k6)
    | (go_at_call 18; refine (slots_any 0 (by decide) _).mono ?_; rintro e w8 ⟨rfl, hw8⟩; have HB8 := Lib.hid (slots_below hw8); clear hw8))
  go_ret
  exact ⟨rfl, bthen HB1.out (bthen HB.out (bthen HB7.out HB8.out))⟩

set_option maxHeartbeats 2000000 in
theorem walk_size (k : Nat) (hk : k ≤ 20) (seq : Int) (w : World) :
    Calls Try.prog 10 #[.int .i64 (two k), .int .i64 seq] w fun e w' => e = .returned (.bool true) ∧ Below w.heap.size w w' := by
  go_enter Try.func10, Try.ntmps10
  go_wp2_with (first
    | (go_at_call 15; refine (refShift_yes k hk _).mono ?_; rintro e w' ⟨rfl, rfl⟩)
    | (go_at_call 43; refine (get_nil seq _).mono ?_; rintro e w2 ⟨E2, rfl, hr2⟩; have HR2 := Lib.hid hr2; clear hr2)
    | (go_at_call 46; refine (span_nil seq seq _).mono ?_; rintro e w3 ⟨E3, rfl, hr3⟩; have HR3 := Lib.hid hr3; clear hr3)
    | (go_at_call 45; refine (fill_nil seq _ _).mono ?_; rintro e w4 ⟨E4, rfl, hr4⟩; have HR4 := Lib.hid hr4; clear hr4)
    | (go_at_call 38; refine (awake6 _).mono ?_; rintro e w5 ⟨rfl, hb5⟩; have HB5 := Lib.hid hb5; clear hb5)
    | (go_at_call 41; refine (put_nil seq _ _ _).mono ?_; rintro e w6 ⟨E6, rfl, hr6⟩; have k6 := hr6.hold (Below.refl _ _); have b65 := bthen HB5.out hr6.below; have k4 := HR4.out.hold b65; have k3 := HR3.out.hold (bthen HR4.out.below b65); have b32 := bthen ((Below.refl _ w2).alloc (Nat.le_refl _) (.cells #[.int .i64 0, .int .i64 0] 67)) (bthen HR3.out.below (bthen HR4.out.below b65)); have k2 := HR2.out.hold b32; have HB := Lib.hid (bthen HR2.out.below b32); clear hr6 b65 b32)
    | (go_at_call 16; refine (isN_chain 2 _ 1 2 (by assumption) (by decide)).mono ?_; rintro e y ⟨rfl, rfl⟩)
    | (go_at_call 42; refine (rclone_nil _).mono ?_; rintro e y ⟨rfl, rfl⟩)
    | (go_at_call 40; refine (size_nil _).mono ?_; rintro e w7 ⟨rfl, hb7⟩; have HB7 := Lib.hid hb7; clear hb7 k2 k3 k4 k6)
    | (go_at_call 18; refine (slots_any 0 (by decide) _).mono ?_; rintro e w8 ⟨rfl, hw8⟩; have HB8 := Lib.hid (slots_below hw8); clear hw8))
  go_ret
  exact ⟨rfl, bthen HB.out (bthen HB7.out HB8.out)⟩

theorem walkOf (a0 a1 : Int) (w0 : (Lit.int .i64 a0).wf = true) (w1 : (Lit.int .i64 a1).wf = true) (w : World) :
    Calls Try.prog 10 #[.int .i64 a0, .int .i64 a1] w fun e w' => e = .returned (.bool true) ∧ Below w.heap.size w w' := by
  by_cases h : ∃ k, k ≤ 20 ∧ a0 = two k
  · obtain ⟨k, hk, rfl⟩ := h
    exact walk_size k hk a1 w
  · exact walk_none a0 a1 (i64_wf w0).1 (fun k hk e => h ⟨k, hk, e⟩) w

set_option maxRecDepth 100000 in
theorem lifted (os : Os) (started : os.Started) (H : Type) (enc : TypeId × Value → H) :
    ReturnsInHanded {} Try.checked os 10 .any (Rows.slotsWrongSpec.pre6 enc Try.prog Try.f10 Rows.slotsWrongRow.domain false) (Rows.slotsWrongSpec.post enc Try.prog Try.f10 false true false false) := by
  refine returnsInHanded_of_change (C := Try.checked) own started (by kernel_rfl) Try.func10
    (ChangeSpec.witness6 (enc := enc) (C := Try.checked) false ⟨#[], #[.int .i64 0, .int .i64 0], []⟩ 8 (by kernel_rfl) (by kernel_rfl) (by kernel_rfl) (by kernel_rfl)) ?_
  intro W base args ds gs before hval0 hW hcnd _
  have hval : ∀ (j : Nat) t v, Try.f10.params[j]? = some t → args[j]? = some v → Value.okWide Try.prog W .any base t v := hval0
  have hW' := hW
  obtain ⟨p, q, hA0, hV, rfl, hfz, hnd⟩ := hW
  have hA : DataW.TrodAll enc Try.prog W 0 (fun _ => true) true Try.f10.params.toList args.toList ds p := hA0
  rw [Try.params10] at hA hval
  obtain ⟨v0, vs0, d0, ds0, p0, q0, hargs, rfl, rfl, h0, r0⟩ := trodAll_cons hA
  obtain ⟨v1, vs1, d1, ds1, p1, q1, rfl, rfl, rfl, h1, r1⟩ := trodAll_cons r0
  obtain ⟨rfl, rfl, rfl⟩ := trodAll_nil r1
  obtain rfl : args = #[v0, v1] := by cases args; simp_all
  obtain ⟨rfl, rfl⟩ := trodVars_none hV
  obtain ⟨a0, rfl, rfl, rfl, w0⟩ := open_int Try.underlying3 (hval 0 3 v0 rfl rfl) h0
  obtain ⟨a1, rfl, rfl, rfl, w1⟩ := open_int Try.underlying2 (hval 1 2 v1 rfl rfl) h1
  clear hA0 hval0
  simp only [List.append_nil] at hW'
  refine (walkOf a0 a1 w0 w1 W).mono fun e W' ⟨he, hg⟩ => ?_
  subst he
  exact ⟨_, rfl, shut_below (pa := []) (pv := []) hg hW' rfl (fun _ _ _ => (trodAll_cons_mk (shut_bool Try.underlying4 _) trodAll_mk0)) (fun sp _ => (trodAll_cons_mk (shut_int Try.underlying3 w0) (trodAll_cons_mk (shut_int Try.underlying2 w1) trodAll_mk0))) (fun _ _ => rfl)⟩

theorem over : Rows.slotsWrongRow.holds Try.pinned (OpenSpec.ofChange Rows.slotsWrongSpec) :=
  OpenClaim.holds_of_wide 10 Try.f10 rfl rfl rfl rfl rfl rfl rfl ⟨rfl, rfl, rfl, rfl, rfl⟩ rfl rfl rfl rfl rfl (by kernel_rfl) Try.func10 (by kernel_rfl)
    (of_decide_eq_true (by kernel_rfl)) (by unfold Func.isWrapper; first | (rw [if_pos (by decide +kernel)]; kernel_rfl) | (rw [if_neg (by decide +kernel)]; exact ⟨rfl, rfl⟩))
    (fun os started H enc _ => lifted os started H enc)

theorem proved : Rows.SlotsWrongSaid :=
  over
end Go.Proofs.Ytnimmkgdgdhkfaa.slotsWrong
