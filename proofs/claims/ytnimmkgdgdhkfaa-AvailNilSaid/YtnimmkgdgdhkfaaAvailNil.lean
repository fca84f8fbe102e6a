/-
  AvailNil: for every index the law returns true, and leaves its argument as it was. No condition.
-/
import Derived.Test.YtnimmkgdgdhkfaaRows
import Derived.Test.YtnimmkgdgdhkfaaAvail5
import Derived.Test.YtnimmkgdgdhkfaaPost
import Derived.ProofKit
import Derived.OpenShut
namespace Go.Proofs.Ytnimmkgdgdhkfaa.availNil
open Go.ChangeShapes Go.WideShapes Go.ChangeAt Go.RowKit
set_option linter.unusedVariables false

theorem own : ownKnob Try.prog.godebug = none := by kernel_rfl

theorem of_two (w : World) : Calls Try.prog 14 #[.int .i64 2] w fun e w' => e = .returned (.tuple #[.agg #[.int .u8 1], .nilIface]) ∧ Below w.heap.size w w' := by
  have h := of_yes 1 (by decide) w
  rw [show two 1 = 2 from rfl] at h
  exact h

set_option maxHeartbeats 2000000 in
theorem walkOf (a0 : Int) (w0 : (Lit.int .i64 a0).wf = true) (w : World) :
    Calls Try.prog 13 #[.int .i64 a0] w fun e w' => e = .returned (.bool true) ∧ Below w.heap.size w w' := by
  clear w0
  go_enter Try.func13, Try.ntmps13
  go_wp2_with (first
    | (go_at_call 28; refine (new_m _).mono ?_; rintro e w1 ⟨rfl, hm⟩; have HM1 := Lib.hid hm; clear hm)
    | (go_at_call 14; refine (of_two _).mono ?_; rintro e w2 ⟨rfl, hb⟩; have HM2 := Lib.hid (HM1.out.keep (balloc hb (.cells #[.int .u8 1] 23))); have HO2 := Lib.hid (obj_new w2 (.cells #[.int .u8 1] 23)); clear hb HM1)
    | (go_at_call_of 48 (Value.pointer none); refine (anew_nil 1 (by decide) _).mono ?_; rintro e w3 ⟨E3, rfl, hr⟩; have HR3 := Lib.hid hr; clear hr)
    | (go_at_call_of 50 (Value.pointer (some ⟨w.heap.size, 0, none⟩)); refine (is_nilB _ a0 _).mono ?_; rintro e w4 ⟨E4, rfl, hr⟩; have HR4 := Lib.hid hr; clear hr)
    | (go_at_call 52; refine (hi_nilB _ a0 a0 _).mono ?_; rintro e w5 ⟨E5, rfl, hr⟩; have hb5 := bthen HR3.out.below (bthen HR4.out.below hr.below); have HM5 := Lib.hid (HM2.out.keep hb5); have o5 := keepc hb5 ((obj_cell HO2.out 0).trans rfl); have HR5 := Lib.hid hr; clear hr hb5 HM2)
    | (go_at_call_of 48 (Value.pointer (some ⟨w.heap.size, 0, none⟩)); refine (anew_ok HM5.out 1 2 (by decide) rfl (by decide)).mono ?_; rintro e w6 ⟨q, rfl, ha, hd⟩; have HA6 := Lib.hid ha; have HD6 := Lib.hid hd; clear ha hd o5)
    | (go_at_call_of 50 (Value.pointer (some ⟨q, 0, none⟩)); refine (is_nilA _ a0 _).mono ?_; rintro e w7 ⟨E7, rfl, hr⟩; have HR7 := Lib.hid hr; clear hr)
    | (go_at_call 47; refine (awake7 _).mono ?_; rintro e w8 ⟨rfl, hb⟩; have hb68 := bthen HR7.out.below hb; have k5 := (HD6.out _ _ _ (HR5.out.hold (Below.refl _ _))).keep hb68; have k4 := (HD6.out _ _ _ (HR4.out.hold HR5.out.below)).keep hb68; have k3 := (HD6.out _ _ _ (HR3.out.hold (bthen HR4.out.below HR5.out.below))).keep hb68; have HK7 := Lib.hid (HR7.out.hold hb); have HA8 := Lib.hid (HA6.out.keep hb68); clear hb hb68)
    | (go_at_call 49; refine (show_nilB _ a0 a0 _).mono ?_; rintro e w9 ⟨E9, rfl, hr⟩; have k9 := hr.hold (Below.refl _ _); have k7 := HK7.out.keep hr.below; have HA9 := Lib.hid (HA8.out.keep hr.below); clear hr k3 k4 k5)
    | (go_at_call 16; refine (isN_chain 2 _ 1 2 (by assumption) (by decide)).mono ?_; rintro e y ⟨rfl, rfl⟩)
    | (go_at_call 54; refine (cell_nil _ _).mono ?_; rintro e y ⟨rfl, rfl⟩)
    | (go_at_call 55; refine (rd_nil _ _).mono ?_; rintro e y ⟨rfl, rfl⟩))
  go_ret
  exact ⟨rfl, HA9.out.below⟩

set_option maxRecDepth 100000 in
theorem lifted (os : Os) (started : os.Started) (H : Type) (enc : TypeId × Value → H) :
    ReturnsInHanded {} Try.checked os 13 .any (Rows.availNilSpec.pre6 enc Try.prog Try.f13 Rows.availNilRow.domain false) (Rows.availNilSpec.post enc Try.prog Try.f13 false true false false) := by
  refine returnsInHanded_of_change (C := Try.checked) own started (by kernel_rfl) Try.func13
    (ChangeSpec.witness6 (enc := enc) (C := Try.checked) false ⟨#[], #[.int .i64 0], []⟩ 8 (by kernel_rfl) (by kernel_rfl) (by kernel_rfl) (by kernel_rfl)) ?_
  intro W base args ds gs before hval0 hW hcnd _
  have hval : ∀ (j : Nat) t v, Try.f13.params[j]? = some t → args[j]? = some v → Value.okWide Try.prog W .any base t v := hval0
  have hW' := hW
  obtain ⟨p, q, hA0, hV, rfl, hfz, hnd⟩ := hW
  have hA : DataW.TrodAll enc Try.prog W 0 (fun _ => true) true Try.f13.params.toList args.toList ds p := hA0
  rw [Try.params13] at hA hval
  obtain ⟨v0, vs0, d0, ds0, p0, q0, hargs, rfl, rfl, h0, r0⟩ := trodAll_cons hA
  obtain ⟨rfl, rfl, rfl⟩ := trodAll_nil r0
  obtain rfl : args = #[v0] := by cases args; simp_all
  obtain ⟨rfl, rfl⟩ := trodVars_none hV
  obtain ⟨a0, rfl, rfl, rfl, w0⟩ := open_int Try.underlying2 (hval 0 2 v0 rfl rfl) h0
  clear hA0 hval0
  simp only [List.append_nil] at hW'
  refine (walkOf a0 w0 W).mono fun e W' ⟨he, hg⟩ => ?_
  subst he
  exact ⟨_, rfl, shut_below (pa := []) (pv := []) hg hW' rfl (fun _ _ _ => (trodAll_cons_mk (shut_bool Try.underlying4 _) trodAll_mk0)) (fun sp _ => (trodAll_cons_mk (shut_int Try.underlying2 w0) trodAll_mk0)) (fun _ _ => rfl)⟩

theorem over : Rows.availNilRow.holds Try.pinned (OpenSpec.ofChange Rows.availNilSpec) :=
  OpenClaim.holds_of_wide 13 Try.f13 rfl rfl rfl rfl rfl rfl rfl ⟨rfl, rfl, rfl, rfl, rfl⟩ rfl rfl rfl rfl rfl (by kernel_rfl) Try.func13 (by kernel_rfl)
    (of_decide_eq_true (by kernel_rfl)) (by unfold Func.isWrapper; first | (rw [if_pos (by decide +kernel)]; kernel_rfl) | (rw [if_neg (by decide +kernel)]; exact ⟨rfl, rfl⟩))
    (fun os started H enc _ => lifted os started H enc)

theorem proved : Rows.AvailNilSaid :=
  over
end Go.Proofs.Ytnimmkgdgdhkfaa.availNil
