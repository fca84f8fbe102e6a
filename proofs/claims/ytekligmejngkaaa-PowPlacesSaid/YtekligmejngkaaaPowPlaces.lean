/-
  PowPlaces: for every seq and shift the law returns true, and leaves its arguments as they were. No condition.
-/
import Derived.Test.YtekligmejngkaaaRows
import Derived.Test.YtekligmejngkaaaPow4
import Derived.Test.YtekligmejngkaaaPost
import Derived.ProofKit
import Derived.OpenShut
namespace Go.Proofs.Ytekligmejngkaaa.powPlaces
open Go.ChangeShapes Go.WideShapes Go.ChangeAt Go.RowKit
set_option linter.unusedVariables false

theorem own : ownKnob Try.prog.godebug = none := by kernel_rfl

theorem inside (a0 a1 : Int) (h1 : 0 ≤ a1) (h2 : a1 ≤ 255) (hs : -9223372036854775808 ≤ a0 ∧ a0 ≤ 9223372036854775807) (hin : -1 ≤ a0 ∧ a0 ≤ 4611686018427387904) (w : World) :
    Calls Try.prog 4 #[.int .i64 a0, .int .u8 a1] w fun e w' => e = .returned (.bool true) ∧ Below w.heap.size w w' := by
  obtain ⟨k, hk⟩ : ∃ k : Nat, a1 % 21 = k := ⟨(a1 % 21).toNat, by omega⟩
  have hk20 : k ≤ 20 := by omega
  have g1 := two_le hk20
  have g2 := two_pos k
  obtain ⟨hin1, hin2⟩ := hin
  go_enter Try.func4, Try.ntmps4
  go_wp2_with (first
    | (go_at_call 7; rw [wrap_two k hk20]; refine (of_yes k hk20 _).mono ?_; rintro e w1 ⟨rfl, hb1⟩)
    | (go_at_call 16; (try rw [wrap_two k hk20]); refine (refPlace_any _ _ hs (by omega) (by omega) _).mono ?_; rintro e w' ⟨rfl, rfl⟩)
    | (go_at_call 17; refine (wrapTo_yes k hk20 _ hin1 hin2 _).mono ?_; rintro e w2 ⟨rfl, hb2⟩; have hs2 := keepc hb2 (b := w1.heap.size) (o := 0) (v := .int .u8 k) (by go_simp))
    | (go_at_call 15; refine (awake2 _).mono ?_; rintro e w3 ⟨rfl, hb3⟩; have hs3 := keepc hb3 hs2)
    | (go_at_call 18; refine (index_any k hk20 _ _).mono ?_; rintro e w4 ⟨rfl, hb4⟩; have hs4 := keepc hb4 hs3)
    | (go_at_call 19; refine (round_any k hk20 _ _).mono ?_; rintro e w5 ⟨rfl, hb5⟩; have hs5 := keepc hb5 hs4))
  go_ret
  exact ⟨rfl, bthen (bthen (bthen (bthen (balloc hb1 _) hb2) hb3) hb4) hb5⟩

theorem outside (a0 a1 : Int) (h1 : 0 ≤ a1) (h2 : a1 ≤ 255) (hs : -9223372036854775808 ≤ a0 ∧ a0 ≤ 9223372036854775807) (ho : a0 < -1 ∨ 4611686018427387904 < a0) (w : World) :
    Calls Try.prog 4 #[.int .i64 a0, .int .u8 a1] w fun e w' => e = .returned (.bool true) ∧ Below w.heap.size w w' := by
  obtain ⟨k, hk⟩ : ∃ k : Nat, a1 % 21 = k := ⟨(a1 % 21).toNat, by omega⟩
  have hk20 : k ≤ 20 := by omega
  have g1 := two_le hk20
  have g2 := two_pos k
  by_cases hneg : a0 < -1
  · have ho' : a0 < -1 ∨ 4611686018427387904 < a0 := Or.inl hneg
    clear ho
    go_enter Try.func4, Try.ntmps4
    go_wp2_with (first
      | (go_at_call 7; rw [wrap_two k hk20]; refine (of_yes k hk20 _).mono ?_; rintro e w1 ⟨rfl, hb1⟩)
      | (go_at_call 16; (try rw [wrap_two k hk20]); refine (refPlace_any _ _ hs (by omega) (by omega) _).mono ?_; rintro e w' ⟨rfl, rfl⟩)
      | (go_at_call 17; refine (wrapTo_no k _ ho' _).mono ?_; rintro e w2 ⟨F, rfl, hF2, hb2⟩; have hs2 := keepc hb2 (b := w1.heap.size) (o := 0) (v := .int .u8 k) (by go_simp))
      | (go_at_call 15; refine (awake2 _).mono ?_; rintro e w3 ⟨rfl, hb3⟩; have hs3 := keepc hb3 hs2; have hF3 := hF2.keep hb3)
      | (go_at_call 18; refine (index_any k hk20 _ _).mono ?_; rintro e w4 ⟨rfl, hb4⟩; have hs4 := keepc hb4 hs3; have hF4 := hF3.keep hb4)
      | (go_at_call 19; refine (round_any k hk20 _ _).mono ?_; rintro e w5 ⟨rfl, hb5⟩; have hs5 := keepc hb5 hs4; have hF5 := hF4.keep hb5)
      | (go_at_call 9; refine (isN_same _ _ (Or.inr ⟨by decide, 1, hF5⟩)).mono ?_; rintro e w' ⟨rfl, rfl⟩))
    go_ret
    exact ⟨rfl, bthen (bthen (bthen (bthen (balloc hb1 _) hb2) hb3) hb4) hb5⟩
  · have ho' : a0 < -1 ∨ 4611686018427387904 < a0 := ho
    have hgt : 4611686018427387904 < a0 := by omega
    clear ho
    go_enter Try.func4, Try.ntmps4
    go_wp2_with (first
      | (go_at_call 7; rw [wrap_two k hk20]; refine (of_yes k hk20 _).mono ?_; rintro e w1 ⟨rfl, hb1⟩)
      | (go_at_call 16; (try rw [wrap_two k hk20]); refine (refPlace_any _ _ hs (by omega) (by omega) _).mono ?_; rintro e w' ⟨rfl, rfl⟩)
      | (go_at_call 17; refine (wrapTo_no k _ ho' _).mono ?_; rintro e w2 ⟨F, rfl, hF2, hb2⟩; have hs2 := keepc hb2 (b := w1.heap.size) (o := 0) (v := .int .u8 k) (by go_simp))
      | (go_at_call 15; refine (awake2 _).mono ?_; rintro e w3 ⟨rfl, hb3⟩; have hs3 := keepc hb3 hs2; have hF3 := hF2.keep hb3)
      | (go_at_call 18; refine (index_any k hk20 _ _).mono ?_; rintro e w4 ⟨rfl, hb4⟩; have hs4 := keepc hb4 hs3; have hF4 := hF3.keep hb4)
      | (go_at_call 19; refine (round_any k hk20 _ _).mono ?_; rintro e w5 ⟨rfl, hb5⟩; have hs5 := keepc hb5 hs4; have hF5 := hF4.keep hb5)
      | (go_at_call 9; refine (isN_same _ _ (Or.inr ⟨by decide, 1, hF5⟩)).mono ?_; rintro e w' ⟨rfl, rfl⟩))
    go_ret
    exact ⟨rfl, bthen (bthen (bthen (bthen (balloc hb1 _) hb2) hb3) hb4) hb5⟩

theorem walkOf (a0 a1 : Int) (w0 : (Lit.int .i64 a0).wf = true) (w1 : (Lit.int .u8 a1).wf = true) (w : World) :
    Calls Try.prog 4 #[.int .i64 a0, .int .u8 a1] w fun e w' => e = .returned (.bool true) ∧ Below w.heap.size w w' := by
  by_cases h : a0 < -1 ∨ 4611686018427387904 < a0
  · exact outside a0 a1 (u8_wf w1).1 (u8_wf w1).2 (i64_wf w0) h w
  · exact inside a0 a1 (u8_wf w1).1 (u8_wf w1).2 (i64_wf w0) (by omega) w

set_option maxRecDepth 100000 in
theorem lifted (os : Os) (started : os.Started) (H : Type) (enc : TypeId × Value → H) :
    ReturnsInHanded {} Try.checked os 4 .any (Rows.powPlacesSpec.pre6 enc Try.prog Try.f4 Rows.powPlacesRow.domain false) (Rows.powPlacesSpec.post enc Try.prog Try.f4 false true false false) := by
  refine returnsInHanded_of_change (C := Try.checked) own started (by kernel_rfl) Try.func4
    (ChangeSpec.witness6 (enc := enc) (C := Try.checked) false ⟨#[], #[.int .i64 0, .int .u8 0], []⟩ 8 (by kernel_rfl) (by kernel_rfl) (by kernel_rfl) (by kernel_rfl)) ?_
  intro W base args ds gs before hval0 hW hcnd _
  have hval : ∀ (j : Nat) t v, Try.f4.params[j]? = some t → args[j]? = some v → Value.okWide Try.prog W .any base t v := hval0
  have hW' := hW
  obtain ⟨p, q, hA0, hV, rfl, hfz, hnd⟩ := hW
  have hA : DataW.TrodAll enc Try.prog W 0 (fun _ => true) true Try.f4.params.toList args.toList ds p := hA0
  rw [Try.params4] at hA hval
  obtain ⟨v0, vs0, d0, ds0, p0, q0, hargs, rfl, rfl, h0, r0⟩ := trodAll_cons hA
  obtain ⟨v1, vs1, d1, ds1, p1, q1, rfl, rfl, rfl, h1, r1⟩ := trodAll_cons r0
  obtain ⟨rfl, rfl, rfl⟩ := trodAll_nil r1
  obtain rfl : args = #[v0, v1] := by cases args; simp_all
  obtain ⟨rfl, rfl⟩ := trodVars_none hV
  obtain ⟨a0, rfl, rfl, rfl, w0⟩ := open_int Try.underlying2 (hval 0 2 v0 rfl rfl) h0
  obtain ⟨a1, rfl, rfl, rfl, w1⟩ := open_int Try.underlying5 (hval 1 5 v1 rfl rfl) h1
  clear hA0 hval0
  simp only [List.append_nil] at hW'
  refine (walkOf a0 a1 w0 w1 W).mono fun e W' ⟨he, hg⟩ => ?_
  subst he
  exact ⟨_, rfl, shut_below (pa := []) (pv := []) hg hW' rfl (fun _ _ _ => (trodAll_cons_mk (shut_bool Try.underlying4 _) trodAll_mk0)) (fun sp _ => (trodAll_cons_mk (shut_int Try.underlying2 w0) (trodAll_cons_mk (shut_int Try.underlying5 w1) trodAll_mk0))) (fun _ _ => rfl)⟩

theorem over : Rows.powPlacesRow.holds Try.pinned (OpenSpec.ofChange Rows.powPlacesSpec) :=
  OpenClaim.holds_of_wide 4 Try.f4 rfl rfl rfl rfl rfl rfl rfl ⟨rfl, rfl, rfl, rfl, rfl⟩ rfl rfl rfl rfl rfl (by kernel_rfl) Try.func4 (by kernel_rfl)
    (of_decide_eq_true (by kernel_rfl)) (by unfold Func.isWrapper; first | (rw [if_pos (by decide +kernel)]; kernel_rfl) | (rw [if_neg (by decide +kernel)]; exact ⟨rfl, rfl⟩))
    (fun os started H enc _ => lifted os started H enc)

theorem proved : Rows.PowPlacesSaid :=
  over
end Go.Proofs.Ytekligmejngkaaa.powPlaces
