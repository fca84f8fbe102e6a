/-
  RoomTimes: for every deadline, row of ticks and time of waking the law returns true, and leaves its arguments as they were. No condition.
-/
import Derived.Test.YtndmhnakfhofpaaRows
import Derived.Test.YtndmhnakfhofpaaRo9
import Derived.ProofKit
import Derived.OpenShut
namespace Go.Proofs.Ytndmhnakfhofpaa.roomTimes
open Go.ChangeShapes Go.WideShapes Go.ChangeAt Go.RowKit
set_option linter.unusedVariables false

theorem own : ownKnob Try.prog.godebug = none := by kernel_rfl

set_option maxRecDepth 100000 in
theorem big (W : World) (a wh : Int) (p : Option Addr) (n cap : Nat) (hn : n ≤ maxLen) (hb : a < 1 ∨ 5000 < a ∨ 50 < n) :
    Calls Try.prog 3 #[.int .i64 a, .slice p n cap, .int .u8 wh] W fun e w' => e = .returned (.bool true) ∧ Below W.heap.size W w' := by
  have hn9 : n ≤ 9223372036854775807 := by unfold maxLen at hn; omega
  clear hn
  by_cases h1 : a < 1
  · clear hb
    go_enter Try.func3, Try.ntmps3
    go_wp2_with (go_at_call 15; refine (awake14 _).mono ?_; rintro e w3 ⟨rfl, hb3⟩)
    go_ret
    exact ⟨rfl, hb3⟩
  · have h1' : 1 ≤ a := by omega
    by_cases h2 : 5000 < a
    · clear hb
      go_enter Try.func3, Try.ntmps3
      go_wp2_with (go_at_call 15; refine (awake14 _).mono ?_; rintro e w3 ⟨rfl, hb3⟩)
      go_ret
      exact ⟨rfl, hb3⟩
    · have h3 : 50 < n := by omega
      have h2' : a ≤ 5000 := by omega
      clear hb
      go_enter Try.func3, Try.ntmps3
      go_wp2_with (go_at_call 15; refine (awake14 _).mono ?_; rintro e w3 ⟨rfl, hb3⟩)
      go_ret
      exact ⟨rfl, hb3⟩

theorem walkOf (a : Int) (wa : (Lit.int .i64 a).wf = true) (v : Value) (n : Nat) (z : Nat → Int) {W0 : World} (hO : NumsAt W0 v n z) (wh : Int) (hw : (Lit.int .u8 wh).wf = true) :
    Calls Try.prog 3 #[.int .i64 a, v, .int .u8 wh] W0 fun e w' => e = .returned (.bool true) ∧ Below W0.heap.size W0 w' := by
  obtain ⟨p, cap, rfl, hm, hc⟩ := hO
  by_cases h : a < 1 ∨ 5000 < a ∨ 50 < n
  · exact big W0 a wh p n cap hm h
  · exact times_walk W0 a wh (wh % 60) n cap p z (by omega) (by omega) (u8_wf hw).1 (u8_wf hw).2 rfl (by omega) hc

set_option maxRecDepth 100000 in
theorem lifted (os : Os) (started : os.Started) (H : Type) (enc : TypeId × Value → H) :
    ReturnsInHanded {} Try.checked os 3 .any (Rows.roomTimesSpec.pre6 enc Try.prog Try.f3 Rows.roomTimesRow.domain false) (Rows.roomTimesSpec.post enc Try.prog Try.f3 false true false false) := by
  refine returnsInHanded_of_change (C := Try.checked) own started (by kernel_rfl) Try.func3
    (ChangeSpec.witness6 (enc := enc) (C := Try.checked) false ⟨#[], #[.int .i64 0, .slice none 0 0, .int .u8 0], []⟩ 8 (by kernel_rfl) (by kernel_rfl) (by kernel_rfl) (by kernel_rfl)) ?_
  intro W base args ds gs before hval0 hW hcnd _
  have hval : ∀ (j : Nat) t v, Try.f3.params[j]? = some t → args[j]? = some v → Value.okWide Try.prog W .any base t v := hval0
  have hW' := hW
  have hlt : ∀ p ∈ before, p.block < W.heap.size := fun p hp => hW.lt p hp
  obtain ⟨p, q, hA0, hV, rfl, hfz, hnd⟩ := hW
  have hA : DataW.TrodAll enc Try.prog W 0 (fun _ => true) true Try.f3.params.toList args.toList ds p := hA0
  rw [Try.params3] at hA hval
  obtain ⟨v0, vs0, d0, ds0, p0, q0, hargs, rfl, rfl, h0, r0⟩ := trodAll_cons hA
  obtain ⟨v1, vs1, d1, ds1, p1, q1, rfl, rfl, rfl, h1, r1⟩ := trodAll_cons r0
  obtain ⟨v2, vs2, d2, ds2, p2, q2, rfl, rfl, rfl, h2, r2⟩ := trodAll_cons r1
  obtain ⟨rfl, rfl, rfl⟩ := trodAll_nil r2
  obtain rfl : args = #[v0, v1, v2] := by cases args; simp_all
  obtain ⟨rfl, rfl⟩ := trodVars_none hV
  have t0 := h0
  obtain ⟨a0, rfl, _, _, w0⟩ := open_int Try.underlying2 (hval 0 2 v0 rfl rfl) h0
  have t1 := h1
  obtain ⟨n1, z1, hO1⟩ : ∃ n z, NumsAt W v1 n z := by
    obtain ⟨aa, len, cap, rfl⟩ := okWide_slice Try.underlying22 (hval 1 22 v1 rfl rfl)
    obtain ⟨fuel, hf⟩ := h1
    exact open_nums (by simpa [Value.cells] using hf)
  have t2 := h2
  obtain ⟨a2, rfl, _, _, w2⟩ := open_int Try.underlying5 (hval 2 5 v2 rfl rfl) h2
  clear hA0 hval0
  refine (walkOf a0 w0 v1 n1 z1 hO1 a2 w2 (W0 := W)).mono fun e W' ⟨he, hb⟩ => ?_
  subst he
  have lo : laidOutB Try.prog = true := by kernel_rfl
  have tsize : Try.prog.types.size = 316 := by kernel_rfl
  simp only [List.append_nil] at hW'
  refine ⟨_, rfl, shut_same hb hW' (fun _ _ _ => trodAll_cons_mk (shut_bool Try.underlying4 _) trodAll_mk0) ?_ rfl⟩
  have k0 := Below.trod lo (by kernel_rfl) (by rw [tsize]; decide) t0 hb (fun x hx => hlt x (by simp [hx]))
  have k1 := Below.trod lo (by kernel_rfl) (by rw [tsize]; decide) t1 hb (fun x hx => hlt x (by simp [hx]))
  have k2 := Below.trod lo (by kernel_rfl) (by rw [tsize]; decide) t2 hb (fun x hx => hlt x (by simp [hx]))
  have kk := (trodAll_cons_mk k0 (trodAll_cons_mk k1 (trodAll_cons_mk k2 trodAll_mk0)))
  simp only [List.append_nil] at kk ⊢
  exact kk

theorem over : Rows.roomTimesRow.holds Try.pinned (OpenSpec.ofChange Rows.roomTimesSpec) :=
  OpenClaim.holds_of_wide 3 Try.f3 rfl rfl rfl rfl rfl rfl rfl ⟨rfl, rfl, rfl, rfl, rfl⟩ rfl rfl rfl rfl rfl (by kernel_rfl) Try.func3 (by kernel_rfl)
    (of_decide_eq_true (by kernel_rfl)) (by unfold Func.isWrapper; first | (rw [if_pos (by decide +kernel)]; kernel_rfl) | (rw [if_neg (by decide +kernel)]; exact ⟨rfl, rfl⟩))
    (fun os started H enc _ => lifted os started H enc)

theorem proved : Rows.RoomTimesSaid :=
  over
end Go.Proofs.Ytndmhnakfhofpaa.roomTimes
