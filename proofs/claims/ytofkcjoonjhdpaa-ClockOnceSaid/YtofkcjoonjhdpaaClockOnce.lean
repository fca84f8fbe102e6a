/-
  ClockOnce: for every time, number and row of ticks the law returns true, and leaves its arguments as they were. No condition.
-/
import Derived.Test.YtofkcjoonjhdpaaRows
import Derived.Test.YtofkcjoonjhdpaaOnce
import Derived.Test.YtofkcjoonjhdpaaNums
import Derived.ProofKit
import Derived.OpenShut
namespace Go.Proofs.Ytofkcjoonjhdpaa.clockOnce
open Go.ChangeShapes Go.WideShapes Go.ChangeAt Go.RowKit
set_option linter.unusedVariables false

theorem own : ownKnob Try.prog.godebug = none := by kernel_rfl

theorem big (W : World) (a wh : Int) (p : Option Addr) (n cap : Nat) (hn : n ≤ maxLen) (hb : a < 1 ∨ 2000 < a ∨ 60 < n) :
    Calls Try.prog 7 #[.int .i64 a, .int .u8 wh, .slice p n cap] W fun e w' => e = .returned (.bool true) ∧ Below W.heap.size W w' := by
  have hn9 : n ≤ 9223372036854775807 := by unfold maxLen at hn; omega
  clear hn
  by_cases h1 : a < 1
  · clear hb
    go_enter Try.func7, Try.ntmps7
    go_wp2_with (go_at_call 20; refine (awake4 _).mono ?_; rintro e w3 ⟨rfl, hb3⟩)
    go_ret
    exact ⟨rfl, hb3⟩
  · have h1' : 1 ≤ a := by omega
    by_cases h2 : 2000 < a
    · clear hb
      go_enter Try.func7, Try.ntmps7
      go_wp2_with (go_at_call 20; refine (awake4 _).mono ?_; rintro e w3 ⟨rfl, hb3⟩)
      go_ret
      exact ⟨rfl, hb3⟩
    · have h3 : 60 < n := by omega
      have h2' : a ≤ 2000 := by omega
      clear hb
      go_enter Try.func7, Try.ntmps7
      go_wp2_with (go_at_call 20; refine (awake4 _).mono ?_; rintro e w3 ⟨rfl, hb3⟩)
      go_ret
      exact ⟨rfl, hb3⟩

theorem walkOf (a wh : Int) (hw : (Lit.int .u8 wh).wf = true) (v : Value) (n : Nat) (z : Nat → Int) {W0 : World} (hO : NumsAt W0 v n z) :
    Calls Try.prog 7 #[.int .i64 a, .int .u8 wh, v] W0 fun e w' => e = .returned (.bool true) ∧ Below W0.heap.size W0 w' := by
  obtain ⟨p, cap, rfl, hm, hc⟩ := hO
  by_cases h : a < 1 ∨ 2000 < a ∨ 60 < n
  · exact big W0 a wh p n cap hm h
  · exact once_walk W0 (a, wh % 64) wh n cap p z (by show 1 ≤ a; omega) (by show a ≤ 2000; omega) (u8_wf hw).1 (u8_wf hw).2 rfl (by omega) hc

set_option maxRecDepth 100000 in
theorem lifted (os : Os) (started : os.Started) (H : Type) (enc : TypeId × Value → H) :
    ReturnsInHanded {} Try.checked os 7 .any (Rows.clockOnceSpec.pre6 enc Try.prog Try.f7 Rows.clockOnceRow.domain false) (Rows.clockOnceSpec.post enc Try.prog Try.f7 false true false false) := by
  refine returnsInHanded_of_change (C := Try.checked) own started (by kernel_rfl) Try.func7
    (ChangeSpec.witness6 (enc := enc) (C := Try.checked) false ⟨#[], #[.int .i64 0, .int .u8 0, .slice none 0 0], []⟩ 8 (by kernel_rfl) (by kernel_rfl) (by kernel_rfl) (by kernel_rfl)) ?_
  intro W base args ds gs before hval0 hW hcnd _
  have hval : ∀ (j : Nat) t v, Try.f7.params[j]? = some t → args[j]? = some v → Value.okWide Try.prog W .any base t v := hval0
  have hW' := hW
  have hlt : ∀ p ∈ before, p.block < W.heap.size := fun p hp => hW.lt p hp
  obtain ⟨p, q, hA0, hV, rfl, hfz, hnd⟩ := hW
  have hA : DataW.TrodAll enc Try.prog W 0 (fun _ => true) true Try.f7.params.toList args.toList ds p := hA0
  rw [Try.params7] at hA hval
  obtain ⟨v0, vs0, d0, ds0, p0, q0, hargs, rfl, rfl, h0, r0⟩ := trodAll_cons hA
  obtain ⟨v1, vs1, d1, ds1, p1, q1, rfl, rfl, rfl, h1, r1⟩ := trodAll_cons r0
  obtain ⟨v2, vs2, d2, ds2, p2, q2, rfl, rfl, rfl, h2, r2⟩ := trodAll_cons r1
  obtain ⟨rfl, rfl, rfl⟩ := trodAll_nil r2
  obtain rfl : args = #[v0, v1, v2] := by cases args; simp_all
  obtain ⟨rfl, rfl⟩ := trodVars_none hV
  have t0 := h0
  have t1 := h1
  obtain ⟨a, rfl, _, _, w0⟩ := open_int Try.underlying2 (hval 0 2 v0 rfl rfl) h0
  obtain ⟨wh, rfl, _, _, w1⟩ := open_int Try.underlying5 (hval 1 5 v1 rfl rfl) h1
  obtain ⟨n, z, hO⟩ : ∃ n z, NumsAt W v2 n z := by
    obtain ⟨aa, len, cap, rfl⟩ := okWide_slice Try.underlying74 (hval 2 74 v2 rfl rfl)
    obtain ⟨fuel, hf⟩ := h2
    exact open_nums (by simpa [Value.cells] using hf)
  clear hA0 hval0
  refine (walkOf a wh w1 v2 n z hO).mono fun e W' ⟨he, hb⟩ => ?_
  subst he
  have lo : laidOutB Try.prog = true := by kernel_rfl
  have tsize : Try.prog.types.size = 151 := by kernel_rfl
  simp only [List.append_nil] at hW'
  refine ⟨_, rfl, shut_same hb hW' (fun _ _ _ => trodAll_cons_mk (shut_bool Try.underlying4 _) trodAll_mk0) ?_ rfl⟩
  have k0 := Below.trod lo (by kernel_rfl) (by rw [tsize]; decide) t0 hb (fun x hx => hlt x (by simp [hx]))
  have k1 := Below.trod lo (by kernel_rfl) (by rw [tsize]; decide) t1 hb (fun x hx => hlt x (by simp [hx]))
  have k2 := Below.trod lo (by kernel_rfl) (by rw [tsize]; decide) h2 hb (fun x hx => hlt x (by simp [hx]))
  have k3 := trodAll_cons_mk k0 (trodAll_cons_mk k1 (trodAll_cons_mk k2 trodAll_mk0))
  simp only [List.append_nil] at k3 ⊢
  exact k3

theorem over : Rows.clockOnceRow.holds Try.pinned (OpenSpec.ofChange Rows.clockOnceSpec) :=
  OpenClaim.holds_of_wide 7 Try.f7 rfl rfl rfl rfl rfl rfl rfl ⟨rfl, rfl, rfl, rfl, rfl⟩ rfl rfl rfl rfl rfl (by kernel_rfl) Try.func7 (by kernel_rfl)
    (of_decide_eq_true (by kernel_rfl)) (by unfold Func.isWrapper; first | (rw [if_pos (by decide +kernel)]; kernel_rfl) | (rw [if_neg (by decide +kernel)]; exact ⟨rfl, rfl⟩))
    (fun os started H enc _ => lifted os started H enc)

theorem proved : Rows.ClockOnceSaid :=
  over
end Go.Proofs.Ytofkcjoonjhdpaa.clockOnce
