/-
  ActorPlays: for every list of things to be done and every row of picks the law returns true, and leaves its arguments as they were. No condition.
-/
import Derived.Test.YtpnglcafjofmnaaRows
import Derived.Test.YtpnglcafjofmnaaActLoop
import Derived.ProofKit
import Derived.OpenShut
namespace Go.Proofs.Ytpnglcafjofmnaa.actorPlays
open Go.ChangeShapes Go.WideShapes Go.ChangeAt Go.RowKit
set_option linter.unusedVariables false

theorem own : ownKnob Try.prog.godebug = none := by kernel_rfl

set_option maxRecDepth 100000 in
theorem big (W : World) (p pp : Option Addr) (n cap np capp : Nat) (hn : n ≤ maxLen) (hnp : np ≤ maxLen) (hb : 150 < n ∨ 20 < np) :
    Calls Try.prog 8 #[.slice p n cap, .slice pp np capp] W fun e w' => e = .returned (.bool true) ∧ Below W.heap.size W w' := by
  have hn9 : n ≤ 9223372036854775807 := by unfold maxLen at hn; omega
  have hp9 : np ≤ 9223372036854775807 := by unfold maxLen at hnp; omega
  clear hn hnp
  by_cases h1 : 150 < n
  · clear hb
    have d1 : decide ((150 : Int) < (n : Int)) = true := decide_eq_true (by omega)
    go_enter Try.func8, Try.ntmps8
    go_wp2_with (go_at_call 34; refine (awake5 _).mono ?_; rintro e w3 ⟨rfl, hb3⟩)
    go_ret
    exact ⟨rfl, hb3⟩
  · have h2 : 20 < np := by omega
    clear hb
    have d1 : decide ((150 : Int) < (n : Int)) = false := decide_eq_false (by omega)
    have d2 : decide ((20 : Int) < (np : Int)) = true := decide_eq_true (by omega)
    go_enter Try.func8, Try.ntmps8
    go_wp2_with (go_at_call 34; refine (awake5 _).mono ?_; rintro e w3 ⟨rfl, hb3⟩)
    go_ret
    exact ⟨rfl, hb3⟩

theorem walkOf (v vp : Value) (n np : Nat) (fld : Nat → Nat → Int) (z : Nat → Int) {W0 : World} (hO : OpsAt W0 v n 2 fld) (hP : IntsAt W0 vp np z) :
    Calls Try.prog 8 #[v, vp] W0 fun e w' => e = .returned (.bool true) ∧ Below W0.heap.size W0 w' := by
  by_cases h : n ≤ 150 ∧ np ≤ 20
  · exact aplays_walk W0 v vp n np fld z hO hP h.1 h.2
  · obtain ⟨p, cap, rfl, hm, _⟩ := hO
    obtain ⟨pp, capp, rfl, hm2, _⟩ := hP
    exact big W0 p pp n cap np capp hm hm2 (by omega)

set_option maxRecDepth 100000 in
theorem lifted (os : Os) (started : os.Started) (H : Type) (enc : TypeId × Value → H) :
    ReturnsInHanded {} Try.checked os 8 .any (Rows.actorPlaysSpec.pre6 enc Try.prog Try.f8 Rows.actorPlaysRow.domain false) (Rows.actorPlaysSpec.post enc Try.prog Try.f8 false true false false) := by
  refine returnsInHanded_of_change (C := Try.checked) own started (by kernel_rfl) Try.func8
    (ChangeSpec.witness6 (enc := enc) (C := Try.checked) false ⟨#[], #[.slice none 0 0, .slice none 0 0], []⟩ 8 (by kernel_rfl) (by kernel_rfl) (by kernel_rfl) (by kernel_rfl)) ?_
  intro W base args ds gs before hval0 hW hcnd _
  have hval : ∀ (j : Nat) t v, Try.f8.params[j]? = some t → args[j]? = some v → Value.okWide Try.prog W .any base t v := hval0
  have hW' := hW
  have hlt : ∀ p ∈ before, p.block < W.heap.size := fun p hp => hW.lt p hp
  obtain ⟨p, q, hA0, hV, rfl, hfz, hnd⟩ := hW
  have hA : DataW.TrodAll enc Try.prog W 0 (fun _ => true) true Try.f8.params.toList args.toList ds p := hA0
  rw [Try.params8] at hA hval
  obtain ⟨v0, vs0, d0, ds0, p0, q0, hargs, rfl, rfl, h0, r0⟩ := trodAll_cons hA
  obtain ⟨v1, vs1, d1, ds1, p1, q1, rfl, rfl, rfl, h1, r1⟩ := trodAll_cons r0
  obtain ⟨rfl, rfl, rfl⟩ := trodAll_nil r1
  obtain rfl : args = #[v0, v1] := by cases args; simp_all
  obtain ⟨rfl, rfl⟩ := trodVars_none hV
  have t0 := h0
  have t1 := h1
  obtain ⟨n, fld, hO⟩ : ∃ (n : Nat) (fld : Nat → Nat → Int), OpsAt W v0 n 2 fld := by
    obtain ⟨aa, len, cap, rfl⟩ := okWide_slice Try.underlying78 (hval 0 78 v0 rfl rfl)
    obtain ⟨fuel, hf⟩ := h0
    exact open_ops (by simpa [Value.cells] using hf)
  obtain ⟨np, z, hP⟩ : ∃ np z, IntsAt W v1 np z := by
    obtain ⟨aa, len, cap, rfl⟩ := okWide_slice Try.underlying62 (hval 1 62 v1 rfl rfl)
    obtain ⟨fuel, hf⟩ := h1
    exact open_intsI (by simpa [Value.cells] using hf)
  clear hA0 hval0
  refine (walkOf v0 v1 n np fld z hO hP).mono fun e W' ⟨he, hb⟩ => ?_
  subst he
  have lo : laidOutB Try.prog = true := by kernel_rfl
  have tsize : Try.prog.types.size = 185 := by kernel_rfl
  simp only [List.append_nil] at hW'
  refine ⟨_, rfl, shut_same hb hW' (fun _ _ _ => trodAll_cons_mk (shut_bool Try.underlying4 _) trodAll_mk0) ?_ rfl⟩
  have k0 := Below.trod lo (by kernel_rfl) (by rw [tsize]; decide) t0 hb (fun x hx => hlt x (by simp [hx]))
  have k1 := Below.trod lo (by kernel_rfl) (by rw [tsize]; decide) t1 hb (fun x hx => hlt x (by simp [hx]))
  have k3 := trodAll_cons_mk k0 (trodAll_cons_mk k1 trodAll_mk0)
  simp only [List.append_nil] at k3 ⊢
  exact k3

theorem over : Rows.actorPlaysRow.holds Try.pinned (OpenSpec.ofChange Rows.actorPlaysSpec) :=
  OpenClaim.holds_of_wide 8 Try.f8 rfl rfl rfl rfl rfl rfl rfl ⟨rfl, rfl, rfl, rfl, rfl⟩ rfl rfl rfl rfl rfl (by kernel_rfl) Try.func8 (by kernel_rfl)
    (of_decide_eq_true (by kernel_rfl)) (by unfold Func.isWrapper; first | (rw [if_pos (by decide +kernel)]; kernel_rfl) | (rw [if_neg (by decide +kernel)]; exact ⟨rfl, rfl⟩))
    (fun os started H enc _ => lifted os started H enc)

theorem proved : Rows.ActorPlaysSaid :=
  over
end Go.Proofs.Ytpnglcafjofmnaa.actorPlays
