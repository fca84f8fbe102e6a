/-
  PowTurns: for every seq, shift and by the law returns true, and leaves its arguments as they were. No condition.
-/
import Derived.Test.YtekligmejngkaaaRows
import Derived.Test.YtekligmejngkaaaPow4
import Derived.Test.YtekligmejngkaaaPost
import Derived.ProofKit
import Derived.OpenShut
import Derived.Deep.RegionHeld3
import Derived.Deep.QuietTactic
import Derived.BigQuiet
namespace Go.Proofs.Ytekligmejngkaaa.powTurns
open Go.ChangeShapes Go.WideShapes Go.ChangeAt Go.RowKit
set_option linter.unusedVariables false

theorem own : ownKnob Try.prog.godebug = none := by kernel_rfl

theorem slots_b (k : Nat) (hk : k ≤ 20) (w : World) :
    Calls Try.prog 11 #[.agg #[.int .u8 k]] w fun e w' => e = .returned (.int .i64 (two k)) ∧ Below w.heap.size w w' :=
  (slots_any k hk w).mono fun e w' ⟨he, hw⟩ => ⟨he, hw ▸ balloc (Below.refl _ _) _⟩
theorem held {w a b : World} {B k : Nat} (hb : Below a.heap.size a b) (h : a.cell? ⟨B, 0, none⟩ = some (.int .u8 k) ∧ Below w.heap.size w a) :
    b.cell? ⟨B, 0, none⟩ = some (.int .u8 k) ∧ Below w.heap.size w b := ⟨keepc hb h.1, bthen h.2 hb⟩

theorem outside (a0 a1 a2 : Int) (h : a0 < -1 ∨ 4611686018425290752 < a0) (w : World) :
    Calls Try.prog 6 #[.int .i64 a0, .int .u8 a1, .int .u8 a2] w fun e w' => e = .returned (.bool true) ∧ Below w.heap.size w w' := by
  rcases h with h | h
  · go_enter Try.func6, Try.ntmps6
    go_wp2_with (go_at_call 15; refine (awake2 _).mono ?_; rintro e w3 ⟨rfl, hb3⟩)
    go_ret
    exact ⟨rfl, hb3⟩
  · have h' : ¬ a0 < -1 := by omega
    go_enter Try.func6, Try.ntmps6
    go_wp2_with (go_at_call 15; refine (awake2 _).mono ?_; rintro e w3 ⟨rfl, hb3⟩)
    go_ret
    exact ⟨rfl, hb3⟩

set_option maxHeartbeats 4000000 in
theorem inside (a0 a1 a2 : Int) (h1 : 0 ≤ a1) (h2 : a1 ≤ 255) (h3 : 0 ≤ a2) (h4 : a2 ≤ 255) (hin1 : -1 ≤ a0) (hin2 : a0 ≤ 4611686018425290752) (w : World) :
    Calls Try.prog 6 #[.int .i64 a0, .int .u8 a1, .int .u8 a2] w fun e w' => e = .returned (.bool true) ∧ Below w.heap.size w w' := by
  obtain ⟨k, hk⟩ : ∃ k : Nat, a1 % 12 = k := ⟨(a1 % 12).toNat, by omega⟩
  have hk20 : k ≤ 20 := by omega
  have g1 := two_le hk20
  have g2 := two_pos k
  have W2 := Lib.hid (wrap_two k hk20)
  have m1 := Int.emod_nonneg a0 (show two k ≠ 0 by omega)
  have m2 := Int.emod_lt_of_pos a0 g2
  have m3 := Int.emod_nonneg a2 (show two k ≠ 0 by omega)
  have m4 := Int.emod_lt_of_pos a2 g2
  go_enter Try.func6, Try.ntmps6
  go_wp2_with (go_at_call 7; rw [wrap_two k hk20]; refine (of_yes k hk20 _).mono ?_; rintro e w1 ⟨rfl, hb1⟩)
  rw [wrap_two k hk20]
  have e1 : (a0 + two k) % two k = a0 % two k := Int.add_emod_right ..
  have e2 : (a0 + two k) / two k = a0 / two k + 1 := Int.add_ediv_of_dvd_right (Int.dvd_refl _) |>.trans (by rw [Int.ediv_self (by omega)])
  have q1 : -1 ≤ a0 / two k := Int.le_ediv_of_mul_le g2 (by omega)
  have q2 : a0 / two k ≤ 4611686018425290752 := by
    have h := Int.ediv_le_ediv g2 hin2
    have h' : (4611686018425290752 : Int) / two k ≤ 4611686018425290752 := Int.ediv_le_self _ (by omega)
    omega
  have q3 : a0 / two k * two k + a0 % two k = a0 := Int.ediv_mul_add_emod a0 (two k)
  have q4 : -9223372036854775808 ≤ a0 / two k * two k := by omega
  have q5 : a0 / two k * two k ≤ 9223372036854775807 := by omega
  go_quiet (fail)
  generalize a2 % two k = r at *
  have hs0 : ((w1.alloc (Obj.cells #[Value.int IntKind.u8 k] 23)).drewN nq).cell? ⟨w1.heap.size, 0, none⟩ = some (.int .u8 k) := by go_simp
  have hb0 : Below w.heap.size w ((w1.alloc (Obj.cells #[Value.int IntKind.u8 k] 23)).drewN nq) := by
    have h := balloc hb1 (Obj.cells #[Value.int IntKind.u8 k] 23)
    exact ⟨h.os, h.tape, h.output, h.size, h.block⟩
  generalize w1.heap.size = B at *
  generalize (w1.alloc (Obj.cells #[Value.int IntKind.u8 k] 23)).drewN nq = wd at *
  have s1 : IntKind.i64.wrap (a0 / two k + 1) = a0 / two k + 1 := IntWalk.i64_in _ (by omega)
  have s2 : IntKind.i64.wrap (a0 / two k * two k) = a0 / two k * two k := IntWalk.i64_in _ (by omega)
  have s3 : IntKind.i64.wrap a0 = a0 := IntWalk.i64_in _ (by omega)
  have s4 : IntKind.i64.wrap (a0 + r) = a0 + r := IntWalk.i64_in _ (by omega)
  by_cases hr : r = 0
  · subst hr
    go_wp2
    go_region_held3 (fun w' => w'.cell? ⟨B, 0, none⟩ = some (.int .u8 k) ∧ Below w.heap.size w w') (first
      | exact ⟨by assumption, by assumption⟩
      | exact ⟨by go_simp, Below.drew (by assumption)⟩
      | exact held (by assumption) (by assumption)) (first
      | (go_at_call 15; refine (awake2 _).mono ?_; rintro e w3 ⟨rfl, hb3⟩)
      | (go_at_call 11; refine (slots_b k hk20 _).mono ?_; rintro e w3 ⟨rfl, hb3⟩)
      | (go_at_call 18; refine (index_any k hk20 _ _).mono ?_; rintro e w3 ⟨rfl, hb3⟩)
      | (go_at_call 19; refine (round_any k hk20 _ _).mono ?_; rintro e w3 ⟨rfl, hb3⟩))
    go_wp2
    go_ret
    exact ⟨rfl, And.right (by assumption)⟩
  · have r1 : (r == 0) = false := by simpa using hr
    have r2 : ((a0 + r) % two k == a0 % two k) = false := by
      rw [beq_eq_false_iff_ne]
      intro h
      have h5 := Int.emod_eq_emod_iff_emod_sub_eq_zero.1 h
      rw [show a0 + r - a0 = r by omega, Int.emod_eq_of_lt m3 m4] at h5
      exact hr h5
    clear hr
    go_wp2
    go_region_held3 (fun w' => w'.cell? ⟨B, 0, none⟩ = some (.int .u8 k) ∧ Below w.heap.size w w') (first
      | exact ⟨by assumption, by assumption⟩
      | exact ⟨by go_simp, Below.drew (by assumption)⟩
      | exact held (by assumption) (by assumption)) (first
      | (go_at_call 15; refine (awake2 _).mono ?_; rintro e w3 ⟨rfl, hb3⟩)
      | (go_at_call 11; refine (slots_b k hk20 _).mono ?_; rintro e w3 ⟨rfl, hb3⟩)
      | (go_at_call 18; refine (index_any k hk20 _ _).mono ?_; rintro e w3 ⟨rfl, hb3⟩)
      | (go_at_call 19; refine (round_any k hk20 _ _).mono ?_; rintro e w3 ⟨rfl, hb3⟩))
    go_wp2
    go_ret
    exact ⟨rfl, And.right (by assumption)⟩

theorem walkOf (a0 a1 a2 : Int) (w0 : (Lit.int .i64 a0).wf = true) (w1 : (Lit.int .u8 a1).wf = true) (w2 : (Lit.int .u8 a2).wf = true) (w : World) :
    Calls Try.prog 6 #[.int .i64 a0, .int .u8 a1, .int .u8 a2] w fun e w' => e = .returned (.bool true) ∧ Below w.heap.size w w' := by
  by_cases h : a0 < -1 ∨ 4611686018425290752 < a0
  · exact outside a0 a1 a2 h w
  · exact inside a0 a1 a2 (u8_wf w1).1 (u8_wf w1).2 (u8_wf w2).1 (u8_wf w2).2 (by omega) (by omega) w

set_option maxRecDepth 100000 in
theorem lifted (os : Os) (started : os.Started) (H : Type) (enc : TypeId × Value → H) :
    ReturnsInHanded {} Try.checked os 6 .any (Rows.powTurnsSpec.pre6 enc Try.prog Try.f6 Rows.powTurnsRow.domain false) (Rows.powTurnsSpec.post enc Try.prog Try.f6 false true false false) := by
  refine returnsInHanded_of_change (C := Try.checked) own started (by kernel_rfl) Try.func6
    (ChangeSpec.witness6 (enc := enc) (C := Try.checked) false ⟨#[], #[.int .i64 0, .int .u8 0, .int .u8 0], []⟩ 8 (by kernel_rfl) (by kernel_rfl) (by kernel_rfl) (by kernel_rfl)) ?_
  intro W base args ds gs before hval0 hW hcnd _
  have hval : ∀ (j : Nat) t v, Try.f6.params[j]? = some t → args[j]? = some v → Value.okWide Try.prog W .any base t v := hval0
  have hW' := hW
  obtain ⟨p, q, hA0, hV, rfl, hfz, hnd⟩ := hW
  have hA : DataW.TrodAll enc Try.prog W 0 (fun _ => true) true Try.f6.params.toList args.toList ds p := hA0
  rw [Try.params6] at hA hval
  obtain ⟨v0, vs0, d0, ds0, p0, q0, hargs, rfl, rfl, h0, r0⟩ := trodAll_cons hA
  obtain ⟨v1, vs1, d1, ds1, p1, q1, rfl, rfl, rfl, h1, r1⟩ := trodAll_cons r0
  obtain ⟨v2, vs2, d2, ds2, p2, q2, rfl, rfl, rfl, h2, r2⟩ := trodAll_cons r1
  obtain ⟨rfl, rfl, rfl⟩ := trodAll_nil r2
  obtain rfl : args = #[v0, v1, v2] := by cases args; simp_all
  obtain ⟨rfl, rfl⟩ := trodVars_none hV
  obtain ⟨a0, rfl, rfl, rfl, w0⟩ := open_int Try.underlying2 (hval 0 2 v0 rfl rfl) h0
  obtain ⟨a1, rfl, rfl, rfl, w1⟩ := open_int Try.underlying5 (hval 1 5 v1 rfl rfl) h1
  obtain ⟨a2, rfl, rfl, rfl, w2⟩ := open_int Try.underlying5 (hval 2 5 v2 rfl rfl) h2
  clear hA0 hval0
  simp only [List.append_nil] at hW'
  refine (walkOf a0 a1 a2 w0 w1 w2 W).mono fun e W' ⟨he, hg⟩ => ?_
  subst he
  exact ⟨_, rfl, shut_below (pa := []) (pv := []) hg hW' rfl (fun _ _ _ => (trodAll_cons_mk (shut_bool Try.underlying4 _) trodAll_mk0)) (fun sp _ => (trodAll_cons_mk (shut_int Try.underlying2 w0) (trodAll_cons_mk (shut_int Try.underlying5 w1) (trodAll_cons_mk (shut_int Try.underlying5 w2) trodAll_mk0)))) (fun _ _ => rfl)⟩

theorem over : Rows.powTurnsRow.holds Try.pinned (OpenSpec.ofChange Rows.powTurnsSpec) :=
  OpenClaim.holds_of_wide 6 Try.f6 rfl rfl rfl rfl rfl rfl rfl ⟨rfl, rfl, rfl, rfl, rfl⟩ rfl rfl rfl rfl rfl (by kernel_rfl) Try.func6 (by kernel_rfl)
    (of_decide_eq_true (by kernel_rfl)) (by unfold Func.isWrapper; first | (rw [if_pos (by decide +kernel)]; kernel_rfl) | (rw [if_neg (by decide +kernel)]; exact ⟨rfl, rfl⟩))
    (fun os started H enc _ => lifted os started H enc)

theorem proved : Rows.PowTurnsSaid :=
  over
end Go.Proofs.Ytekligmejngkaaa.powTurns
