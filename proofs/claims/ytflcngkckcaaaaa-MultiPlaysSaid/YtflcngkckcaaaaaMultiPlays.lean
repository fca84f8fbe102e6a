/-
  MultiPlays: for every size, list of ops and index the law returns true, and leaves its arguments as they were. No condition.
-/
import Derived.Test.YtflcngkckcaaaaaRows
import Derived.Test.YtflcngkckcaaaaaMP
import Derived.Test.YtflcngkckcaaaaaOpsM
import Derived.ProofKit
import Derived.OpenShut
namespace Go.Proofs.Ytflcngkckcaaaaa.multiPlays
open Go.ChangeShapes Go.WideShapes Go.ChangeAt Go.RowKit
set_option linter.unusedVariables false

theorem own : ownKnob Try.prog.godebug = none := by kernel_rfl

set_option maxRecDepth 100000 in
theorem big (W : World) (sh lo : Int) (p : Option Addr) (n cap : Nat) (hn : n ≤ maxLen) (hb : 80 < n ∨ 1099511627776 < lo) :
    Calls Try.prog 8 #[.int .u8 sh, .slice p n cap, .int .i64 lo] W fun e w' => e = .returned (.bool true) ∧ Below W.heap.size W w' := by
  have hn9 : n ≤ 9223372036854775807 := by unfold maxLen at hn; omega
  clear hn
  by_cases h1 : 80 < n
  · clear hb
    have d1 : decide ((80 : Int) < (n : Int)) = true := decide_eq_true (by omega)
    go_enter Try.func8, Try.ntmps8
    go_wp2_with (go_at_call 53; refine (awake10 _).mono ?_; rintro e w3 ⟨rfl, hb3⟩)
    go_ret
    exact ⟨rfl, hb3⟩
  · have h2 : 1099511627776 < lo := by omega
    clear hb
    have d1 : decide ((80 : Int) < (n : Int)) = false := decide_eq_false (by omega)
    have d2 : decide ((1099511627776 : Int) < lo) = true := decide_eq_true (by omega)
    go_enter Try.func8, Try.ntmps8
    go_wp2_with (go_at_call 53; refine (awake10 _).mono ?_; rintro e w3 ⟨rfl, hb3⟩)
    go_ret
    exact ⟨rfl, hb3⟩

set_option maxRecDepth 100000 in
theorem walkOf (sh : Int) (w0 : (Lit.int .u8 sh).wf = true) (v : Value) (n : Nat) (fld : Nat → Nat → Int) {W0 : World} (hO : OpsAt W0 v n 4 fld) (lo : Int) (w1 : (Lit.int .i64 lo).wf = true) :
    Calls Try.prog 8 #[.int .u8 sh, v, .int .i64 lo] W0 fun e w' => e = .returned (.bool true) ∧ Below W0.heap.size W0 w' := by
  have hsh := (u8_wf w0).1
  obtain ⟨k, hk⟩ : ∃ k : Nat, sh % 7 = k := ⟨(sh % 7).toNat, by omega⟩
  by_cases h : n ≤ 80 ∧ lo ≤ 1099511627776
  · exact mplays_walk W0 sh hsh k hk (by omega) v n fld hO h.1 lo h.2 (i64_wf w1).1
  · obtain ⟨p, cap, rfl, hm, _⟩ := hO
    exact big W0 sh lo p n cap hm (by omega)

set_option maxRecDepth 100000 in
theorem lifted (os : Os) (started : os.Started) (H : Type) (enc : TypeId × Value → H) :
    ReturnsInHanded {} Try.checked os 8 .any (Rows.multiPlaysSpec.pre6 enc Try.prog Try.f8 Rows.multiPlaysRow.domain false) (Rows.multiPlaysSpec.post enc Try.prog Try.f8 false true false false) := by
  refine returnsInHanded_of_change (C := Try.checked) own started (by kernel_rfl) Try.func8
    (ChangeSpec.witness6 (enc := enc) (C := Try.checked) false ⟨#[], #[.int .u8 0, .slice none 0 0, .int .i64 0], []⟩ 8 (by kernel_rfl) (by kernel_rfl) (by kernel_rfl) (by kernel_rfl)) ?_
  intro W base args ds gs before hval0 hW hcnd _
  have hval : ∀ (j : Nat) t v, Try.f8.params[j]? = some t → args[j]? = some v → Value.okWide Try.prog W .any base t v := hval0
  have hW' := hW
  have hlt : ∀ p ∈ before, p.block < W.heap.size := fun p hp => hW.lt p hp
  obtain ⟨p, q, hA0, hV, rfl, hfz, hnd⟩ := hW
  have hA : DataW.TrodAll enc Try.prog W 0 (fun _ => true) true Try.f8.params.toList args.toList ds p := hA0
  rw [Try.params8] at hA hval
  obtain ⟨v0, vs0, d0, ds0, p0, q0, hargs, rfl, rfl, h0, r0⟩ := trodAll_cons hA
  obtain ⟨v1, vs1, d1, ds1, p1, q1, rfl, rfl, rfl, h1, r1⟩ := trodAll_cons r0
  obtain ⟨v2, vs2, d2, ds2, p2, q2, rfl, rfl, rfl, h2, r2⟩ := trodAll_cons r1
  obtain ⟨rfl, rfl, rfl⟩ := trodAll_nil r2
  obtain rfl : args = #[v0, v1, v2] := by cases args; simp_all
  obtain ⟨rfl, rfl⟩ := trodVars_none hV
  have t0 := h0
  obtain ⟨a0, rfl, _, _, w0⟩ := open_int Try.underlying5 (hval 0 5 v0 rfl rfl) h0
  have t1 := h1
  obtain ⟨n1, fld1, hO1⟩ : ∃ (n : Nat) (fld : Nat → Nat → Int), OpsAt W v1 n 4 fld := by
    obtain ⟨aa, len, cap, rfl⟩ := okWide_slice Try.underlying82 (hval 1 82 v1 rfl rfl)
    obtain ⟨fuel, hf⟩ := h1
    exact open_ops (by simpa [Value.cells] using hf)
  have t2 := h2
  obtain ⟨a2, rfl, _, _, w2⟩ := open_int Try.underlying2 (hval 2 2 v2 rfl rfl) h2
  clear hA0 hval0
  refine (walkOf a0 w0 v1 n1 fld1 hO1 a2 w2 (W0 := W)).mono fun e W' ⟨he, hb⟩ => ?_
  subst he
  have lo : laidOutB Try.prog = true := by kernel_rfl
  have tsize : Try.prog.types.size = 235 := by kernel_rfl
  simp only [List.append_nil] at hW'
  refine ⟨_, rfl, shut_same hb hW' (fun _ _ _ => trodAll_cons_mk (shut_bool Try.underlying4 _) trodAll_mk0) ?_ rfl⟩
  have k0 := Below.trod lo (by kernel_rfl) (by rw [tsize]; decide) t0 hb (fun x hx => hlt x (by simp [hx]))
  have k1 := Below.trod lo (by kernel_rfl) (by rw [tsize]; decide) t1 hb (fun x hx => hlt x (by simp [hx]))
  have k2 := Below.trod lo (by kernel_rfl) (by rw [tsize]; decide) t2 hb (fun x hx => hlt x (by simp [hx]))
  have kk := (trodAll_cons_mk k0 (trodAll_cons_mk k1 (trodAll_cons_mk k2 trodAll_mk0)))
  simp only [List.append_nil] at kk ⊢
  exact kk

theorem over : Rows.multiPlaysRow.holds Try.pinned (OpenSpec.ofChange Rows.multiPlaysSpec) :=
  OpenClaim.holds_of_wide 8 Try.f8 rfl rfl rfl rfl rfl rfl rfl ⟨rfl, rfl, rfl, rfl, rfl⟩ rfl rfl rfl rfl rfl (by kernel_rfl) Try.func8 (by kernel_rfl)
    (of_decide_eq_true (by kernel_rfl)) (by unfold Func.isWrapper; first | (rw [if_pos (by decide +kernel)]; kernel_rfl) | (rw [if_neg (by decide +kernel)]; exact ⟨rfl, rfl⟩))
    (fun os started H enc _ => lifted os started H enc)

theorem proved : Rows.MultiPlaysSaid :=
  over
end Go.Proofs.Ytflcngkckcaaaaa.multiPlays
