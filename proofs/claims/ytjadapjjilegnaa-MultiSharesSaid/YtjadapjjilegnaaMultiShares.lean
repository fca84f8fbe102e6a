/-
  MultiShares: for every size and list of acts the law returns true, and leaves its arguments as they were. No condition.
-/
import Derived.Test.YtjadapjjilegnaaRows
import Derived.Test.YtjadapjjilegnaaHw
import Derived.Test.YtjadapjjilegnaaShut
import Derived.ProofKit
import Derived.OpenShut
namespace Go.Proofs.Ytjadapjjilegnaa.multiShares
open Go.ChangeShapes Go.WideShapes Go.ChangeAt Go.RowKit
set_option linter.unusedVariables false

theorem own : ownKnob Try.prog.godebug = none := by kernel_rfl

set_option maxRecDepth 100000 in
theorem big (W : World) (sh : Int) (p : Option Addr) (n cap : Nat) (hn : n ≤ maxLen) (hb : 120 < n) :
    Calls Try.prog 14 #[.int .u8 sh, .slice p n cap] W fun e w' => e = .returned (.bool true) ∧ Below W.heap.size W w' := by
  have hn9 : n ≤ 9223372036854775807 := by unfold maxLen at hn; omega
  clear hn
  have d1 : decide ((120 : Int) < (n : Int)) = true := decide_eq_true (by omega)
  go_enter Try.func14, Try.ntmps14
  go_wp2_with (go_at_call 70; refine (awake10 _).mono ?_; rintro e w3 ⟨rfl, hb3⟩)
  go_ret
  exact ⟨rfl, hb3⟩

set_option maxRecDepth 100000 in
theorem walkOf (sh : Int) (w0 : (Lit.int .u8 sh).wf = true) (v : Value) (n : Nat) (fld : Nat → Nat → Int) {W0 : World} (hO : OpsAt W0 v n 3 fld) :
    Calls Try.prog 14 #[.int .u8 sh, v] W0 fun e w' => e = .returned (.bool true) ∧ Below W0.heap.size W0 w' := by
  have hsh := (u8_wf w0).1
  obtain ⟨k, hk⟩ : ∃ k : Nat, sh % 7 = k := ⟨(sh % 7).toNat, by omega⟩
  by_cases h : n ≤ 120
  · exact mshares_walk W0 sh hsh k hk (by omega) v n fld hO h
  · obtain ⟨p, cap, rfl, hm, _⟩ := hO
    exact big W0 sh p n cap hm (by omega)

set_option maxRecDepth 100000 in
theorem lifted (os : Os) (started : os.Started) (H : Type) (enc : TypeId × Value → H) :
    ReturnsInHanded {} Try.checked os 14 .any (Rows.multiSharesSpec.pre6 enc Try.prog Try.f14 Rows.multiSharesRow.domain false) (Rows.multiSharesSpec.post enc Try.prog Try.f14 false true false false) := by
  refine returnsInHanded_of_change (C := Try.checked) own started (by kernel_rfl) Try.func14
    (ChangeSpec.witness6 (enc := enc) (C := Try.checked) false ⟨#[], #[.int .u8 0, .slice none 0 0], []⟩ 8 (by kernel_rfl) (by kernel_rfl) (by kernel_rfl) (by kernel_rfl)) ?_
  intro W base args ds gs before hval0 hW hcnd _
  have hval : ∀ (j : Nat) t v, Try.f14.params[j]? = some t → args[j]? = some v → Value.okWide Try.prog W .any base t v := hval0
  have hW' := hW
  have hlt : ∀ p ∈ before, p.block < W.heap.size := fun p hp => hW.lt p hp
  obtain ⟨p, q, hA0, hV, rfl, hfz, hnd⟩ := hW
  have hA : DataW.TrodAll enc Try.prog W 0 (fun _ => true) true Try.f14.params.toList args.toList ds p := hA0
  rw [Try.params14] at hA hval
  obtain ⟨v0, vs0, d0, ds0, p0, q0, hargs, rfl, rfl, h0, r0⟩ := trodAll_cons hA
  obtain ⟨v1, vs1, d1, ds1, p1, q1, rfl, rfl, rfl, h1, r1⟩ := trodAll_cons r0
  obtain ⟨rfl, rfl, rfl⟩ := trodAll_nil r1
  obtain rfl : args = #[v0, v1] := by cases args; simp_all
  obtain ⟨rfl, rfl⟩ := trodVars_none hV
  have t0 := h0
  obtain ⟨a0, rfl, _, _, w0⟩ := open_int Try.underlying5 (hval 0 5 v0 rfl rfl) h0
  have t1 := h1
  obtain ⟨n1, fld1, hO1⟩ : ∃ (n : Nat) (fld : Nat → Nat → Int), OpsAt W v1 n 3 fld := by
    obtain ⟨aa, len, cap, rfl⟩ := okWide_slice Try.underlying158 (hval 1 158 v1 rfl rfl)
    obtain ⟨fuel, hf⟩ := h1
    exact open_ops (by simpa [Value.cells] using hf)
  clear hA0 hval0
  refine (walkOf a0 w0 v1 n1 fld1 hO1 (W0 := W)).mono fun e W' ⟨he, hb⟩ => ?_
  subst he
  have lo : laidOutB Try.prog = true := by kernel_rfl
  have tsize : Try.prog.types.size = 316 := by kernel_rfl
  simp only [List.append_nil] at hW'
  refine ⟨_, rfl, shut_same hb hW' (fun _ _ _ => trodAll_cons_mk (shut_bool Try.underlying4 _) trodAll_mk0) ?_ rfl⟩
  have k0 := Below.trod lo (by kernel_rfl) (by rw [tsize]; decide) t0 hb (fun x hx => hlt x (by simp [hx]))
  have k1 := Below.trod lo (by kernel_rfl) (by rw [tsize]; decide) t1 hb (fun x hx => hlt x (by simp [hx]))
  have kk := (trodAll_cons_mk k0 (trodAll_cons_mk k1 trodAll_mk0))
  simp only [List.append_nil] at kk ⊢
  exact kk

theorem over : Rows.multiSharesRow.holds Try.pinned (OpenSpec.ofChange Rows.multiSharesSpec) :=
  OpenClaim.holds_of_wide 14 Try.f14 rfl rfl rfl rfl rfl rfl rfl ⟨rfl, rfl, rfl, rfl, rfl⟩ rfl rfl rfl rfl rfl (by kernel_rfl) Try.func14 (by kernel_rfl)
    (of_decide_eq_true (by kernel_rfl)) (by unfold Func.isWrapper; first | (rw [if_pos (by decide +kernel)]; kernel_rfl) | (rw [if_neg (by decide +kernel)]; exact ⟨rfl, rfl⟩))
    (fun os started H enc _ => lifted os started H enc)

theorem proved : Rows.MultiSharesSaid :=
  over
end Go.Proofs.Ytjadapjjilegnaa.multiShares
