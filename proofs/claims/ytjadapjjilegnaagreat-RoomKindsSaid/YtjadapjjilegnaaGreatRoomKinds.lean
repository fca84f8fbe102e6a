/-
  RoomKinds: for every shift and row of sizes the law returns true, and leaves its arguments as they were. No condition.
-/
import Derived.Test.YtjadapjjilegnaaGreatRows
import Derived.Test.YtjadapjjilegnaaGreatKw
import Derived.Test.YtjadapjjilegnaaGreatNums
import Derived.Test.YtjadapjjilegnaaGreatShut
import Derived.ProofKit
import Derived.OpenShut
namespace Go.Proofs.YtjadapjjilegnaaGreat.roomKinds
open Go.ChangeShapes Go.WideShapes Go.ChangeAt Go.RowKit
set_option linter.unusedVariables false

theorem own : ownKnob Tryz.prog.godebug = none := by kernel_rfl

set_option maxRecDepth 100000 in
theorem big (W : World) (sh : Int) (p : Option Addr) (n cap : Nat) (hn : n ≤ maxLen) (hb : 60 < n) :
    Calls Tryz.prog 5 #[.int .u8 sh, .slice p n cap] W fun e w' => e = .returned (.bool true) ∧ Below W.heap.size W w' := by
  have hn9 : n ≤ 9223372036854775807 := by unfold maxLen at hn; omega
  have d60 : decide ((60 : Int) < (n : Int)) = true := decide_eq_true (by omega)
  clear hn
  go_enter Tryz.func5, Tryz.ntmps5
  go_wp2_with (go_at_call 9; refine (awake14 _).mono ?_; rintro e w3 ⟨rfl, hb3⟩)
  go_ret
  exact ⟨rfl, hb3⟩

theorem walkOf (sh : Int) (w0 : (Lit.int .u8 sh).wf = true) (v : Value) (n : Nat) (z : Nat → Int) {W0 : World} (hO : NumsAt W0 v n z) :
    Calls Tryz.prog 5 #[.int .u8 sh, v] W0 fun e w' => e = .returned (.bool true) ∧ Below W0.heap.size W0 w' := by
  obtain ⟨p, cap, rfl, hm, hc⟩ := hO
  have h0 := (u8_wf w0).1
  have hk : sh % 6 = ((sh % 6).toNat : Int) := by have := Int.emod_nonneg sh (show (6 : Int) ≠ 0 by decide); omega
  by_cases h : 60 < n
  · exact big W0 sh p n cap hm h
  · exact kinds_walk W0 sh h0 (sh % 6).toNat hk (by omega) n cap p z (by omega) hc

set_option maxRecDepth 100000 in
theorem lifted (os : Os) (started : os.Started) (H : Type) (enc : TypeId × Value → H) :
    ReturnsInHanded {} Tryz.checked os 5 .any (Rows.roomKindsSpec.pre6 enc Tryz.prog Tryz.f5 Rows.roomKindsRow.domain false) (Rows.roomKindsSpec.post enc Tryz.prog Tryz.f5 false true false false) := by
  refine returnsInHanded_of_change (C := Tryz.checked) own started (by kernel_rfl) Tryz.func5
    (ChangeSpec.witness6 (enc := enc) (C := Tryz.checked) false ⟨#[], #[.int .u8 0, .slice none 0 0], []⟩ 8 (by kernel_rfl) (by kernel_rfl) (by kernel_rfl) (by kernel_rfl)) ?_
  intro W base args ds gs before hval0 hW hcnd _
  have hval : ∀ (j : Nat) t v, Tryz.f5.params[j]? = some t → args[j]? = some v → Value.okWide Tryz.prog W .any base t v := hval0
  have hW' := hW
  have hlt : ∀ p ∈ before, p.block < W.heap.size := fun p hp => hW.lt p hp
  obtain ⟨p, q, hA0, hV, rfl, hfz, hnd⟩ := hW
  have hA : DataW.TrodAll enc Tryz.prog W 0 (fun _ => true) true Tryz.f5.params.toList args.toList ds p := hA0
  rw [Tryz.params5] at hA hval
  obtain ⟨v0, vs0, d0, ds0, p0, q0, hargs, rfl, rfl, h0, r0⟩ := trodAll_cons hA
  obtain ⟨v1, vs1, d1, ds1, p1, q1, rfl, rfl, rfl, h1, r1⟩ := trodAll_cons r0
  obtain ⟨rfl, rfl, rfl⟩ := trodAll_nil r1
  obtain rfl : args = #[v0, v1] := by cases args; simp_all
  obtain ⟨rfl, rfl⟩ := trodVars_none hV
  have t0 := h0
  obtain ⟨a0, rfl, _, _, w0⟩ := open_int Tryz.underlying5 (hval 0 5 v0 rfl rfl) h0
  have t1 := h1
  obtain ⟨n1, z1, hO1⟩ : ∃ n z, NumsAt W v1 n z := by
    obtain ⟨aa, len, cap, rfl⟩ := okWide_slice Tryz.underlying33 (hval 1 33 v1 rfl rfl)
    obtain ⟨fuel, hf⟩ := h1
    exact open_nums (by simpa [Value.cells] using hf)
  clear hA0 hval0
  refine (walkOf a0 w0 v1 n1 z1 hO1 (W0 := W)).mono fun e W' ⟨he, hb⟩ => ?_
  subst he
  have lo : laidOutB Tryz.prog = true := by kernel_rfl
  have tsize : Tryz.prog.types.size = 312 := by kernel_rfl
  simp only [List.append_nil] at hW'
  refine ⟨_, rfl, shut_same hb hW' (fun _ _ _ => trodAll_cons_mk (shut_bool Tryz.underlying4 _) trodAll_mk0) ?_ rfl⟩
  have k0 := Below.trod lo (by kernel_rfl) (by rw [tsize]; decide) t0 hb (fun x hx => hlt x (by simp [hx]))
  have k1 := Below.trod lo (by kernel_rfl) (by rw [tsize]; decide) t1 hb (fun x hx => hlt x (by simp [hx]))
  have kk := (trodAll_cons_mk k0 (trodAll_cons_mk k1 trodAll_mk0))
  simp only [List.append_nil] at kk ⊢
  exact kk

theorem over : Rows.roomKindsRow.holds Tryz.pinned (OpenSpec.ofChange Rows.roomKindsSpec) :=
  OpenClaim.holds_of_wide 5 Tryz.f5 rfl rfl rfl rfl rfl rfl rfl ⟨rfl, rfl, rfl, rfl, rfl⟩ rfl rfl rfl rfl rfl (by kernel_rfl) Tryz.func5 (by kernel_rfl)
    (of_decide_eq_true (by kernel_rfl)) (by unfold Func.isWrapper; first | (rw [if_pos (by decide +kernel)]; kernel_rfl) | (rw [if_neg (by decide +kernel)]; exact ⟨rfl, rfl⟩))
    (fun os started H enc _ => lifted os started H enc)

theorem proved : Rows.RoomKindsSaid :=
  over
end Go.Proofs.YtjadapjjilegnaaGreat.roomKinds
