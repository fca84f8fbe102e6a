/-
  AvailPlays: for every size, number of cells ahead, list of spans, row of indexes and span the law returns true, and leaves its arguments as they were. No condition.
-/
import Derived.Test.YtnimmkgdgdhkfaaRows
import Derived.Test.YtnimmkgdgdhkfaaAPlays
import Derived.Test.YtnimmkgdgdhkfaaOpsSp
import Derived.Test.YtnimmkgdgdhkfaaOpenTwo
import Derived.ProofKit
import Derived.OpenShut
namespace Go.Proofs.Ytnimmkgdgdhkfaa.availPlays
open Go.ChangeShapes Go.WideShapes Go.ChangeAt Go.RowKit
set_option linter.unusedVariables false

theorem own : ownKnob Try.prog.godebug = none := by kernel_rfl

set_option maxRecDepth 100000 in
theorem big (W : World) (sh ah : Int) (p pp : Option Addr) (n cap np capp : Nat) (x y : Int) (hn : n ≤ maxLen) (hnp : np ≤ maxLen) (hb : 30 < n ∨ 20 < np) :
    Calls Try.prog 11 #[.int .u8 sh, .int .u8 ah, .slice p n cap, .slice pp np capp, .agg #[.int .i64 x, .int .i64 y]] W fun e w' => e = .returned (.bool true) ∧ Below W.heap.size W w' := by
  have hn9 : n ≤ 9223372036854775807 := by unfold maxLen at hn; omega
  have hp9 : np ≤ 9223372036854775807 := by unfold maxLen at hnp; omega
  have hb0 : Below W.heap.size W (W.alloc (.cells #[.int .i64 x, .int .i64 y] 83)) := (Below.refl _ W).alloc (Nat.le_refl _) _
  have HB := Lib.hid hb0
  clear hn hnp hb0
  by_cases h1 : 30 < n
  · clear hb
    have d1 : decide ((30 : Int) < (n : Int)) = true := decide_eq_true (by omega)
    go_enter Try.func11, Try.ntmps11
    go_wp2_with (go_at_call 47; refine (awake7 _).mono ?_; rintro e w3 ⟨rfl, hb3⟩)
    go_ret
    exact ⟨rfl, bthen HB.out hb3⟩
  · have h2 : 20 < np := by omega
    clear hb
    have d1 : decide ((30 : Int) < (n : Int)) = false := decide_eq_false (by omega)
    have d2 : decide ((20 : Int) < (np : Int)) = true := decide_eq_true (by omega)
    go_enter Try.func11, Try.ntmps11
    go_wp2_with (go_at_call 47; refine (awake7 _).mono ?_; rintro e w3 ⟨rfl, hb3⟩)
    go_ret
    exact ⟨rfl, bthen HB.out hb3⟩

set_option maxRecDepth 100000 in
theorem walkOf (sh : Int) (w0 : (Lit.int .u8 sh).wf = true) (ah : Int) (w1 : (Lit.int .u8 ah).wf = true) (v : Value) (n : Nat) (fld : Nat → Nat → Int) {W0 : World} (hO : OpsAt W0 v n 2 fld) (vp : Value) (np : Nat) (z : Nat → Int) (hP : LongsAt W0 vp np z) (x y : Int) (wx : (Lit.int .i64 x).wf = true) (wy : (Lit.int .i64 y).wf = true) :
    Calls Try.prog 11 #[.int .u8 sh, .int .u8 ah, v, vp, .agg #[.int .i64 x, .int .i64 y]] W0 fun e w' => e = .returned (.bool true) ∧ Below W0.heap.size W0 w' := by
  have hsh := (u8_wf w0).1
  have hah := (u8_wf w1).1
  obtain ⟨k, hk⟩ : ∃ k : Nat, sh % 6 = k := ⟨(sh % 6).toNat, by omega⟩
  obtain ⟨f, hf⟩ : ∃ f : Nat, ah % 5 = f := ⟨(ah % 5).toNat, by omega⟩
  by_cases h : n ≤ 30 ∧ np ≤ 20
  · exact aplays_walk W0 sh ah hsh k hk (by omega) hah f hf (by omega) v vp n np fld z hO hP h.1 h.2 x y (i64_wf wy)
  · obtain ⟨p, cap, rfl, hm, _⟩ := hO
    obtain ⟨pp, capp, rfl, hm2, _⟩ := hP
    exact big W0 sh ah p pp n cap np capp x y hm hm2 (by omega)

set_option maxRecDepth 100000 in
theorem lifted (os : Os) (started : os.Started) (H : Type) (enc : TypeId × Value → H) :
    ReturnsInHanded {} Try.checked os 11 .any (Rows.availPlaysSpec.pre6 enc Try.prog Try.f11 Rows.availPlaysRow.domain false) (Rows.availPlaysSpec.post enc Try.prog Try.f11 false true false false) := by
  refine returnsInHanded_of_change (C := Try.checked) own started (by kernel_rfl) Try.func11
    (ChangeSpec.witness6 (enc := enc) (C := Try.checked) false ⟨#[], #[.int .u8 0, .int .u8 0, .slice none 0 0, .slice none 0 0, .agg #[.int .i64 0, .int .i64 0]], []⟩ 8 (by kernel_rfl) (by kernel_rfl) (by kernel_rfl) (by kernel_rfl)) ?_
  intro W base args ds gs before hval0 hW hcnd _
  have hval : ∀ (j : Nat) t v, Try.f11.params[j]? = some t → args[j]? = some v → Value.okWide Try.prog W .any base t v := hval0
  have hW' := hW
  have hlt : ∀ p ∈ before, p.block < W.heap.size := fun p hp => hW.lt p hp
  obtain ⟨p, q, hA0, hV, rfl, hfz, hnd⟩ := hW
  have hA : DataW.TrodAll enc Try.prog W 0 (fun _ => true) true Try.f11.params.toList args.toList ds p := hA0
  rw [Try.params11] at hA hval
  obtain ⟨v0, vs0, d0, ds0, p0, q0, hargs, rfl, rfl, h0, r0⟩ := trodAll_cons hA
  obtain ⟨v1, vs1, d1, ds1, p1, q1, rfl, rfl, rfl, h1, r1⟩ := trodAll_cons r0
  obtain ⟨v2, vs2, d2, ds2, p2, q2, rfl, rfl, rfl, h2, r2⟩ := trodAll_cons r1
  obtain ⟨v3, vs3, d3, ds3, p3, q3, rfl, rfl, rfl, h3, r3⟩ := trodAll_cons r2
  obtain ⟨v4, vs4, d4, ds4, p4, q4, rfl, rfl, rfl, h4, r4⟩ := trodAll_cons r3
  obtain ⟨rfl, rfl, rfl⟩ := trodAll_nil r4
  obtain rfl : args = #[v0, v1, v2, v3, v4] := by cases args; simp_all
  obtain ⟨rfl, rfl⟩ := trodVars_none hV
  have t0 := h0
  obtain ⟨a0, rfl, _, _, w0⟩ := open_int Try.underlying5 (hval 0 5 v0 rfl rfl) h0
  have t1 := h1
  obtain ⟨a1, rfl, _, _, w1⟩ := open_int Try.underlying5 (hval 1 5 v1 rfl rfl) h1
  have t2 := h2
  obtain ⟨n2, fld2, hO2⟩ : ∃ (n : Nat) (fld : Nat → Nat → Int), OpsAt W v2 n 2 fld := by
    obtain ⟨aa, len, cap, rfl⟩ := okWide_slice Try.underlying81 (hval 2 81 v2 rfl rfl)
    obtain ⟨fuel, hf⟩ := h2
    exact open_spans (by simpa [Value.cells] using hf)
  have t3 := h3
  obtain ⟨n3, z3, hO3⟩ : ∃ n z, LongsAt W v3 n z := by
    obtain ⟨aa, len, cap, rfl⟩ := okWide_slice Try.underlying46 (hval 3 46 v3 rfl rfl)
    obtain ⟨fuel, hf⟩ := h3
    exact open_longs (by simpa [Value.cells] using hf)
  have t4 := h4
  obtain ⟨x4, y4, rfl, wx4, wy4⟩ := open_pair Try.underlying83 (by kernel_rfl) (by kernel_rfl) Try.underlying2 Try.underlying2 (hval 4 83 v4 rfl rfl) h4
  clear hA0 hval0
  refine (walkOf a0 w0 a1 w1 v2 n2 fld2 hO2 v3 n3 z3 hO3 x4 y4 wx4 wy4 (W0 := W)).mono fun e W' ⟨he, hb⟩ => ?_
  subst he
  have lo : laidOutB Try.prog = true := by kernel_rfl
  have tsize : Try.prog.types.size = 174 := by kernel_rfl
  simp only [List.append_nil] at hW'
  refine ⟨_, rfl, shut_same hb hW' (fun _ _ _ => trodAll_cons_mk (shut_bool Try.underlying4 _) trodAll_mk0) ?_ rfl⟩
  have k0 := Below.trod lo (by kernel_rfl) (by rw [tsize]; decide) t0 hb (fun x hx => hlt x (by simp [hx]))
  have k1 := Below.trod lo (by kernel_rfl) (by rw [tsize]; decide) t1 hb (fun x hx => hlt x (by simp [hx]))
  have k2 := Below.trod lo (by kernel_rfl) (by rw [tsize]; decide) t2 hb (fun x hx => hlt x (by simp [hx]))
  have k3 := Below.trod lo (by kernel_rfl) (by rw [tsize]; decide) t3 hb (fun x hx => hlt x (by simp [hx]))
  have k4 := Below.trod lo (by kernel_rfl) (by rw [tsize]; decide) t4 hb (fun x hx => hlt x (by simp [hx]))
  have kk := (trodAll_cons_mk k0 (trodAll_cons_mk k1 (trodAll_cons_mk k2 (trodAll_cons_mk k3 (trodAll_cons_mk k4 trodAll_mk0)))))
  simp only [List.append_nil] at kk ⊢
  exact kk

theorem over : Rows.availPlaysRow.holds Try.pinned (OpenSpec.ofChange Rows.availPlaysSpec) :=
  OpenClaim.holds_of_wide 11 Try.f11 rfl rfl rfl rfl rfl rfl rfl ⟨rfl, rfl, rfl, rfl, rfl⟩ rfl rfl rfl rfl rfl (by kernel_rfl) Try.func11 (by kernel_rfl)
    (of_decide_eq_true (by kernel_rfl)) (by unfold Func.isWrapper; first | (rw [if_pos (by decide +kernel)]; kernel_rfl) | (rw [if_neg (by decide +kernel)]; exact ⟨rfl, rfl⟩))
    (fun os started H enc _ => lifted os started H enc)

theorem proved : Rows.AvailPlaysSaid :=
  over
end Go.Proofs.Ytnimmkgdgdhkfaa.availPlays
