/-
  SlotsSpans: for every size, index, row of events and span the law returns true, and leaves its arguments as they were. No condition.
-/
import Derived.Test.YtnimmkgdgdhkfaaRows
import Derived.Test.YtnimmkgdgdhkfaaSpans
import Derived.Test.YtnimmkgdgdhkfaaOpsEv
import Derived.ProofKit
import Derived.OpenShut
namespace Go.Proofs.Ytnimmkgdgdhkfaa.slotsSpans
open Go.ChangeShapes Go.WideShapes Go.ChangeAt Go.RowKit
set_option linter.unusedVariables false

theorem own : ownKnob Try.prog.godebug = none := by kernel_rfl

set_option maxRecDepth 100000 in
theorem long (W : World) (sh lo a b' : Int) (p : Option Addr) (n cap : Nat) (hn : n ≤ maxLen) (hb : 100 < n) :
    Calls Try.prog 9 #[.int .u8 sh, .int .i64 lo, .slice p n cap, .int .i64 a, .int .i64 b'] W fun e w' => e = .returned (.bool true) ∧ Below W.heap.size W w' := by
  have hn9 : n ≤ 9223372036854775807 := by unfold maxLen at hn; omega
  have d1 : decide ((100 : Int) < (n : Int)) = true := decide_eq_true (by omega)
  clear hn
  go_enter Try.func9, Try.ntmps9
  go_wp2_with (go_at_call 38; refine (awake6 _).mono ?_; rintro e w3 ⟨rfl, hb3⟩)
  go_ret
  exact ⟨rfl, hb3⟩

set_option maxRecDepth 100000 in
set_option maxHeartbeats 2000000 in
theorem bad (W : World) (sh lo a b' : Int) (hsh : 0 ≤ sh) (k : Nat) (hs : sh % 7 = k) (hk : k < 7) (p : Option Addr) (n cap : Nat) (hn : n ≤ 100) (hlo : lo < 0 ∨ 4611686018427387904 < lo) :
    Calls Try.prog 9 #[.int .u8 sh, .int .i64 lo, .slice p n cap, .int .i64 a, .int .i64 b'] W fun e w' => e = .returned (.bool true) ∧ Below W.heap.size W w' := by
  have ht : sh.tmod 7 = (k : Int) := by rw [Int.tmod_eq_emod_of_nonneg hsh]; exact hs
  have wt := wrap_two k (by omega)
  have d100 : decide ((100 : Int) < (n : Int)) = false := decide_eq_false (by omega)
  have hk20 : k ≤ 20 := by omega
  obtain ⟨N, hN⟩ : ∃ N : Nat, (N : Int) = two k := ⟨(two k).toNat, by have := two_pos k; omega⟩
  have HN := Lib.hid hN
  have HLO := Lib.hid hlo
  clear hs hN hsh
  rcases hlo with hlo | hlo
  · go_enter Try.func9, Try.ntmps9
    go_upto_region 4 with fail
    rw [wt]
    clear wt ht
    go_wp2_with (first
      | (go_at_call 39; refine (rnew_ok k N hk20 HN.out _).mono ?_; rintro e w1 hn; obtain ⟨b, g, c, rfl, hm⟩ := hn.mine; have HM := Lib.hid hm; clear hm hn)
      | (go_at_call 45; refine (fill_bad lo _ _ b g c k _ HM.out.1 HLO.out).mono ?_; rintro e w2 ⟨E, rfl, hr⟩; have HR := Lib.hid hr; clear hr)
      | (go_at_call 38; refine (awake6 _).mono ?_; rintro e w6 ⟨rfl, hb6⟩; have hch := HR.out.hold hb6; have HB6 := Lib.hid (bthen HM.out.2.1 (bthen HR.out.below hb6)); clear hb6)
      | (go_at_call 16; refine (isN_chain 5 _ 1 5 (by assumption) (by decide)).mono ?_; rintro e y ⟨rfl, rfl⟩))
    go_ret
    exact ⟨rfl, HB6.out⟩
  · have hlo' : ¬ lo < 0 := by omega
    go_enter Try.func9, Try.ntmps9
    go_upto_region 4 with fail
    rw [wt]
    clear wt ht
    go_wp2_with (first
      | (go_at_call 39; refine (rnew_ok k N hk20 HN.out _).mono ?_; rintro e w1 hn; obtain ⟨b, g, c, rfl, hm⟩ := hn.mine; have HM := Lib.hid hm; clear hm hn)
      | (go_at_call 45; refine (fill_bad lo _ _ b g c k _ HM.out.1 HLO.out).mono ?_; rintro e w2 ⟨E, rfl, hr⟩; have HR := Lib.hid hr; clear hr)
      | (go_at_call 38; refine (awake6 _).mono ?_; rintro e w6 ⟨rfl, hb6⟩; have hch := HR.out.hold hb6; have HB6 := Lib.hid (bthen HM.out.2.1 (bthen HR.out.below hb6)); clear hb6)
      | (go_at_call 16; refine (isN_chain 5 _ 1 5 (by assumption) (by decide)).mono ?_; rintro e y ⟨rfl, rfl⟩))
    go_ret
    exact ⟨rfl, HB6.out⟩

set_option maxRecDepth 100000 in
set_option maxHeartbeats 2000000 in
theorem full (W : World) (sh lo a b' : Int) (hsh : 0 ≤ sh) (k : Nat) (hs : sh % 7 = k) (hk : k < 7) (p : Option Addr) (n cap : Nat) (hn : n ≤ 100) (h0 : 0 ≤ lo) (h1 : lo ≤ 4611686018427387904) (hm : 4611686018427387904 - lo < (n : Int)) :
    Calls Try.prog 9 #[.int .u8 sh, .int .i64 lo, .slice p n cap, .int .i64 a, .int .i64 b'] W fun e w' => e = .returned (.bool true) ∧ Below W.heap.size W w' := by
  have ht : sh.tmod 7 = (k : Int) := by rw [Int.tmod_eq_emod_of_nonneg hsh]; exact hs
  have wt := wrap_two k (by omega)
  have d100 : decide ((100 : Int) < (n : Int)) = false := decide_eq_false (by omega)
  have hk20 : k ≤ 20 := by omega
  obtain ⟨N, hN⟩ : ∃ N : Nat, (N : Int) = two k := ⟨(two k).toNat, by have := two_pos k; omega⟩
  have HN := Lib.hid hN
  clear hs hN hsh
  go_enter Try.func9, Try.ntmps9
  go_upto_region 4 with fail
  rw [wt]
  clear wt ht
  go_wp2_with (first
    | (go_at_call 39; refine (rnew_ok k N hk20 HN.out _).mono ?_; rintro e w1 hn; obtain ⟨b, g, c, rfl, hm⟩ := hn.mine; have HM := Lib.hid hm; clear hm hn)
    | (go_at_call 45; refine (fill_many lo _ _ _ _ b g c k _ HM.out.1 h0 h1 hm).mono ?_; rintro e w2 ⟨E, rfl, hr⟩; have HR := Lib.hid hr; clear hr)
    | (go_at_call 38; refine (awake6 _).mono ?_; rintro e w6 ⟨rfl, hb6⟩; have hch := HR.out.hold hb6; have HB6 := Lib.hid (bthen HM.out.2.1 (bthen HR.out.below hb6)); clear hb6)
    | (go_at_call 16; refine (isN_chain 15 _ 1 15 (by assumption) (by decide)).mono ?_; rintro e y ⟨rfl, rfl⟩))
  go_ret
  exact ⟨rfl, HB6.out⟩

theorem walkOf (sh : Int) (w0 : (Lit.int .u8 sh).wf = true) (lo : Int) (w1 : (Lit.int .i64 lo).wf = true) (v : Value) (n : Nat) (fld : Nat → Nat → Int) {W0 : World} (hO : OpsAt W0 v n 2 fld) (a : Int) (w3 : (Lit.int .i64 a).wf = true) (b' : Int) (w4 : (Lit.int .i64 b').wf = true) :
    Calls Try.prog 9 #[.int .u8 sh, .int .i64 lo, v, .int .i64 a, .int .i64 b'] W0 fun e w' => e = .returned (.bool true) ∧ Below W0.heap.size W0 w' := by
  have hsh := (u8_wf w0).1
  obtain ⟨k, hk⟩ : ∃ k : Nat, sh % 7 = k := ⟨(sh % 7).toNat, by omega⟩
  by_cases h : 100 < n
  · obtain ⟨p, cap, rfl, hm, _⟩ := hO
    exact long W0 sh lo a b' p n cap hm h
  · by_cases hlo : lo < 0 ∨ 4611686018427387904 < lo
    · obtain ⟨p, cap, rfl, hm, _⟩ := hO
      exact bad W0 sh lo a b' hsh k hk (by omega) p n cap (by omega) hlo
    · by_cases hm : 4611686018427387904 - lo < (n : Int)
      · obtain ⟨p, cap, rfl, _, _⟩ := hO
        exact full W0 sh lo a b' hsh k hk (by omega) p n cap (by omega) (by omega) (by omega) hm
      · exact spans_walk W0 sh lo a b' v n fld hO (by omega) k hsh hk (by omega) (by omega) (by omega) (by omega) (i64_wf w4)

set_option maxRecDepth 100000 in
theorem lifted (os : Os) (started : os.Started) (H : Type) (enc : TypeId × Value → H) :
    ReturnsInHanded {} Try.checked os 9 .any (Rows.slotsSpansSpec.pre6 enc Try.prog Try.f9 Rows.slotsSpansRow.domain false) (Rows.slotsSpansSpec.post enc Try.prog Try.f9 false true false false) := by
  refine returnsInHanded_of_change (C := Try.checked) own started (by kernel_rfl) Try.func9
    (ChangeSpec.witness6 (enc := enc) (C := Try.checked) false ⟨#[], #[.int .u8 0, .int .i64 0, .slice none 0 0, .int .i64 0, .int .i64 0], []⟩ 8 (by kernel_rfl) (by kernel_rfl) (by kernel_rfl) (by kernel_rfl)) ?_
  intro W base args ds gs before hval0 hW hcnd _
  have hval : ∀ (j : Nat) t v, Try.f9.params[j]? = some t → args[j]? = some v → Value.okWide Try.prog W .any base t v := hval0
  have hW' := hW
  have hlt : ∀ p ∈ before, p.block < W.heap.size := fun p hp => hW.lt p hp
  obtain ⟨p, q, hA0, hV, rfl, hfz, hnd⟩ := hW
  have hA : DataW.TrodAll enc Try.prog W 0 (fun _ => true) true Try.f9.params.toList args.toList ds p := hA0
  rw [Try.params9] at hA hval
  obtain ⟨v0, vs0, d0, ds0, p0, q0, hargs, rfl, rfl, h0, r0⟩ := trodAll_cons hA
  obtain ⟨v1, vs1, d1, ds1, p1, q1, rfl, rfl, rfl, h1, r1⟩ := trodAll_cons r0
  obtain ⟨v2, vs2, d2, ds2, p2, q2, rfl, rfl, rfl, h2, r2⟩ := trodAll_cons r1
  obtain ⟨v3, vs3, d3, ds3, p3, q3, rfl, rfl, rfl, h3, r3⟩ := trodAll_cons r2
  obtain ⟨v4, vs4, d4, ds4, p4, q4, rfl, rfl, rfl, h4, r4⟩ := trodAll_cons r3
  obtain ⟨rfl, rfl, rfl⟩ := trodAll_nil r4
  obtain rfl : args = #[v0, v1, v2, v3, v4] := by cases args; simp_all
  obtain ⟨rfl, rfl⟩ := trodVars_none hV
  have t0 := h0
  obtain ⟨a0, rfl, _, _, w0⟩ := open_int Try.underlying5 (hval 0 5 v0 rfl rfl) h0
  have t1 := h1
  obtain ⟨a1, rfl, _, _, w1⟩ := open_int Try.underlying2 (hval 1 2 v1 rfl rfl) h1
  have t2 := h2
  obtain ⟨n2, fld2, hO2⟩ : ∃ (n : Nat) (fld : Nat → Nat → Int), OpsAt W v2 n 2 fld := by
    obtain ⟨aa, len, cap, rfl⟩ := okWide_slice Try.underlying76 (hval 2 76 v2 rfl rfl)
    obtain ⟨fuel, hf⟩ := h2
    exact open_ops (by simpa [Value.cells] using hf)
  have t3 := h3
  obtain ⟨a3, rfl, _, _, w3⟩ := open_int Try.underlying2 (hval 3 2 v3 rfl rfl) h3
  have t4 := h4
  obtain ⟨a4, rfl, _, _, w4⟩ := open_int Try.underlying2 (hval 4 2 v4 rfl rfl) h4
  clear hA0 hval0
  refine (walkOf a0 w0 a1 w1 v2 n2 fld2 hO2 a3 w3 a4 w4 (W0 := W)).mono fun e W' ⟨he, hb⟩ => ?_
  subst he
  have lo : laidOutB Try.prog = true := by kernel_rfl
  have tsize : Try.prog.types.size = 174 := by kernel_rfl
  simp only [List.append_nil] at hW'
  refine ⟨_, rfl, shut_same hb hW' (fun _ _ _ => trodAll_cons_mk (shut_bool Try.underlying4 _) trodAll_mk0) ?_ rfl⟩
  have k0 := Below.trod lo (by kernel_rfl) (by rw [tsize]; decide) t0 hb (fun x hx => hlt x (by simp [hx]))
  have k1 := Below.trod lo (by kernel_rfl) (by rw [tsize]; decide) t1 hb (fun x hx => hlt x (by simp [hx]))
  have k2 := Below.trod lo (by kernel_rfl) (by rw [tsize]; decide) t2 hb (fun x hx => hlt x (by simp [hx]))
  have k3 := Below.trod lo (by kernel_rfl) (by rw [tsize]; decide) t3 hb (fun x hx => hlt x (by simp [hx]))
  have k4 := Below.trod lo (by kernel_rfl) (by rw [tsize]; decide) t4 hb (fun x hx => hlt x (by simp [hx]))
  have kk := (trodAll_cons_mk k0 (trodAll_cons_mk k1 (trodAll_cons_mk k2 (trodAll_cons_mk k3 (trodAll_cons_mk k4 trodAll_mk0)))))
  simp only [List.append_nil] at kk ⊢
  exact kk

theorem over : Rows.slotsSpansRow.holds Try.pinned (OpenSpec.ofChange Rows.slotsSpansSpec) :=
  OpenClaim.holds_of_wide 9 Try.f9 rfl rfl rfl rfl rfl rfl rfl ⟨rfl, rfl, rfl, rfl, rfl⟩ rfl rfl rfl rfl rfl (by kernel_rfl) Try.func9 (by kernel_rfl)
    (of_decide_eq_true (by kernel_rfl)) (by unfold Func.isWrapper; first | (rw [if_pos (by decide +kernel)]; kernel_rfl) | (rw [if_neg (by decide +kernel)]; exact ⟨rfl, rfl⟩))
    (fun os started H enc _ => lifted os started H enc)

theorem proved : Rows.SlotsSpansSaid :=
  over
end Go.Proofs.Ytnimmkgdgdhkfaa.slotsSpans
