/-
  BarrierRises: for every plan of a barrier, index and row of bytes the law returns true, and leaves its arguments as they were. No condition.
-/
import Derived.Test.YtejkjpmigajidaaRows
import Derived.Test.YtejkjpmigajidaaBs2
import Derived.ProofKit
import Derived.OpenShut
namespace Go.Proofs.Ytejkjpmigajidaa.barrierRises
open Go.ChangeShapes Go.WideShapes Go.ChangeAt Go.RowKit
set_option linter.unusedVariables false

theorem own : ownKnob Try.prog.godebug = none := by kernel_rfl

set_option maxRecDepth 100000 in
theorem walkOf {W0 : World} (cu : Int) (va : Value) (n : Nat) (z : Nat → Int) (bf : Bool) (vs : Value) (m : Nat) (y : Nat → Int) (al sf : Int) (wc : (Lit.int .i64 cu).wf = true) (la : LongsAt W0 va n z) (lb : ByteRow W0 vs m y) (wl : (Lit.int .i64 al).wf = true) (ws : (Lit.int .u8 sf).wf = true) (next : Int) (wn : (Lit.int .i64 next).wf = true) (vm : Value) (nm : Nat) (u : Nat → Int) (lm : ByteRow W0 vm nm u) :
    Calls Try.prog 13 #[.agg #[.int .i64 cu, va, .bool bf, vs, .int .i64 al, .int .u8 sf], .int .i64 next, vm] W0 fun e w' => e = .returned (.bool true) ∧ Below W0.heap.size W0 w' := by
  obtain ⟨pa, ca, rfl, _⟩ := id la
  obtain ⟨ps, cb, rfl, _⟩ := id lb
  obtain ⟨pm, cm, rfl, _⟩ := id lm
  have hsf := (u8_wf ws).1
  by_cases hg : PlanOk cu al n m z
  · by_cases h0 : next < 0
    · exact rises_far0 la lb hg hsf h0
    by_cases h1 : 1000 < next
    · exact rises_far1 la lb hg hsf h0 h1
    by_cases h2 : bf = true
    · exact rises_far2 la lb hg hsf h0 h1 h2
    by_cases h3 : al ≠ 0
    · exact rises_far3 la lb hg hsf h0 h1 h2 h3
    by_cases h4 : 30 < nm
    · exact rises_far4 la lb hg hsf h0 h1 h2 h3 h4
    obtain rfl : al = 0 := Decidable.not_not.1 h3
    obtain rfl : bf = false := by cases bf <;> simp_all
    by_cases h5 : nm = 0
    · subst h5
      exact rises_none la lb hg hsf ⟨by omega, by omega⟩
    · exact rises_some la lb hg hsf ⟨by omega, by omega⟩ lm (by omega) (by omega)
  · exact rises_bad la lb hg

set_option maxRecDepth 100000 in
theorem lifted (os : Os) (started : os.Started) (H : Type) (enc : TypeId × Value → H) :
    ReturnsInHanded {} Try.checked os 13 .any (Rows.barrierRisesSpec.pre6 enc Try.prog Try.f13 Rows.barrierRisesRow.domain false) (Rows.barrierRisesSpec.post enc Try.prog Try.f13 false true false false) := by
  refine returnsInHanded_of_change (C := Try.checked) own started (by kernel_rfl) Try.func13
    (ChangeSpec.witness6 (enc := enc) (C := Try.checked) false ⟨#[], #[.agg #[.int .i64 0, .slice none 0 0, .bool false, .slice none 0 0, .int .i64 0, .int .u8 0], .int .i64 0, .slice none 0 0], []⟩ 8 (by kernel_rfl) (by kernel_rfl) (by kernel_rfl) (by kernel_rfl)) ?_
  intro W base args ds gs before hval0 hW hcnd _
  have hval : ∀ (j : Nat) t v, Try.f13.params[j]? = some t → args[j]? = some v → Value.okWide Try.prog W .any base t v := hval0
  have hW' := hW
  have hlt : ∀ p ∈ before, p.block < W.heap.size := fun p hp => hW.lt p hp
  obtain ⟨p, q, hA0, hV, rfl, hfz, hnd⟩ := hW
  have hA : DataW.TrodAll enc Try.prog W 0 (fun _ => true) true Try.f13.params.toList args.toList ds p := hA0
  rw [Try.params13] at hA hval
  obtain ⟨v0, vs0, d0, ds0, p0, q0, hargs, rfl, rfl, h0, r0⟩ := trodAll_cons hA
  obtain ⟨v1, vs1, d1, ds1, p1, q1, rfl, rfl, rfl, h1, r1⟩ := trodAll_cons r0
  obtain ⟨v2, vs2, d2, ds2, p2, q2, rfl, rfl, rfl, h2, r2⟩ := trodAll_cons r1
  obtain ⟨rfl, rfl, rfl⟩ := trodAll_nil r2
  obtain rfl : args = #[v0, v1, v2] := by cases args; simp_all
  obtain ⟨rfl, rfl⟩ := trodVars_none hV
  have t0 := h0
  obtain ⟨cu0, va0, n0, z0, bf0, vs0, m0, y0, al0, sf0, rfl, wc0, la0, lb0, wl0, ws0⟩ := open_plan6 Try.underlying125 (by kernel_rfl) (by kernel_rfl) Try.underlying2 Try.underlying4 Try.underlying2 Try.underlying5 (fun _ _ _ h => open_longs h) (fun _ _ _ h => open_byteRow h) (hval 0 125 v0 rfl rfl) h0
  have t1 := h1
  obtain ⟨a1, rfl, _, _, w1⟩ := open_int Try.underlying2 (hval 1 2 v1 rfl rfl) h1
  have t2 := h2
  obtain ⟨n2, z2, hO2⟩ : ∃ n z, ByteRow W v2 n z := by
    obtain ⟨aa, len, cap, rfl⟩ := okWide_slice Try.underlying64 (hval 2 64 v2 rfl rfl)
    obtain ⟨fuel, hf⟩ := h2
    exact open_byteRow (by simpa [Value.cells] using hf)
  clear hA0 hval0
  refine (walkOf cu0 va0 n0 z0 bf0 vs0 m0 y0 al0 sf0 wc0 la0 lb0 wl0 ws0 a1 w1 v2 n2 z2 hO2 (W0 := W)).mono fun e W' ⟨he, hb⟩ => ?_
  subst he
  have lo : laidOutB Try.prog = true := by kernel_rfl
  have tsize : Try.prog.types.size = 235 := by kernel_rfl
  simp only [List.append_nil] at hW'
  refine ⟨_, rfl, shut_same hb hW' (fun _ _ _ => trodAll_cons_mk (shut_bool Try.underlying4 _) trodAll_mk0) ?_ rfl⟩
  have k0 := Below.trod lo (by kernel_rfl) (by rw [tsize]; decide) t0 hb (fun x hx => hlt x (by simp [hx]))
  have k1 := Below.trod lo (by kernel_rfl) (by rw [tsize]; decide) t1 hb (fun x hx => hlt x (by simp [hx]))
  have k2 := Below.trod lo (by kernel_rfl) (by rw [tsize]; decide) t2 hb (fun x hx => hlt x (by simp [hx]))
  have kk := (trodAll_cons_mk k0 (trodAll_cons_mk k1 (trodAll_cons_mk k2 trodAll_mk0)))
  simp only [List.append_nil] at kk ⊢
  exact kk

theorem over : Rows.barrierRisesRow.holds Try.pinned (OpenSpec.ofChange Rows.barrierRisesSpec) :=
  OpenClaim.holds_of_wide 13 Try.f13 rfl rfl rfl rfl rfl rfl rfl ⟨rfl, rfl, rfl, rfl, rfl⟩ rfl rfl rfl rfl rfl (by kernel_rfl) Try.func13 (by kernel_rfl)
    (of_decide_eq_true (by kernel_rfl)) (by unfold Func.isWrapper; first | (rw [if_pos (by decide +kernel)]; kernel_rfl) | (rw [if_neg (by decide +kernel)]; exact ⟨rfl, rfl⟩))
    (fun os started H enc _ => lifted os started H enc)

theorem proved : Rows.BarrierRisesSaid :=
  over
end Go.Proofs.Ytejkjpmigajidaa.barrierRises
