/-
  held of the statements of layer 10: one who holds back is done with more, in the document's row and in its cell. Conditions: the numbers are modest; fewer than 2^60 steps.
-/
import Derived.Test.YtjadapjjilegnaaMp0
import Derived.Deep.RegionHeld3
import Derived.Deep.DrawnRows
import Derived.BigRegion
namespace Go.Proofs.Ytjadapjjilegnaa
open Go.RowKit
set_option linter.unusedVariables false
attribute [local go_sem ↓] Go.wp_at_zero Go.wp_at_succ

/-- Nothing turns, or one is raised, at most to what is claimed. -/
def HeldP (c : Int) (gv gv' : List Int) : Prop := gv' = gv ∨ ∃ i x, i < gv.length ∧ gv' = gv.set i x ∧ min c (gv.getD i 0) ≤ x ∧ x ≤ c
theorem HeldP.len {c : Int} {gv gv' : List Int} (h : HeldP c gv gv') : gv'.length = gv.length := by
  rcases h with rfl | ⟨i, x, _, rfl, _⟩
  · rfl
  · exact List.length_set ..

set_option maxHeartbeats 4000000 in
set_option maxRecDepth 100000 in
theorem held_any {R : Rest} {W0 W : World} {s : Sh} {c sn sw st : Int} {sh gv ss : List Int} {mb : Nat} {bx : Array Value} {pi pg : Option Addr} {ci cg : Nat} {vs : Value} (h : Lv (RP R W0.heap.size mb bx (.slice pi gv.length ci) (idsN sh.length gv.length) (.slice pg gv.length cg) gv vs ss) W0 W s c sn sh gv sw st)
    (c2 : Int) (hb1 : bx[1]? = some (.int .i64 c2)) (hb3 : bx[3]? = some (.slice pg gv.length cg)) (z : Int) (hgb : ∀ x ∈ gv, -1 ≤ x ∧ x ≤ 1000000) (hc2 : -1 ≤ c2 ∧ c2 ≤ 1000000) (hgl : gv.length ≤ 20) (h0 : 0 ≤ st) (h1 : st < 1152921504606846976) :
    Calls Try.prog 110 #[.pointer (some ⟨s.b, 0, none⟩), .pointer (some ⟨mb, 0, none⟩), .slice pi gv.length ci, .int .i64 z] W fun e w' => e = .returned (.bool true) ∧ ∃ gv' st', HeldP c2 gv gv' ∧ st ≤ st' ∧ st' ≤ st + 1 ∧ Lv (RP R W0.heap.size mb bx (.slice pi gv.length ci) (idsN sh.length gv.length) (.slice pg gv.length cg) gv' vs ss) W0 w' s c sn sh gv' sw st' := by
  have HL3 := Lib.hid h
  have HB1 := Lib.hid hb1
  have HB3 := Lib.hid hb3
  have HGB0 := Lib.hid hgb
  have HST0 := Lib.hid (And.intro h0 h1)
  clear h hb1 hb3 hgb h0 h1
  by_cases hz0 : gv.length = 0
  · have eg : ((gv.length : Int) == 0) = true := by simp [hz0]
    go_enter Try.func110, Try.ntmps110
    go_wp2
    go_ret
    exact ⟨rfl, gv, st, .inl rfl, Int.le_refl _, by omega, HL3.out⟩
  · have eg : ((gv.length : Int) == 0) = false := by simp [hz0]
    by_cases hz1 : z < 0
    · have ez : decide (z < 0) = true := decide_eq_true hz1
      go_enter Try.func110, Try.ntmps110
      go_wp2
      go_ret
      exact ⟨rfl, gv, st, .inl rfl, Int.le_refl _, by omega, HL3.out⟩
    · have ez : decide (z < 0) = false := decide_eq_false hz1
      obtain ⟨i, hi⟩ : ∃ i : Nat, z.tmod (gv.length : Int) = (i : Int) := ⟨(z.tmod (gv.length : Int)).toNat, by have := Int.tmod_nonneg (gv.length : Int) (show 0 ≤ z by omega); omega⟩
      have hil : i < gv.length := by have := Int.tmod_lt_of_pos z (show (0 : Int) < (gv.length : Int) by omega); omega
      obtain ⟨r, hr⟩ : ∃ r : Int, z.tmod 7 = r := ⟨_, rfl⟩
      have hr0 : 0 ≤ r ∧ r < 7 := ⟨hr ▸ Int.tmod_nonneg 7 (show 0 ≤ z by omega), hr ▸ Int.tmod_lt_of_pos z (by decide)⟩
      obtain ⟨ri, cap1, hs1, -⟩ := row_some (lp_i HL3.out) (by rw [idsN_len]; omega)
      simp only [Value.slice.injEq] at hs1
      obtain ⟨rfl, -, rfl⟩ := hs1
      obtain ⟨rg, cap2, hs2, -⟩ := row_some (lp_g HL3.out) (by omega)
      simp only [Value.slice.injEq, true_and] at hs2
      obtain ⟨rfl, rfl⟩ := hs2
      obtain ⟨gi, hgi⟩ : ∃ gi : Int, gv[i]? = some gi := ⟨_, List.getElem?_eq_getElem hil⟩
      have hgm : gi ∈ gv := List.mem_of_getElem? hgi
      have HGI : Hid (gv.getD i 0 = gi) := Lib.hid (by simp [List.getD, hgi])
      have HGB := Lib.hid (HGB0.out _ hgm)
      have HIL := Lib.hid hil
      have HRR := Lib.hid hr0
      have kg : W.cell? ⟨rg, i, none⟩ = some (.int .i64 gi) := lp_gat HL3.out rfl hgi
      have fg := (lp_g HL3.out).frozenAt i
      have k1 : W.cell? ⟨mb, 1, none⟩ = some (.int .i64 c2) := (obj_cell (lp_box HL3.out) 1).trans HB1.out
      have k3 : W.cell? ⟨mb, 3, none⟩ = some (.slice (some ⟨rg, 0, none⟩) gv.length cg) := (obj_cell (lp_box HL3.out) 3).trans HB3.out
      have b0 : (0 : Int) ≤ (i : Int) := by omega
      have b1 : (i : Int) < (gv.length : Int) := by omega
      have bl : (gv.length : Int) ≤ 20 := by omega
      have HWS : Hid (-9223372036854775808 ≤ gi + r ∧ gi + r ≤ 9223372036854775807) := Lib.hid (by have := HGB.out; omega)
      obtain ⟨x, hx⟩ : ∃ x : Int, x = min c2 (gi + r) := ⟨_, rfl⟩
      have HXB : Hid (min c2 gi ≤ x ∧ x ≤ c2) := Lib.hid (by omega)
      have HX := Lib.hid hx
      have HCC := Lib.hid hc2
      clear hgi hgm hil hr0 hz0 hz1 hgl hx hc2
      go_enter Try.func110, Try.ntmps110
      go_upto_region 4 with fail
      go_region
      rw [IntWalk.wrap64_in _ HWS.out, ← HX.out]
      have HL4 := Lib.hid ((lp_gput HL3.out i x).keep (Below.drew (Below.refl _ _)))
      obtain ⟨idv, hidv⟩ : ∃ idv : Int, idv = ((sh.length + 2 + i : Nat) : Int) := ⟨_, rfl⟩
      have HIV := Lib.hid hidv
      clear hidv kg fg k1 k3 HL3 hr bl
      generalize World.drew _ = w4 at *
      have HIG : Hid ((idsN sh.length gv.length)[i]? = some idv) := Lib.hid (by rw [HIV.out]; exact idsN_get _ _ HIL.out)
      have HGG : Hid ((gv.set i x)[i]? = some x) := Lib.hid (List.getElem?_set_self HIL.out)
      have ki : w4.cell? ⟨ri, i, none⟩ = some (.int .i64 idv) := lp_iat HL4.out (idsN_len _ _) HIG.out
      have kg : w4.cell? ⟨rg, i, none⟩ = some (.int .i64 x) := lp_gat HL4.out (List.length_set ..) HGG.out
      have k3 : w4.cell? ⟨mb, 3, none⟩ = some (.slice (some ⟨rg, 0, none⟩) gv.length cg) := (obj_cell (lp_box HL4.out) 3).trans HB3.out
      have HST : Hid (∀ w, Below w4.heap.size w4 w → Calls Try.prog 37 #[.pointer (some ⟨s.b, 0, none⟩), .int .i64 idv, .int .i64 x] w fun e w' => e = .returned .nilIface ∧ Lv (RP R W0.heap.size mb bx (.slice (some ⟨ri, 0, none⟩) gv.length ci) (idsN sh.length gv.length) (.slice (some ⟨rg, 0, none⟩) gv.length cg) (gv.set i x) vs ss) W0 w' s c sn sh (gv.set i x) sw (st + 1)) := Lib.hid fun w hb => by
        have := lheld (HL4.out.keep hb) i HIL.out x HST0.out.1 HST0.out.2
        rw [HIV.out]
        exact this
      go_wp2_with fail
      go_region_held3 (fun w' => w'.cell? ⟨ri, i, none⟩ = some (.int .i64 idv) ∧ w'.cell? ⟨mb, 3, none⟩ = some (.slice (some ⟨rg, 0, none⟩) gv.length cg) ∧ w'.cell? ⟨rg, i, none⟩ = some (.int .i64 x)) (first
        | exact ⟨by assumption, by assumption, by assumption⟩
        | exact ⟨by go_simp, by go_simp, by go_simp⟩) (first
        | (go_at_call 37; refine (HST.out _ (Below.drew (Below.refl _ _))).mono ?_; rintro e w5 ⟨rfl, hl5⟩; have HL5 := Lib.hid hl5; have j3 : w5.cell? ⟨mb, 3, none⟩ = some (.slice (some ⟨rg, 0, none⟩) gv.length cg) := (obj_cell (lp_box hl5) 3).trans HB3.out; have ji : w5.cell? ⟨ri, i, none⟩ = some (.int .i64 idv) := lp_iat hl5 (idsN_len _ _) HIG.out; have jg : w5.cell? ⟨rg, i, none⟩ = some (.int .i64 x) := lp_gat hl5 (List.length_set ..) HGG.out; clear hl5))
      go_wp2
      go_ret
      exact ⟨rfl, gv.set i x, st + 1, .inr ⟨i, x, HIL.out, rfl, by rw [HGI.out]; exact HXB.out.1, HXB.out.2⟩, by omega, by omega, HL5.out⟩
end Go.Proofs.Ytjadapjjilegnaa
