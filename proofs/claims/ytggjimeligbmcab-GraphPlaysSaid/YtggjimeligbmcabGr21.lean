/-
  GraphCycles, walked. Conditions: as the statement has them.
-/
import Derived.Test.YtggjimeligbmcabGr20
namespace Go.Proofs.Ytggjimeligbmcab
open Go.RowKit
set_option linter.unusedVariables false

theorem aft_link_mono {G : List Nd} {n m i a : Nat} (hn : hasB G n = true) (h : a ∈ aft G i) : a ∈ aft (linkG G n m) i := by
  by_cases e : i = n
  · subst e
    rw [aft_link_self hn]
    exact List.mem_append_left _ h
  · rw [aft_link_ne e]
    exact h
theorem rch_link_mono {G : List Nd} {n m i j : Nat} (hn : hasB G n = true) (h : Rch G i j) : Rch (linkG G n m) i j := by
  induction h with
  | one ha => exact .one (aft_link_mono hn ha)
  | more ha _ ih => exact .more (aft_link_mono hn ha) ih
theorem aft_link_new {G : List Nd} {n m : Nat} (hn : hasB G n = true) : m ∈ aft (linkG G n m) n := by
  rw [aft_link_self hn]
  simp
theorem inI_yes {l : List Nat} {k : Nat} (h : k ∈ l) : inI l (k : Int) = true := by rw [inI_nat]; exact decide_eq_true h
theorem inI_no {l : List Nat} {k : Nat} (h : k ∉ l) : inI l (k : Int) = false := by rw [inI_nat]; exact decide_eq_false h
theorem beh_mem {G : List Nd} {n m : Nat} (h : m ∈ aft G n) (hn : n < G.length) : n ∈ behL G (m : Int) G.length := by
  unfold behL
  rw [List.mem_filter, List.mem_range]
  exact ⟨hn, inI_yes h⟩
theorem end_not {G : List Nd} {n m : Nat} (h : m ∈ aft G n) (hn : n < G.length) : m ∉ (List.range G.length).filter (endB G) := by
  intro hm
  have h1 := (List.mem_filter.1 hm).2
  unfold endB at h1
  rw [Bool.and_eq_true, List.isEmpty_iff] at h1
  have := beh_mem h hn
  rw [h1.2] at this
  cases this
theorem ends_len (G : List Nd) : ((List.range G.length).filter (endB G)).length ≤ G.length := filter_len _ _
theorem beh_len (G : List Nd) (x : Int) : (behL G x G.length).length ≤ G.length := filter_len _ _
section
variable {W w1 w2 : World} {v : Value} {n : Nat} {z : Nat → OpD} {G : List Nd}
set_option maxRecDepth 100000 in
set_option maxHeartbeats 4000000 in
theorem gcycles_walk (hO : OpsG W v n z) (a b : Int) : Calls Try.prog 5 #[v, .int .i64 a, .int .i64 b] W fun e w' => e = .returned (.bool true) ∧ Below W.heap.size W w' := by
  have HO := Lib.hid hO
  obtain ⟨p, cap, rfl, -, -⟩ := hO
  cases hs : smB n z with
  | false =>
    have HS := Lib.hid hs
    clear hs
    go_enter Try.func5, Try.ntmps5
    go_wp2_with (first
      | (go_at_call 9; refine (gsmallB HO.out).mono ?_; rintro e w1 ⟨rfl, hb⟩; rw [HS.out]; have HB := Lib.hid hb; clear hb)
      | (go_at_call 10; refine (awake13 _).mono ?_; rintro e w2 ⟨rfl, hb⟩; have HB2 := Lib.hid hb; clear hb))
    go_ret
    exact ⟨rfl, bthen HB.out HB2.out⟩
  | true =>
    have HS := Lib.hid hs
    clear hs
    have HOK := Lib.hid (runG_ok z n)
    have hlen := HOK.out.len
    generalize hG : runG z n = G at *
    by_cases hab : hasI G a = true ∧ hasI G b = true
    · obtain ⟨x, rfl, hx⟩ := hasI_yes hab.1
      obtain ⟨y, rfl, hy⟩ := hasI_yes hab.2
      have HAX := Lib.hid hab.1
      have HAY := Lib.hid hab.2
      have HX := Lib.hid hx
      have HY := Lib.hid hy
      have HRY := Lib.hid (rchI_nat HOK.out y)
      have HRL : Hid ((rchL G y 64).length ≤ 1000) := Lib.hid (by have := rchL_len G y; omega)
      have HAF := Lib.hid (aftI_nat HOK.out x)
      have HAL : Hid ((aft G x).length ≤ 1000) := Lib.hid (by have := aft_len HOK.out x; omega)
      clear hab hx hy
      by_cases hxy : x = y
      · subst hxy
        have HE : Hid (linkBad G (x : Int) (x : Int) = 16) := Lib.hid (by unfold linkBad; rw [if_pos ⟨HAX.out, HAX.out⟩, if_pos (.inl rfl)])
        go_enter Try.func5, Try.ntmps5
        go_upto_region 4 with (first
          | (go_at_call 9; refine (gsmallB HO.out).mono ?_; rintro e w1 ⟨rfl, hb⟩; rw [HS.out]; have HB := Lib.hid hb; clear hb)
          | (go_at_call 33; refine (gbegun (HO.out.keep HB.out) HS.out).mono ?_; rintro e w2 ⟨g, rfl, hm⟩; rw [hG] at hm; have HM := Lib.hid hm; have HB2 : Hid (Below W.heap.size W w2) := Lib.hid (bthen HB.out hm.2); clear hm))
        clear hG
        go_wp2_with (first
          | (go_at_call 22; refine (gm_has HM.out _).mono ?_; rintro e w3 ⟨rfl, rfl⟩; rw [HAX.out])
          | (go_at_call 10; refine (awake13 _).mono ?_; rintro e w7 ⟨rfl, hb⟩; have HB7 := Lib.hid hb; clear hb)
          | (go_at_call 14; refine (is_err (HE6.out.held (Held.of_below HB7.out)) 16).mono ?_; rintro e w8 ⟨rfl, rfl⟩)
          | (go_at_call 15; refine (gm_link (HM.out.keep (bthen HB4.out HB5.out)) HOK.out _ _).mono ?_; rintro e w6 ⟨E, rfl, he, hm⟩; rw [HE.out] at he; have HE6 := Lib.hid he; have HB6 := Lib.hid hm.2; clear he hm)
          | (go_at_call 25; refine (gm_reach (HM.out.keep HB4.out) HOK.out _).mono ?_; rintro e w5 ⟨v5, rfl, hf⟩; have HB5 := Lib.hid hf.2; clear hf)
          | (go_at_call 34; refine (gin HF4.out.ints _ HAL.out).mono ?_; rintro e w5 ⟨rfl, rfl⟩)
          | (go_at_call 26; refine (gm_after HM.out HOK.out _).mono ?_; rintro e w4 ⟨v4, rfl, hf⟩; rw [HAF.out] at hf; have HF4 := Lib.hid hf; have HB4 := Lib.hid hf.2; clear hf))
        go_ret
        exact ⟨rfl, bthen HB.out (bthen HB6.out HB7.out)⟩
      · have hne : ((x : Int) == (y : Int)) = false := by
          rw [beq_eq_false_iff_ne]
          exact fun e => hxy (Int.ofNat_inj.1 e)
        have HNE := Lib.hid hxy
        clear hxy
        by_cases hr : Rch G y x
        · have HE : Hid (linkBad G (x : Int) (y : Int) = 16) := Lib.hid (by unfold linkBad; rw [if_pos ⟨HAX.out, HAY.out⟩, if_pos (.inr hr)])
          have HIR : Hid (inI (rchL G y 64) (x : Int) = true) := Lib.hid (inI_yes ((rchL_mem HOK.out).2 hr))
          obtain ⟨ra, hra⟩ : ∃ ra, inI (aft G x) (y : Int) = ra := ⟨_, rfl⟩
          have HIA := Lib.hid hra
          clear hr hra
          go_enter Try.func5, Try.ntmps5
          go_upto_region 4 with (first
            | (go_at_call 9; refine (gsmallB HO.out).mono ?_; rintro e w1 ⟨rfl, hb⟩; rw [HS.out]; have HB := Lib.hid hb; clear hb)
            | (go_at_call 33; refine (gbegun (HO.out.keep HB.out) HS.out).mono ?_; rintro e w2 ⟨g, rfl, hm⟩; rw [hG] at hm; have HM := Lib.hid hm; have HB2 : Hid (Below W.heap.size W w2) := Lib.hid (bthen HB.out hm.2); clear hm))
          clear hG
          go_upto_region 7 with (first
            | (go_at_call_of 22 (Value.int IntKind.i64 (x : Int)); refine (gm_has HM.out _).mono ?_; rintro e w3 ⟨rfl, rfl⟩; rw [HAX.out])
            | (go_at_call 22; refine (gm_has HM.out _).mono ?_; rintro e w3 ⟨rfl, rfl⟩; rw [HAY.out])
            | (go_at_call 34; refine (gin HF3.out.ints _ HRL.out).mono ?_; rintro e w5 ⟨rfl, rfl⟩; rw [HIR.out])
            | (go_at_call 25; refine (gm_reach HM.out HOK.out _).mono ?_; rintro e w3 ⟨v3, rfl, hf⟩; rw [HRY.out] at hf; have HF3 := Lib.hid hf; have HB3 := Lib.hid hf.2; clear hf))
          go_upto_region 8 with (first
            | (go_at_call 34; refine (gin HF4.out.ints _ HAL.out).mono ?_; rintro e w5 ⟨rfl, rfl⟩; rw [HIA.out])
            | (go_at_call 26; refine (gm_after (HM.out.keep HB3.out) HOK.out _).mono ?_; rintro e w4 ⟨v4, rfl, hf⟩; rw [HAF.out] at hf; have HF4 := Lib.hid hf; have HB4 := Lib.hid (bthen HB3.out hf.2); clear hf))
          go_upto_region 9 with (go_at_call 25; refine (gm_reach (HM.out.keep HB4.out) HOK.out _).mono ?_; rintro e w5 ⟨v5, rfl, hf⟩; rw [HRY.out] at hf; have HF5 := Lib.hid hf; have HB5 := Lib.hid (bthen HB4.out hf.2); obtain ⟨p5, k5, rfl, -⟩ := row_form hf.1; clear hf)
          go_upto_region 10 with (go_at_call 15; refine (gm_linkX HM.out HB5.out HOK.out _ _).mono ?_; rintro e w6 ⟨E, rfl, he, hm, hfr⟩; rw [HE.out] at he; have HE6 := Lib.hid he; have HM6 := Lib.hid hm; have HB6 := Lib.hid hm.2; have HFR := Lib.hid hfr; clear he hm hfr)
          go_wp2_with (first
            | (go_at_call 10; refine (awake13 _).mono ?_; rintro e w7 ⟨rfl, hb⟩; have HB7 := Lib.hid hb; clear hb)
            | (go_at_call 14; refine (is_err (HE6.out.held (Held.of_below HB7.out)) 16).mono ?_; rintro e w8 ⟨rfl, rfl⟩))
          go_ret
          exact ⟨rfl, bthen HB.out (bthen HB6.out HB7.out)⟩
        · have hr2 : ¬ ((x : Int) = y ∨ Rch G (y : Int).toNat (x : Int).toNat) := fun e => e.elim (fun e => HNE.out (Int.ofNat_inj.1 e)) hr
          have HIR : Hid (inI (rchL G y 64) (x : Int) = false) := Lib.hid (inI_no fun hm => hr ((rchL_mem HOK.out).1 hm))
          by_cases ha : y ∈ aft G x
          · have HE : Hid (linkBad G (x : Int) (y : Int) = 4) := Lib.hid (by unfold linkBad; rw [if_pos ⟨HAX.out, HAY.out⟩, if_neg hr2, if_pos (show (y : Int).toNat ∈ aft G (x : Int).toNat from ha)])
            have HIA : Hid (inI (aft G x) (y : Int) = true) := Lib.hid (inI_yes ha)
            clear hr hr2 ha
            go_enter Try.func5, Try.ntmps5
            go_upto_region 4 with (first
              | (go_at_call 9; refine (gsmallB HO.out).mono ?_; rintro e w1 ⟨rfl, hb⟩; rw [HS.out]; have HB := Lib.hid hb; clear hb)
              | (go_at_call 33; refine (gbegun (HO.out.keep HB.out) HS.out).mono ?_; rintro e w2 ⟨g, rfl, hm⟩; rw [hG] at hm; have HM := Lib.hid hm; have HB2 : Hid (Below W.heap.size W w2) := Lib.hid (bthen HB.out hm.2); clear hm))
            clear hG
            go_upto_region 7 with (first
              | (go_at_call_of 22 (Value.int IntKind.i64 (x : Int)); refine (gm_has HM.out _).mono ?_; rintro e w3 ⟨rfl, rfl⟩; rw [HAX.out])
              | (go_at_call 22; refine (gm_has HM.out _).mono ?_; rintro e w3 ⟨rfl, rfl⟩; rw [HAY.out])
              | (go_at_call 34; refine (gin HF3.out.ints _ HRL.out).mono ?_; rintro e w5 ⟨rfl, rfl⟩; rw [HIR.out])
              | (go_at_call 25; refine (gm_reach HM.out HOK.out _).mono ?_; rintro e w3 ⟨v3, rfl, hf⟩; rw [HRY.out] at hf; have HF3 := Lib.hid hf; have HB3 := Lib.hid hf.2; clear hf))
            go_upto_region 8 with (first
              | (go_at_call 34; refine (gin HF4.out.ints _ HAL.out).mono ?_; rintro e w5 ⟨rfl, rfl⟩; rw [HIA.out])
              | (go_at_call 26; refine (gm_after (HM.out.keep HB3.out) HOK.out _).mono ?_; rintro e w4 ⟨v4, rfl, hf⟩; rw [HAF.out] at hf; have HF4 := Lib.hid hf; have HB4 := Lib.hid (bthen HB3.out hf.2); clear hf))
            go_upto_region 9 with (go_at_call 25; refine (gm_reach (HM.out.keep HB4.out) HOK.out _).mono ?_; rintro e w5 ⟨v5, rfl, hf⟩; rw [HRY.out] at hf; have HF5 := Lib.hid hf; have HB5 := Lib.hid (bthen HB4.out hf.2); obtain ⟨p5, k5, rfl, -⟩ := row_form hf.1; clear hf)
            go_upto_region 10 with (go_at_call 15; refine (gm_linkX HM.out HB5.out HOK.out _ _).mono ?_; rintro e w6 ⟨E, rfl, he, hm, hfr⟩; rw [HE.out] at he; have HE6 := Lib.hid he; have HM6 := Lib.hid hm; have HB6 := Lib.hid hm.2; have HFR := Lib.hid hfr; clear he hm hfr)
            go_wp2_with (first
              | (go_at_call 10; refine (awake13 _).mono ?_; rintro e w7 ⟨rfl, hb⟩; have HB7 := Lib.hid hb; clear hb)
              | (go_at_call 14; refine (is_err (HE6.out.held (Held.of_below HB7.out)) 4).mono ?_; rintro e w8 ⟨rfl, rfl⟩))
            go_ret
            exact ⟨rfl, bthen HB.out (bthen HB6.out HB7.out)⟩
          · have HE : Hid (linkBad G (x : Int) (y : Int) = 0) := Lib.hid (by unfold linkBad; rw [if_pos ⟨HAX.out, HAY.out⟩, if_neg hr2, if_neg (show ¬ (y : Int).toNat ∈ aft G (x : Int).toNat from ha)])
            have HIA : Hid (inI (aft G x) (y : Int) = false) := Lib.hid (inI_no ha)
            clear hr hr2 ha
            go_enter Try.func5, Try.ntmps5
            go_upto_region 4 with (first
              | (go_at_call 9; refine (gsmallB HO.out).mono ?_; rintro e w1 ⟨rfl, hb⟩; rw [HS.out]; have HB := Lib.hid hb; clear hb)
              | (go_at_call 33; refine (gbegun (HO.out.keep HB.out) HS.out).mono ?_; rintro e w2 ⟨g, rfl, hm⟩; rw [hG] at hm; have HM := Lib.hid hm; have HB2 : Hid (Below W.heap.size W w2) := Lib.hid (bthen HB.out hm.2); clear hm))
            clear hG
            go_upto_region 7 with (first
              | (go_at_call_of 22 (Value.int IntKind.i64 (x : Int)); refine (gm_has HM.out _).mono ?_; rintro e w3 ⟨rfl, rfl⟩; rw [HAX.out])
              | (go_at_call 22; refine (gm_has HM.out _).mono ?_; rintro e w3 ⟨rfl, rfl⟩; rw [HAY.out])
              | (go_at_call 34; refine (gin HF3.out.ints _ HRL.out).mono ?_; rintro e w5 ⟨rfl, rfl⟩; rw [HIR.out])
              | (go_at_call 25; refine (gm_reach HM.out HOK.out _).mono ?_; rintro e w3 ⟨v3, rfl, hf⟩; rw [HRY.out] at hf; have HF3 := Lib.hid hf; have HB3 := Lib.hid hf.2; clear hf))
            go_upto_region 8 with (first
              | (go_at_call 34; refine (gin HF4.out.ints _ HAL.out).mono ?_; rintro e w5 ⟨rfl, rfl⟩; rw [HIA.out])
              | (go_at_call 26; refine (gm_after (HM.out.keep HB3.out) HOK.out _).mono ?_; rintro e w4 ⟨v4, rfl, hf⟩; rw [HAF.out] at hf; have HF4 := Lib.hid hf; have HB4 := Lib.hid (bthen HB3.out hf.2); clear hf))
            go_upto_region 9 with (go_at_call 25; refine (gm_reach (HM.out.keep HB4.out) HOK.out _).mono ?_; rintro e w5 ⟨v5, rfl, hf⟩; rw [HRY.out] at hf; have HF5 := Lib.hid hf; have HB5 := Lib.hid (bthen HB4.out hf.2); obtain ⟨p5, k5, rfl, -⟩ := row_form hf.1; clear hf)
            go_upto_region 10 with (go_at_call 15; refine (gm_linkX HM.out HB5.out HOK.out _ _).mono ?_; rintro e w6 ⟨E, rfl, he, hm, hfr⟩; rw [HE.out] at he; have HE6 := Lib.hid he; have HM6 := Lib.hid hm; have HB6 := Lib.hid hm.2; have HFR := Lib.hid hfr; clear he hm hfr)
            have HLN : Hid (linkN G (x : Int) (y : Int) = linkG G x y) := Lib.hid (by unfold linkN; rw [if_pos HE.out]; rfl)
            have HMX : Hid (Gm w1 w6 g (linkG G x y)) := Lib.hid (by have := HM6.out; rwa [HLN.out] at this)
            have HOX : Hid (GOk (linkG G x y)) := Lib.hid (HLN.out ▸ HOK.out.linkN x y)
            have HWAS : Hid (IntsN w6 (.slice p5 (rchL G y 64).length k5) (rchL G y 64)) := Lib.hid (.of_row (HFR.out.row HF5.out.1 fun k hk hb => by
              have h1 := (HF5.out.1.lt k hk).1
              have h2 := HB4.out.size
              omega))
            have HXE : Hid (E = .nilIface) := Lib.hid ((HE6.out.resolve_right fun h => h.1 rfl).2)
            obtain rfl := HXE.out
            have HRX := Lib.hid (rchI_nat HOX.out x)
            have HXL : Hid ((rchL (linkG G x y) x 64).length ≤ 1000) := Lib.hid (by have := rchL_len (linkG G x y) x; omega)
            have hrl : (rchL G y 64).length ≤ 64 := rchL_len G y
            have HSUB : Hid (∀ j, j < (rchL G y 64).length → inI (rchL (linkG G x y) x 64) (((rchL G y 64).getD j 0 : Nat) : Int) = true) := Lib.hid fun j hj => by
              refine inI_yes ((rchL_mem HOX.out).2 ?_)
              exact .more (aft_link_new HX.out) (rch_link_mono HX.out ((rchL_mem HOK.out).1 (getD_memN hj)))
            have HIY : Hid (inI (rchL (linkG G x y) x 64) (y : Int) = true) := Lib.hid (inI_yes ((rchL_mem HOX.out).2 (.one (aft_link_new HX.out))))
            have hll : (linkG G x y).length = G.length := linkG_len G x y
            have HAFX := Lib.hid (aftI_nat HOX.out x)
            have HALX : Hid ((aft (linkG G x y) x).length ≤ 1000) := Lib.hid (by have := aft_len HOX.out x; omega)
            have HIAX : Hid (inI (aft (linkG G x y) x) (y : Int) = true) := Lib.hid (inI_yes (aft_link_new HX.out))
            have HBEX : Hid (behI (linkG G x y) (y : Int) = behL (linkG G x y) (y : Int) (linkG G x y).length) := Lib.hid (by unfold behI; rw [if_pos (by rw [hasI_nat, has_link HX.out]; exact HY.out)])
            have HBLX : Hid ((behL (linkG G x y) (y : Int) (linkG G x y).length).length ≤ 1000) := Lib.hid (by have := beh_len (linkG G x y) (y : Int); omega)
            have HIBX : Hid (inI (behL (linkG G x y) (y : Int) (linkG G x y).length) (x : Int) = true) := Lib.hid (inI_yes (beh_mem (aft_link_new HX.out) (by rw [hll]; exact has_lt HX.out)))
            have HENL : Hid (((List.range (linkG G x y).length).filter (endB (linkG G x y))).length ≤ 1000) := Lib.hid (by have := ends_len (linkG G x y); omega)
            have HIEX : Hid (inI ((List.range (linkG G x y).length).filter (endB (linkG G x y))) (y : Int) = false) := Lib.hid (inI_no (end_not (aft_link_new HX.out) (by rw [hll]; exact has_lt HX.out)))
            clear hll
            generalize linkG G x y = G' at *
            go_wp2_with (go_at_call 25; refine (gm_reach HMX.out HOX.out _).mono ?_; rintro e w7 ⟨v7, rfl, hf⟩; rw [HRX.out] at hf; have HF7 := Lib.hid hf; have HB7 := Lib.hid hf.2; clear hf)
            go_loopw [78] (fun jv wl => wl = w7 ∧ ∃ j : Nat, j ≤ (rchL G y 64).length ∧ jv = .int .i64 j) (fun jv _ => (rchL G y 64).length - (intOf jv).toNat)
            case atStart => exact ⟨rfl, 0, Nat.zero_le _, rfl⟩
            case round =>
              obtain ⟨rfl, j, hj, rfl⟩ := hrel
              by_cases hjl : j < (rchL G y 64).length
              · obtain ⟨b, off, rfl, cj⟩ := (HWAS.out.keep HB7.out).at_ hjl
                have HS1 := Lib.hid (HSUB.out j hjl)
                generalize (rchL G y 64).getD j 0 = a at *
                go_wp2_with (go_at_call 34; refine (gin HF7.out.ints _ HXL.out).mono ?_; rintro e w8 ⟨rfl, rfl⟩; rw [HS1.out])
                exact ⟨⟨trivial, j + 1, by omega, by go_num⟩, by simp [intOf]; omega⟩
              · obtain rfl : j = (rchL G y 64).length := by omega
                go_upto_region 21 with fail
                go_wp2_with (first
                  | (go_at_call 10; refine (awake13 _).mono ?_; rintro e w8 ⟨rfl, hb⟩; have HB8 := Lib.hid hb; clear hb)
                  | (go_at_call 26; refine (gm_after (HMX.out.keep (bthen HB7.out HB8.out)) HOX.out _).mono ?_; rintro e w9 ⟨v9, rfl, hf⟩; rw [HAFX.out] at hf; have HF9 := Lib.hid hf; have HB9 := Lib.hid hf.2; clear hf)
                  | (go_at_call 27; refine (gm_behind (HMX.out.keep (bthen (bthen HB7.out HB8.out) HB9.out)) HOX.out _).mono ?_; rintro e w10 ⟨v10, rfl, hf⟩; rw [HBEX.out] at hf; have HF10 := Lib.hid hf; have HB10 := Lib.hid hf.2; clear hf)
                  | (go_at_call 30; refine (gm_ends (HMX.out.keep (bthen (bthen (bthen HB7.out HB8.out) HB9.out) HB10.out)) HOX.out).mono ?_; rintro e w11 ⟨v11, rfl, hf⟩; have HF11 := Lib.hid hf; have HB11 := Lib.hid hf.2; clear hf)
                  | (go_at_call 34; refine (gin HF11.out.ints _ HENL.out).mono ?_; rintro e w12 ⟨rfl, rfl⟩; rw [HIEX.out])
                  | (go_at_call 34; refine (gin HF10.out.ints _ HBLX.out).mono ?_; rintro e w12 ⟨rfl, rfl⟩; rw [HIBX.out])
                  | (go_at_call 34; refine (gin HF9.out.ints _ HALX.out).mono ?_; rintro e w12 ⟨rfl, rfl⟩; rw [HIAX.out])
                  | (go_at_call 34; refine (gin (HF7.out.ints.keep HB8.out) _ HXL.out).mono ?_; rintro e w12 ⟨rfl, rfl⟩; rw [HIY.out]))
                go_ret
                exact ⟨rfl, bthen HB.out (bthen (bthen (bthen (bthen (bthen HB6.out HB7.out) HB8.out) HB9.out) HB10.out) HB11.out)⟩
    · have HE : Hid (linkBad G a b = 3) := Lib.hid (by unfold linkBad; rw [if_neg hab])
      cases ha : hasI G a with
      | false =>
        have HA := Lib.hid ha
        clear ha hab
        go_enter Try.func5, Try.ntmps5
        go_upto_region 4 with (first
          | (go_at_call 9; refine (gsmallB HO.out).mono ?_; rintro e w1 ⟨rfl, hb⟩; rw [HS.out]; have HB := Lib.hid hb; clear hb)
          | (go_at_call 33; refine (gbegun (HO.out.keep HB.out) HS.out).mono ?_; rintro e w2 ⟨g, rfl, hm⟩; rw [hG] at hm; have HM := Lib.hid hm; have HB2 : Hid (Below W.heap.size W w2) := Lib.hid (bthen HB.out hm.2); clear hm))
        clear hG
        go_wp2_with (first
          | (go_at_call 22; refine (gm_has HM.out _).mono ?_; rintro e w3 ⟨rfl, rfl⟩; rw [HA.out])
          | (go_at_call 10; refine (awake13 _).mono ?_; rintro e w7 ⟨rfl, hb⟩; have HB7 := Lib.hid hb; clear hb)
          | (go_at_call 15; refine (gm_link (HM.out.keep HB7.out) HOK.out _ _).mono ?_; rintro e w6 ⟨E, rfl, he, hm⟩; rw [HE.out] at he; have HE6 := Lib.hid he; have HB6 := Lib.hid hm.2; clear he hm)
          | (go_at_call 14; refine (is_err HE6.out 3).mono ?_; rintro e w8 ⟨rfl, rfl⟩))
        go_ret
        exact ⟨rfl, bthen HB.out HB6.out⟩
      | true =>
        have HA := Lib.hid ha
        have HBN : Hid (hasI G b = false) := Lib.hid (by
          cases e : hasI G b
          · rfl
          · exact absurd ⟨ha, e⟩ hab)
        have HNE : Hid (a ≠ b) := Lib.hid fun e => by rw [e, HBN.out] at ha; cases ha
        clear ha hab
        go_enter Try.func5, Try.ntmps5
        go_upto_region 4 with (first
          | (go_at_call 9; refine (gsmallB HO.out).mono ?_; rintro e w1 ⟨rfl, hb⟩; rw [HS.out]; have HB := Lib.hid hb; clear hb)
          | (go_at_call 33; refine (gbegun (HO.out.keep HB.out) HS.out).mono ?_; rintro e w2 ⟨g, rfl, hm⟩; rw [hG] at hm; have HM := Lib.hid hm; have HB2 : Hid (Below W.heap.size W w2) := Lib.hid (bthen HB.out hm.2); clear hm))
        clear hG
        go_wp2_with (first
          | (go_at_call_of 22 (Value.int IntKind.i64 a); refine (gm_has HM.out _).mono ?_; rintro e w3 ⟨rfl, rfl⟩; rw [HA.out])
          | (go_at_call_of 22 (Value.int IntKind.i64 b); refine (gm_has HM.out _).mono ?_; rintro e w3 ⟨rfl, rfl⟩; rw [HBN.out])
          | (go_at_call 10; refine (awake13 _).mono ?_; rintro e w7 ⟨rfl, hb⟩; have HB7 := Lib.hid hb; clear hb)
          | (go_at_call 15; refine (gm_link (HM.out.keep HB7.out) HOK.out _ _).mono ?_; rintro e w6 ⟨E, rfl, he, hm⟩; rw [HE.out] at he; have HE6 := Lib.hid he; have HB6 := Lib.hid hm.2; clear he hm)
          | (go_at_call 14; refine (is_err HE6.out 3).mono ?_; rintro e w8 ⟨rfl, rfl⟩))
        go_ret
        exact ⟨rfl, bthen HB.out HB6.out⟩
end
end Go.Proofs.Ytggjimeligbmcab
