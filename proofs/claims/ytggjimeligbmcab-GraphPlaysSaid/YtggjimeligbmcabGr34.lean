/-
  The document's Link of layer 13, by contract. Conditions: a graph in which nobody is behind itself.
-/
import Derived.Test.YtggjimeligbmcabGr33
namespace Go.Proofs.Ytggjimeligbmcab
open Go.RowKit
set_option linter.unusedVariables false

section
variable {B : Nat} {W w w' w6 : World} {va vg v' : Value} {G G' : List Nd} {N N' : List Value}
theorem gones_link {G : List Nd} {n m : Nat} (hn : hasB G n = true) : gonesV (linkG G n m) = gonesV G := by
  apply List.ext_getElem?
  intro i
  by_cases hi : i < G.length
  · rw [gones_at (by rw [linkG_len]; exact hi), gones_at hi]
    have := has_link (a := m) (i := i) hn
    simp only [hasB] at this
    rw [Bool.not_inj_iff.1 this]
  · rw [List.getElem?_eq_none (by simp [gonesV, linkG]; omega), List.getElem?_eq_none (by simp [gonesV]; omega)]
theorem Rw.link_at (h : Rw B w va vg G N) {n m q c : Nat} (hv : va = .slice (some ⟨q, 0, none⟩) G.length c) (hn : hasB G n = true) (hB : B ≤ w.heap.size)
    (hown : w6.ownsRow 0 3 1 v' ((aft G n).length + 1) (ints (aft G n) ++ [.int .i64 (m : Int)])) (hf : Frm (fun k => (N.getD n nilS).ownBlock = some k) w w6) (hv' : v'.ownBlock = (N.getD n nilS).ownBlock ∨ ∀ k, v'.ownBlock = some k → w.heap.size ≤ k) :
    Rz B w (w6.setCell ⟨q, n, none⟩ v') va vg N va vg (linkG G n m) := by
  subst hv
  have hl := h.len
  have hnl := has_lt hn
  have hq : ∀ i, i < G.length → (N.getD i nilS).ownBlock ≠ some q := fun i hi => row_t_ne h.ra (h.own i hi) (by decide) rfl
  have hqg : vg.ownBlock ≠ some q := row_t_ne h.ra h.rg (by decide) rfl
  have hgN : ∀ i, i < G.length → ∀ k, (N.getD i nilS).ownBlock = some k → vg.ownBlock ≠ some k := fun i hi k hk => row_t_ne (h.own i hi) h.rg (by decide) hk
  have fr1 : Frm (fun k => k = q ∨ (N.getD n nilS).ownBlock = some k) w (w6.setCell ⟨q, n, none⟩ v') := (hf.mono fun _ _ h => .inr h).setCell (p := ⟨q, n, none⟩) (.inl rfl) _
  have hat : ∀ i, i ≠ n → (N.set n v').getD i nilS = N.getD i nilS := fun i hi => by
    rw [List.getD_eq_getElem?_getD, List.getElem?_set_ne (Ne.symm hi), ← List.getD_eq_getElem?_getD]
  have hself : (N.set n v').getD n nilS = v' := by
    rw [List.getD_eq_getElem?_getD, List.getElem?_set_self (by omega)]
    rfl
  have hv6 : v'.ownBlock ≠ some q := fun e => by
    rcases hv' with h1 | h1
    · exact hq n hnl (h1 ▸ e)
    · have := h1 q e
      have h2 := (h.ra.lt q rfl).2
      omega
  have hBv : ∀ k, v'.ownBlock = some k → B ≤ k := fun k hk => by
    rcases hv' with h1 | h1
    · exact ((h.own n hnl).lt k (h1 ▸ hk)).1
    · have := h1 k hk
      omega
  refine ⟨⟨N.set n v', ⟨?_, ?_, fun i hi => ?_, fun i j hi hj hij b hb => ?_⟩, fun k hk => ?_⟩, fr1.mono fun k _ hk => ?_⟩
  · rw [linkG_len]
    exact row_put (j := n) (hf.row h.ra fun k hk hkn => by simp only [Value.ownBlock, Option.some.injEq] at hk; exact hq n hnl (hk ▸ hkn)) v'
  · rw [linkG_len, gones_link hn]
    exact fr1.row h.rg fun k hk e => e.elim (fun e => hqg (e ▸ hk)) fun e => hgN n hnl k e hk
  · rw [linkG_len] at hi
    by_cases e : i = n
    · subst e
      rw [hself, aft_link_self hn]
      have h1 := row_up hown hBv
      have h2 := ((Frm.refl (fun k => k = q) w6).setCell (p := ⟨q, i, none⟩) rfl v').row h1 fun k hk hkq => hv6 (hkq ▸ hk)
      rw [List.length_append, List.length_singleton]
      rw [show ints (aft G i ++ [m]) = ints (aft G i) ++ [.int .i64 (m : Int)] by simp [ints]]
      exact h2
    · rw [hat i e, aft_link_ne e]
      exact fr1.row (h.own i hi) fun k hk hkq => hkq.elim (fun e1 => hq i hi (e1 ▸ hk)) fun e1 => h.apart i n hi hnl e k hk e1
  · rw [linkG_len] at hi hj
    by_cases e : i = n
    · subst e
      rw [hself] at hb
      have e2 : j ≠ i := fun e => hij e.symm
      rw [hat j e2]
      rcases hv' with h1 | h1
      · exact h.apart i j hi hj hij b (h1 ▸ hb)
      · intro hk
        have := h1 b hb
        have := ((h.own j hj).lt b hk).2
        omega
    · rw [hat i e] at hb
      by_cases e2 : j = n
      · subst e2
        rw [hself]
        rcases hv' with h1 | h1
        · rw [h1]
          exact h.apart i j hi hj hij b hb
        · intro hk
          have := h1 b hk
          have := ((h.own i hi).lt b hb).2
          omega
      · rw [hat j e2]; exact h.apart i j hi hj hij b hb
  · rcases hk with hk | hk | ⟨i, hi, hk⟩
    · exact .inl (.inl hk)
    · exact .inl (.inr (.inl hk))
    · rw [List.length_set] at hi
      by_cases e : i = n
      · subst e
        rw [hself] at hk
        rcases hv' with h1 | h1
        · exact .inl (.inr (.inr ⟨i, hi, h1 ▸ hk⟩))
        · exact .inr (h1 k hk)
      · rw [hat i e] at hk
        exact .inl (.inr (.inr ⟨i, hi, hk⟩))
  · rcases hk with rfl | hk
    · exact .inl rfl
    · exact .inr (.inr ⟨n, by omega, hk⟩)
def ldM : Op := .load 31 (.tmp 47)
attribute [local go_sem ↓] Go.wp_at_zero Go.wp_at_succ ldM
set_option maxRecDepth 100000 in
set_option maxHeartbeats 4000000 in
theorem rlink (h : Rw B W va vg G N) (hG : GOk G) (hB : B ≤ W.heap.size) (a b : Int) :
    Calls Try.prog 16 #[.agg #[va, vg], .int .i64 a, .int .i64 b] W fun e w' => e = .returned (.tuple #[.agg #[va, vg], .int .i64 (linkBad G a b)]) ∧ Rz B W w' va vg N va vg (linkN G a b) := by
  obtain ⟨qa, qg, hr⟩ := h.rr
  have HH := Lib.hid hr
  have HW := Lib.hid h
  have HG := Lib.hid hG
  have hlen := hG.len
  have HX := Lib.hid (Bx.start W va vg)
  have HBW := Lib.hid hB
  have HBAD : Hid (∀ n : Int, n ≠ 0 → linkBad G a b = n → ∀ w, Below W.heap.size W w → Rz B W w va vg N va vg (linkN G a b)) := Lib.hid fun n hn he w hb => by
    unfold linkN
    rw [if_neg (by rw [he]; exact hn)]
    exact .of_below h hb
  obtain ⟨pa, ca, rfl, ha⟩ := hr.a
  obtain ⟨pg, cg, rfl, hg⟩ := hr.g
  have HA := Lib.hid ha
  clear h hG hr ha hg hB
  go_enter Try.func16, Try.ntmps16
  go_upto_region 1 with fail
  generalize (W.alloc (.cells #[.slice pa G.length ca, .slice pg G.length cg] 30)).alloc (.cells #[.slice none 0 0, .slice none 0 0] 30) = w1 at *
  have b0 : w1.cell? ⟨W.heap.size, 0, none⟩ = some (.slice pa G.length ca) := (obj_cell HX.out.b 0).trans rfl
  have b1 : w1.cell? ⟨W.heap.size, 1, none⟩ = some (.slice pg G.length cg) := (obj_cell HX.out.b 1).trans rfl
  obtain ⟨xa, hxa⟩ : ∃ xa, hasI G a = xa := ⟨_, rfl⟩
  have HXA := Lib.hid hxa
  clear hxa
  cases xa with
  | false =>
    have HE : Hid (linkBad G a b = 3) := Lib.hid (by unfold linkBad; rw [if_neg (fun e => by rw [HXA.out] at e; cases e.1)])
    go_upto_region 2 with (go_at_call 23; refine (rhas (HH.out.keep HX.out.lo) _ hlen).mono ?_; rintro e w2 ⟨rfl, hb⟩; rw [HXA.out]; have HX2 := Lib.hid (HX.out.keep hb); clear hb b0 b1)
    have b0 : w2.cell? ⟨W.heap.size, 0, none⟩ = some (.slice pa G.length ca) := (obj_cell HX2.out.b 0).trans rfl
    have b1 : w2.cell? ⟨W.heap.size, 1, none⟩ = some (.slice pg G.length cg) := (obj_cell HX2.out.b 1).trans rfl
    have r0 : w2.cell? ⟨W.heap.size + 1, 0, none⟩ = some (.slice none 0 0) := (obj_cell HX2.out.r 0).trans rfl
    have r1 : w2.cell? ⟨W.heap.size + 1, 1, none⟩ = some (.slice none 0 0) := (obj_cell HX2.out.r 1).trans rfl
    have f0 := obj_free HX2.out.r 0
    have f1 := obj_free HX2.out.r 1
    go_wp2_with fail
    refine bodyPost_ret (by simp [results, Try.results16, go_sem, r0, r1]; try rfl) rfl ?_
    rw [HE.out]
    exact ⟨rfl, HBAD.out 3 (by decide) HE.out _ ((HX2.out.lo.setCell (p := ⟨W.heap.size + 1, 0, none⟩) (by simp) _).setCell (p := ⟨W.heap.size + 1, 1, none⟩) (by simp) _)⟩
  | true =>
    obtain ⟨n, rfl, hn⟩ := hasI_yes HXA.out
    have HN := Lib.hid hn
    have hnl := has_lt hn
    obtain rfl := HA.out (by omega)
    clear hn
    have HHC : Hid (∀ w, Below W.heap.size W w → ∀ x, Calls Try.prog 23 #[.agg #[.slice (some ⟨qa, 0, none⟩) G.length ca, .slice pg G.length cg], .int .i64 x] w fun e w' => e = .returned (.bool (hasI G x)) ∧ Below w.heap.size w w') := Lib.hid fun w hb x => rhas (HH.out.keep hb) x hlen
    obtain ⟨xb, hxb⟩ : ∃ xb, hasI G b = xb := ⟨_, rfl⟩
    have HXB := Lib.hid hxb
    clear hxb
    have HBC : Hid (∀ w, Bx W w (.slice (some ⟨qa, 0, none⟩) G.length ca) (.slice pg G.length cg) (.slice none 0 0) (.slice none 0 0) → w.cell? ⟨W.heap.size, 0, none⟩ = some (.slice (some ⟨qa, 0, none⟩) G.length ca) ∧ w.cell? ⟨W.heap.size, 1, none⟩ = some (.slice pg G.length cg) ∧ w.cell? ⟨W.heap.size + 1, 0, none⟩ = some (.slice none 0 0) ∧ w.cell? ⟨W.heap.size + 1, 1, none⟩ = some (.slice none 0 0) ∧ w.frozen? ⟨W.heap.size + 1, 0, none⟩ = false ∧ w.frozen? ⟨W.heap.size + 1, 1, none⟩ = false) := Lib.hid fun w hx => ⟨(obj_cell hx.b 0).trans rfl, (obj_cell hx.b 1).trans rfl, (obj_cell hx.r 0).trans rfl, (obj_cell hx.r 1).trans rfl, obj_free hx.r 0, obj_free hx.r 1⟩
    cases xb with
    | false =>
      have HE : Hid (linkBad G (n : Int) b = 3) := Lib.hid (by unfold linkBad; rw [if_neg (fun e => by rw [HXB.out] at e; cases e.2)])
      go_upto_region 2 with (first
      | (go_at_call 23; refine (HHC.out _ HX2.out.lo _).mono ?_; rintro e w3 ⟨rfl, hb⟩; rw [HXB.out]; have HX3 := Lib.hid (HX2.out.keep hb); have e0 := (HBC.out _ HX3.out).1; have e1 := (HBC.out _ HX3.out).2.1; clear hb)
      | (go_at_call 23; refine (HHC.out _ HX.out.lo _).mono ?_; rintro e w2 ⟨rfl, hb⟩; rw [HXA.out]; have HX2 := Lib.hid (HX.out.keep hb); have d0 := (HBC.out _ HX2.out).1; have d1 := (HBC.out _ HX2.out).2.1; clear hb b0 b1))
      obtain ⟨c0, c1, r0, r1, f0, f1⟩ := HBC.out _ HX3.out
      go_wp2_with fail
      refine bodyPost_ret (by simp [results, Try.results16, go_sem, r0, r1]; try rfl) rfl ?_
      rw [HE.out]
      exact ⟨rfl, HBAD.out 3 (by decide) HE.out _ ((HX3.out.lo.setCell (p := ⟨W.heap.size + 1, 0, none⟩) (by simp) _).setCell (p := ⟨W.heap.size + 1, 1, none⟩) (by simp) _)⟩
    | true =>
      obtain ⟨m, rfl, hm⟩ := hasI_yes HXB.out
      have HM := Lib.hid hm
      have hml := has_lt hm
      have HXX : Hid (hasI G (n : Int) = true ∧ hasI G (m : Int) = true) := Lib.hid ⟨HXA.out, HXB.out⟩
      clear hm
      go_upto_region 3 with (first
      | (go_at_call 23; refine (HHC.out _ HX2.out.lo _).mono ?_; rintro e w3 ⟨rfl, hb⟩; rw [HXB.out]; have HX3 := Lib.hid (HX2.out.keep hb); have e0 := (HBC.out _ HX3.out).1; have e1 := (HBC.out _ HX3.out).2.1; clear hb)
      | (go_at_call 23; refine (HHC.out _ HX.out.lo _).mono ?_; rintro e w2 ⟨rfl, hb⟩; rw [HXA.out]; have HX2 := Lib.hid (HX.out.keep hb); have d0 := (HBC.out _ HX2.out).1; have d1 := (HBC.out _ HX2.out).2.1; clear hb b0 b1))
      clear d0 d1
      by_cases hnm : n = m
      · subst hnm
        have HE : Hid (linkBad G (n : Int) (n : Int) = 16) := Lib.hid (by unfold linkBad; rw [if_pos HXX.out, if_pos (.inl rfl)])
        clear e0 e1
        obtain ⟨c0, c1, r0, r1, f0, f1⟩ := HBC.out _ HX3.out
        go_wp2_with fail
        refine bodyPost_ret (by simp [results, Try.results16, go_sem, r0, r1]; try rfl) rfl ?_
        rw [HE.out]
        exact ⟨rfl, HBAD.out 16 (by decide) HE.out _ ((HX3.out.lo.setCell (p := ⟨W.heap.size + 1, 0, none⟩) (by simp) _).setCell (p := ⟨W.heap.size + 1, 1, none⟩) (by simp) _)⟩
      · have hne : ((n : Int) == (m : Int)) = false := by
          rw [beq_eq_false_iff_ne]
          exact fun e => hnm (Int.ofNat_inj.1 e)
        have hnp : ¬ ((n : Int) = (m : Int)) := fun e => hnm (Int.ofNat_inj.1 e)
        have HNM := Lib.hid hnm
        obtain ⟨rc, hrc⟩ : ∃ rc, rchB G m n = rc := ⟨_, rfl⟩
        have HRC := Lib.hid hrc
        clear hrc hnm
        have im0 : (0 : Int) ≤ (m : Int) := by omega
        have im1 : (m : Int) < (G.length : Int) := by omega
        have in0 : (0 : Int) ≤ (n : Int) := by omega
        have in1 : (n : Int) < (G.length : Int) := by omega
        have HAC : Hid (Calls Try.prog 20 #[.agg #[.slice (some ⟨qa, 0, none⟩) G.length ca, .slice pg G.length cg]] w3 fun e w' => ∃ qt ct rm, e = .returned (.slice (some ⟨qt, 0, none⟩) G.length ct) ∧ w'.cell? ⟨qt, m, none⟩ = some (.slice (some ⟨rm, 0, none⟩) G.length G.length) ∧ w'.cell? ⟨rm, n, none⟩ = some (.bool (rchB G m n)) ∧ Below w3.heap.size w3 w') := Lib.hid (by
          refine (rahead (HH.out.keep HX3.out.lo) HG.out).mono ?_
          rintro e w' ⟨v, rb, gb, rfl, ht⟩
          obtain ⟨qt, ct, rfl⟩ := row_slice ht.row (by omega)
          exact ⟨qt, ct, rb.getD m 0, rfl, ht.rowAt rfl hml, ht.cell hml hnl, ht.lo⟩)
        cases rc with
        | true =>
          have HE : Hid (linkBad G (n : Int) (m : Int) = 16) := Lib.hid (by unfold linkBad; rw [if_pos HXX.out, if_pos (.inr (rchB_iff.1 HRC.out))])
          go_upto_region 4 with (go_at_call 20; refine HAC.out.mono ?_; rintro e w4 ⟨qt, ct, rm, rfl, k1, k2, hb⟩; rw [HRC.out] at k2; have HX4 := Lib.hid (HX3.out.keep hb); clear hb e0 e1)
          obtain ⟨c0, c1, r0, r1, f0, f1⟩ := HBC.out _ HX4.out
          go_wp2_with fail
          refine bodyPost_ret (by simp [results, Try.results16, go_sem, r0, r1]; try rfl) rfl ?_
          rw [HE.out]
          exact ⟨rfl, HBAD.out 16 (by decide) HE.out _ ((HX4.out.lo.setCell (p := ⟨W.heap.size + 1, 0, none⟩) (by simp) _).setCell (p := ⟨W.heap.size + 1, 1, none⟩) (by simp) _)⟩
        | false =>
          have HR : Hid (¬ Rch G m n) := Lib.hid fun e => by rw [rchB_iff.2 e] at HRC; cases HRC.out
          have HR2 : Hid (¬ ((n : Int) = m ∨ Rch G (m : Int).toNat (n : Int).toNat)) := Lib.hid fun e => e.elim (fun e => HNM.out (Int.ofNat_inj.1 e)) HR.out
          go_upto_region 5 with (go_at_call 20; refine HAC.out.mono ?_; rintro e w4 ⟨qt, ct, rm, rfl, k1, k2, hb⟩; rw [HRC.out] at k2; have HX4 := Lib.hid (HX3.out.keep hb); clear hb e0 e1)
          have HK4 := Lib.hid (HH.out.keep HX4.out.lo)
          have ka := HK4.out.af n hnl
          have HNS := Lib.hid (HK4.out.ns n hnl)
          have HW4 := Lib.hid (HW.out.keep HX4.out.lo)
          have HOW := Lib.hid (HW4.out.own n hnl)
          have HLK : Hid (∀ (w6 : World) (v' : Value), w6.ownsRow 0 3 1 v' ((aft G n).length + 1) (ints (aft G n) ++ [.int .i64 (m : Int)]) → Frm (fun k => (N.getD n nilS).ownBlock = some k) w4 w6 → (v'.ownBlock = (N.getD n nilS).ownBlock ∨ ∀ k, v'.ownBlock = some k → w4.heap.size ≤ k) → Rz B w4 (w6.setCell ⟨qa, n, none⟩ v') (.slice (some ⟨qa, 0, none⟩) G.length ca) (.slice pg G.length cg) N (.slice (some ⟨qa, 0, none⟩) G.length ca) (.slice pg G.length cg) (linkG G n m)) := Lib.hid fun w6 v' a1 a2 a3 => HW4.out.link_at rfl HN.out (Nat.le_trans HBW.out HX4.out.lo.size) a1 a2 a3
          have HL : Hid ((aft G n).length ≤ 64) := Lib.hid (aft_len HG.out n)
          have HQN : Hid ((N.getD n nilS).ownBlock ≠ some qa ∧ qa < W.heap.size ∧ ∀ k, (N.getD n nilS).ownBlock = some k → k < W.heap.size) := Lib.hid ⟨row_t_ne HW.out.ra (HW.out.own n hnl) (by decide) rfl, (HW.out.ra.lt qa rfl).2, fun k hk => ((HW.out.own n hnl).lt k hk).2⟩
          rw [show (N.getD n (.slice none 0 0)) = N.getD n nilS from rfl] at ka HNS
          generalize N.getD n nilS = vn at *
          obtain ⟨pv, cv, rfl, hpv⟩ := HNS.out
          clear hpv
          obtain ⟨e0, e1, r0, r1, f0, f1⟩ := HBC.out _ HX4.out
          obtain ⟨ia, hia⟩ : ∃ ia, inI (aft G n) (m : Int) = ia := ⟨_, rfl⟩
          have HIA := Lib.hid hia
          clear hia
          cases ia with
          | true =>
            have HE : Hid (linkBad G (n : Int) (m : Int) = 4) := Lib.hid (by unfold linkBad; rw [if_pos HXX.out, if_neg HR2.out, if_pos (show (m : Int).toNat ∈ aft G (n : Int).toNat by have := HIA.out; rw [inI_nat] at this; exact of_decide_eq_true this)])
            go_wp2_with (go_at_call 34; refine (gin HNS.out _ (Nat.le_trans HL.out (by decide))).mono ?_; rintro e w5 ⟨rfl, rfl⟩; rw [HIA.out])
            refine bodyPost_ret (by simp [results, Try.results16, go_sem, r0, r1]; try rfl) rfl ?_
            rw [HE.out]
            exact ⟨rfl, HBAD.out 4 (by decide) HE.out _ ((HX4.out.lo.setCell (p := ⟨W.heap.size + 1, 0, none⟩) (by simp) _).setCell (p := ⟨W.heap.size + 1, 1, none⟩) (by simp) _)⟩
          | false =>
            have HE : Hid (linkBad G (n : Int) (m : Int) = 0) := Lib.hid (by unfold linkBad; rw [if_pos HXX.out, if_neg HR2.out, if_neg (show ¬ (m : Int).toNat ∈ aft G (n : Int).toNat by have := HIA.out; rw [inI_nat] at this; exact of_decide_eq_false this)])
            have HLN : Hid (linkN G (n : Int) (m : Int) = linkG G n m) := Lib.hid (by unfold linkN; rw [if_pos HE.out]; rfl)
            obtain ⟨i0, hi, hz0, hz1, hz2⟩ := info_parts infoN
            have hal : (aft G n).length ≤ 64 := HL.out
            go_upto_region 7 with (go_at_call 34; refine (gin HNS.out _ (Nat.le_trans HL.out (by decide))).mono ?_; rintro e w5 ⟨rfl, rfl⟩; rw [HIA.out])
            have kd0 : w4.drew.cell? ⟨W.heap.size, 0, none⟩ = _ := e0
            have kda : w4.drew.cell? ⟨qa, n, none⟩ = _ := ka
            have nn : ∀ o, (w4.alloc o).cell? ⟨qa, n, none⟩ = _ := fun o => keepc (balloc (Below.refl _ _) o) ka
            have fqa := HW4.out.fa rfl n
            have HFQ : Hid (∃ cs, w4.heap[qa]? = some (.cells cs 31 (0, 0))) := Lib.hid (ownsRow_obj HW4.out.ra rfl)
            have HSR := Lib.hid (HOW.out.drew)
            rw [show (Op.load 31 (.tmp 47) : Op) = ldM from rfl]
            go_region_held3 (fun w' => w'.cell? ⟨W.heap.size, 0, none⟩ = some (.slice (some ⟨qa, 0, none⟩) G.length ca)) (first | assumption | exact kd0 | exact keepc (balloc (Below.refl _ _) _) kd0 | exact jq _ | go_simp) (first
              | (refine step_append_row (by rfl) (.tmp 48) (.tmp 50) 31 (by rfl) 3 i0 (.int .i64 0) 1 8 Try.underlying31 hi hz0 hz1 hz2 (by rfl) (by decide) (.slice pv (aft G n).length cv) (aft G n).length _ (by rfl) (row_base (HSR.out.alloc _) (Nat.zero_le _)) ⟨_, 0, none⟩ 1 1 [.int .i64 (m : Int)] (by rfl) (by rfl) (one_cell _ _ _) (fun x hx => by simp at hx; subst hx; rfl) (by unfold maxLen; omega) (by omega) ?_; intro v' w6 hown hf hv; have hf2 : Frm (fun k => (Value.slice pv (aft G n).length cv).ownBlock = some k) w4 w6 := ((Frm.refl _ w4).alloc _).trans ⟨hf.os, hf.tape, hf.output, hf.size, hf.block⟩; have HF := Lib.hid (HLK.out w6 v' hown hf2 (hv.imp id fun hv k hk => Nat.le_trans (by simp) (hv k hk))); have HBX := Lib.hid (HX4.out.frm hf2 (fun k hk => HQN.out.2.2 k hk)); have j0 : w6.cell? ⟨W.heap.size, 0, none⟩ = _ := (obj_cell HBX.out.1 0).trans rfl; have jq : ∀ u, (w6.setCell ⟨qa, n, none⟩ u).cell? ⟨W.heap.size, 0, none⟩ = some (.slice (some ⟨qa, 0, none⟩) G.length ca) := (fun u => ((Frm.refl (fun k => k = qa) w6).setCell (p := ⟨qa, n, none⟩) rfl u).cell j0 (by have := HQN.out.2.1; omega)); have j1 := hf2.cell ka HQN.out.1; have j2 : w6.frozen? ⟨qa, n, none⟩ = false := obj_free (hf2.obj HFQ.out.choose_spec HQN.out.1) _; obtain ⟨p6, c6, rfl, -⟩ := row_form hown; clear hown hf hv hf2))
            all_goals
              have HZ : Hid (Frm (fun k => k = qa) w6 (w6.setCell ⟨qa, n, none⟩ (.slice p6 ((aft G n).length + 1) c6))) := Lib.hid ((Frm.refl (fun k => k = qa) w6).setCell (p := ⟨qa, n, none⟩) rfl _)
              have z1 := HZ.out.obj HBX.out.1 (fun e => by have := HQN.out.2.1; omega)
              have z2 := HZ.out.obj HBX.out.2 (fun e => by have := HQN.out.2.1; omega)
              generalize w6.setCell ⟨qa, n, none⟩ (.slice p6 ((aft G n).length + 1) c6) = w7 at *
              have y0 : w7.cell? ⟨W.heap.size, 0, none⟩ = some (.slice (some ⟨qa, 0, none⟩) G.length ca) := (obj_cell z1 0).trans rfl
              have y1 : w7.cell? ⟨W.heap.size, 1, none⟩ = some (.slice pg G.length cg) := (obj_cell z1 1).trans rfl
              have x0 : w7.cell? ⟨W.heap.size + 1, 0, none⟩ = some (.slice none 0 0) := (obj_cell z2 0).trans rfl
              have x1 : w7.cell? ⟨W.heap.size + 1, 1, none⟩ = some (.slice none 0 0) := (obj_cell z2 1).trans rfl
              have g0 := obj_free z2 0
              have g1 := obj_free z2 1
              clear z1 z2
              go_wp2_with fail
              refine bodyPost_ret (by simp [results, Try.results16, go_sem, x0, x1]; try rfl) rfl ?_
              rw [HE.out, HLN.out]
              exact ⟨rfl, Rz.ret HW.out HX4.out.lo (lt_of_block HX4.out.r) HF.out (((Frm.refl (fun k => k = W.heap.size + 1) w7).setCell (p := ⟨W.heap.size + 1, 0, none⟩) rfl _).setCell (p := ⟨W.heap.size + 1, 1, none⟩) rfl _)⟩
end
end Go.Proofs.Ytggjimeligbmcab
