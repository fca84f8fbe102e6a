/-
  GraphOrders, walked. Conditions: as the statement has them.
-/
import Derived.Test.YtggjimeligbmcabGr19
namespace Go.Proofs.Ytggjimeligbmcab
open Go.RowKit
set_option linter.unusedVariables false

theorem getD_memN {l : List Nat} {j : Nat} (h : j < l.length) : l.getD j 0 ∈ l := by
  rw [List.getD_eq_getElem?_getD, List.getElem?_eq_getElem h]
  exact List.getElem_mem _
/-! Where each stands -/
def posT (l : List Nat) : Nat → Nat := fun x => if x ∈ l then l.idxOf x + 1 else 0
theorem posT_nil : posT [] = fun _ => 0 := by
  funext x
  simp [posT]
theorem posT_snoc {l : List Nat} {x : Nat} (h : x ∉ l) : setD (posT l) x (l.length + 1) = posT (l ++ [x]) := by
  funext y
  by_cases e : y = x
  · subst e
    rw [setD_self]
    unfold posT
    rw [if_pos (by simp), List.idxOf_append, if_neg h]
    simp
  · rw [setD_ne _ _ e]
    unfold posT
    by_cases hy : y ∈ l
    · rw [if_pos hy, if_pos (by simp [hy]), List.idxOf_append, if_pos hy]
    · rw [if_neg hy, if_neg (by simp [hy, e])]
theorem posT_zero {l : List Nat} {x : Nat} (h : x ∉ l) : posT l x = 0 := by
  unfold posT
  rw [if_neg h]
theorem posT_pos {l : List Nat} {x : Nat} (h : x ∈ l) : 0 < posT l x := by
  unfold posT
  rw [if_pos h]
  omega
theorem posT_le (l : List Nat) (x : Nat) : posT l x ≤ l.length := by
  unfold posT
  split
  · exact List.idxOf_lt_length_of_mem (by assumption)
  · omega
theorem posT_edge {G : List Nd} (hG : GOk G) {x a : Nat} (h : a ∈ aft G x) : posT (ordG G) a < posT (ordG G) x := by
  have hx := hG.has h
  obtain ⟨p, s, e⟩ := List.append_of_mem (ordG_all hG hx)
  have hp := (ordG_ok G).pre p x s e a h
  have hnd := (ordG_ok G).nod
  rw [e] at hnd
  have hxp : x ∉ p := fun hm => (List.nodup_append.1 hnd).2.2 _ hm _ (List.mem_cons_self) rfl
  rw [e]
  unfold posT
  rw [if_pos (by simp [hp]), if_pos (by simp), List.idxOf_append, if_pos hp, List.idxOf_append, if_neg hxp]
  have := List.idxOf_lt_length_of_mem hp
  simp
  omega
theorem posT_rch {G : List Nd} (hG : GOk G) {x a : Nat} (h : Rch G x a) : posT (ordG G) a < posT (ordG G) x := by
  induction h with
  | one ha => exact posT_edge hG ha
  | more ha _ ih => exact Nat.lt_trans ih (posT_edge hG ha)
theorem rchL_mem {G : List Nd} (hG : GOk G) {n a : Nat} : a ∈ rchL G n 64 ↔ Rch G n a := by
  unfold rchL
  rw [List.mem_filter, rchB_iff, List.mem_range]
  exact ⟨fun h => h.2, fun h => ⟨by have := has_lt (hG.rch_has h); have := hG.len; omega, h⟩⟩
theorem rchI_nat {G : List Nd} (hG : GOk G) (k : Nat) : rchI G (k : Int) = rchL G k 64 := by
  unfold rchI
  rw [hasI_nat]
  cases h : hasB G k
  · rw [if_neg (by decide)]
    symm
    unfold rchL
    rw [List.filter_eq_nil_iff]
    intro a _ ha
    have hr := rchB_iff.1 ha
    cases hr with
    | one h2 => rw [hG.off k h] at h2; cases h2
    | more h2 _ => rw [hG.off k h] at h2; cases h2
  · rfl
theorem rchL_len (G : List Nd) (n : Nat) : (rchL G n 64).length ≤ 64 := filter_len _ 64
section
variable {W : World} {v : Value} {n : Nat} {z : Nat → OpD}
structure OrdB (G : List Nd) (X w : World) (ab : Nat) (v : Value) (i : Nat) : Prop where
  k : Dk w ab (posT ((ordG G).take i))
  f : FL X w v (ordG G)
  lo : X.heap.size ≤ ab
set_option maxRecDepth 100000 in
set_option maxHeartbeats 4000000 in
theorem gorders_walk (hO : OpsG W v n z) : Calls Try.prog 4 #[v] W fun e w' => e = .returned (.bool true) ∧ Below W.heap.size W w' := by
  have HO := Lib.hid hO
  obtain ⟨p, cap, rfl, -, -⟩ := hO
  cases hs : smB n z with
  | false =>
    have HS := Lib.hid hs
    clear hs
    go_enter Try.func4, Try.ntmps4
    go_wp2_with (first
      | (go_at_call 9; refine (gsmallB HO.out).mono ?_; rintro e w1 ⟨rfl, hb⟩; rw [HS.out]; have HB := Lib.hid hb; clear hb)
      | (go_at_call 10; refine (awake13 _).mono ?_; rintro e w2 ⟨rfl, hb⟩; have HB2 := Lib.hid hb; clear hb))
    go_ret
    exact ⟨rfl, bthen HB.out HB2.out⟩
  | true =>
    have HS := Lib.hid hs
    clear hs
    have HOK := Lib.hid (runG_ok z n)
    have hlen := HOK.out.len
    generalize hG : runG z n = G at *
    go_enter Try.func4, Try.ntmps4
    go_wp2_with (first
      | (go_at_call 9; refine (gsmallB HO.out).mono ?_; rintro e w1 ⟨rfl, hb⟩; rw [HS.out]; have HB := Lib.hid hb; clear hb)
      | (go_at_call 33; refine (gbegun (HO.out.keep HB.out) HS.out).mono ?_; rintro e w2 ⟨g, rfl, hm⟩; rw [hG] at hm; have HM := Lib.hid hm; have HB2 : Hid (Below W.heap.size W w2) := Lib.hid (bthen HB.out hm.2); clear hm)
      | (refine wpList_alloc_deep 4 rfl rfl rfl ?_; intro w3 hm1 hb1 hs1; have HD3 := Lib.hid hm1; have HB3 := Lib.hid hb1; clear hm1 hb1 hs1; simp only [Act.put, List.setIfInBounds_toArray, List.set_cons_zero, List.set_cons_succ])
      | (go_at_call 31; refine (gm_order (HM.out.keep HB3.out) HOK.out).mono ?_; rintro e w4 ⟨lv, rfl, hf⟩; have HF := Lib.hid hf; obtain ⟨lp, lc, rfl, hlr⟩ := row_form hf.1; clear hf hlr))
    clear hG
    have HJ0 : Hid (∃ ab, ab = w2.heap.size ∧ OrdB G w2 w4 ab (.slice lp (ordG G).length lc) 0) := Lib.hid ⟨_, rfl, by rw [List.take_zero, posT_nil]; exact HD3.out.keep HF.out.2, ⟨row_base HF.out.1 HB3.out.size, bthen HB3.out HF.out.2⟩, Nat.le_refl _⟩
    obtain ⟨ab, eab, hj0⟩ := HJ0.out
    have HJ0 := Lib.hid hj0
    rw [← eab]
    clear hj0 eab HD3 HB3 HF
    have HOL : Hid ((ordG G).length ≤ 64) := Lib.hid (by have := (ordG_ok G).len; omega)
    generalize hon : (ordG G).length = on at *
    have HON := Lib.hid hon
    have hon64 : on ≤ 64 := HOL.out
    clear hon
    go_loopw [19] (fun iv wl => ∃ i : Nat, i ≤ on ∧ iv = .int .i64 i ∧ Hid (OrdB G w2 wl ab (.slice lp on lc) i)) (fun iv _ => on - (intOf iv).toNat)
    case atStart => exact ⟨0, Nat.zero_le _, rfl, HJ0⟩
    case round =>
      clear HJ0
      obtain ⟨i, hi, rfl, HJ⟩ := hrel
      by_cases hlt : i < on
      · have hix : ∃ b off, lp = some ⟨b, off, none⟩ ∧ wr.cell? ⟨b, off + i, none⟩ = some (.int .i64 (((ordG G).getD i 0 : Nat) : Int)) := by
          have h1 := HJ.out.f.ints
          rw [← HON.out] at h1
          exact h1.at_ (by rw [HON.out]; exact hlt)
        obtain ⟨b, off, rfl, cj⟩ := hix
        have e := ord_split (l := ordG G) (n := i) (by rw [HON.out]; exact hlt)
        have HYM : Hid ((ordG G).getD i 0 ∈ ordG G) := Lib.hid (getD_memN (by rw [HON.out]; exact hlt))
        have HYN : Hid ((ordG G).getD i 0 ∉ (ordG G).take i) := Lib.hid fun hm => by
          have hnd := (ordG_ok G).nod
          rw [e] at hnd
          exact (List.nodup_append.1 hnd).2.2 _ hm _ (List.mem_cons_self) rfl
        have HT : Hid ((ordG G).take (i + 1) = (ordG G).take i ++ [(ordG G).getD i 0]) := Lib.hid (take_snoc (by rw [HON.out]; exact hlt))
        clear e
        generalize (ordG G).getD i 0 = y at *
        have HHY : Hid (hasI G (y : Int) = true) := Lib.hid (by rw [hasI_nat]; exact (ordG_ok G).inn y HYM.out)
        have hy64 : y < 64 := by have := has_lt ((ordG_ok G).inn y HYM.out); omega
        have cy := HJ.out.k.cell hy64
        rw [posT_zero HYN.out] at cy
        have fy := HJ.out.k.free y
        have d1 : decide ((63 : Int) < (y : Int)) = false := decide_eq_false (by omega)
        have HX : Hid (OrdB G w2 (wr.setCell ⟨ab, y, none⟩ (.int .i64 ((i : Int) + 1))) ab (.slice (some ⟨b, off, none⟩) on lc) (i + 1)) := Lib.hid (by
          refine ⟨?_, dset_fl HJ.out.f HJ.out.k HJ.out.lo _ _, HJ.out.lo⟩
          have h1 := HJ.out.k.set (v := i + 1) hy64
          rw [HT.out, ← posT_snoc HYN.out]
          rw [show ((ordG G).take i).length = i by rw [List.length_take, HON.out]; omega]
          have e2 : ((i : Int) + 1) = ((i + 1 : Nat) : Int) := by omega
          rw [e2]
          exact h1)
        have HMW := Lib.hid (HM.out.keep HJ.out.f.2)
        go_wp2_with (go_at_call 22; refine (gm_has HMW.out _).mono ?_; rintro e w5 ⟨rfl, rfl⟩; rw [HHY.out])
        exact ⟨⟨i + 1, by omega, by go_num, HX⟩, by simp [intOf]; omega⟩
      · obtain rfl : i = on := by omega
        have HMW := Lib.hid (HM.out.keep HJ.out.f.2)
        have HDK : Hid (Dk wr ab (posT (ordG G))) := Lib.hid (by
          have := HJ.out.k
          rwa [← HON.out, List.take_length] at this)
        have d1 : decide ((64 : Int) < (G.length : Int)) = false := decide_eq_false (by omega)
        have HLO := Lib.hid HJ.out.lo
        have HBJ := Lib.hid HJ.out.f.2
        generalize wr = w6 at *
        go_wp2_with (go_at_call 19; refine (gm_len HMW.out).mono ?_; rintro e w3 ⟨rfl, rfl⟩)
        go_loopw [52] (fun kv wl => ∃ k : Nat, k ≤ G.length ∧ kv = .int .i64 k ∧ Hid (Below w6.heap.size w6 wl)) (fun kv _ => G.length - (intOf kv).toNat)
        case atStart => exact ⟨0, Nat.zero_le _, rfl, Lib.hid (Below.refl _ _)⟩
        case round =>
          obtain ⟨k, hk, rfl, HK⟩ := hrel
          by_cases hkl : k < G.length
          · have HMR := Lib.hid (HMW.out.keep HK.out)
            have hk64 : k < 64 := by omega
            have HDR := Lib.hid (HDK.out.keep HK.out)
            have ck := HDR.out.cell hk64
            have HAT : Hid (decide ((0 : Int) < (posT (ordG G) k : Int)) = hasB G k) := Lib.hid (by
              rw [Bool.eq_iff_iff, decide_eq_true_eq, ← ordG_mem HOK.out]
              constructor
              · intro h
                rcases Classical.em (k ∈ ordG G) with hm | hm
                · exact hm
                · rw [posT_zero hm] at h
                  omega
              · intro h
                have := posT_pos h
                omega)
            have HHI : Hid (hasI G (k : Int) = hasB G k) := Lib.hid (hasI_nat G k)
            have HRI := Lib.hid (rchI_nat HOK.out k)
            have HIN : Hid (inI (rchL G k 64) (k : Int) = false) := Lib.hid (by
              rw [inI_nat]
              exact decide_eq_false fun hm => HOK.out.irr k ((rchL_mem HOK.out).1 hm))
            have HRL := Lib.hid (rchL_len G k)
            have HEL : Hid (∀ j, j < (rchL G k 64).length → (rchL G k 64).getD j 0 < 64 ∧ posT (ordG G) ((rchL G k 64).getD j 0) ≠ 0 ∧ posT (ordG G) ((rchL G k 64).getD j 0) < posT (ordG G) k) := Lib.hid fun j hj => by
              have hr := (rchL_mem HOK.out).1 (getD_memN hj)
              have hh := HOK.out.rch_has hr
              have h1 := has_lt hh
              have h2 := posT_pos ((ordG_mem HOK.out _).2 hh)
              exact ⟨by omega, by omega, posT_rch HOK.out hr⟩
            have dk := HAT.out
            generalize hasB G k = hb at *
            obtain ⟨pk, hpk⟩ : ∃ pk, pk = posT (ordG G) k := ⟨_, rfl⟩
            have HPK := Lib.hid hpk.symm
            rw [← hpk] at ck dk HEL
            clear hpk
            have dk2 : decide (0 < pk) = hb := by rw [← dk, Bool.eq_iff_iff, decide_eq_true_eq, decide_eq_true_eq]; omega
            have ik0 : (0 : Int) ≤ (k : Int) := by omega
            have ik1 : (k : Int) < 64 := by omega
            cases hb
            all_goals
              go_upto_region 17 with fail
              have HMD := Lib.hid (HMR.out.keep (Below.drew (Below.refl _ _)))
              have kd : wr.drew.cell? ⟨ab, k, none⟩ = some (.int .i64 (pk : Int)) := ck
              have HKD := Lib.hid (bthen HK.out (Below.drew (Below.refl _ wr)))
              go_region_held3 (fun w' => w'.cell? ⟨ab, k, none⟩ = some (.int .i64 (pk : Int))) (first | assumption | exact kd | exact keepc (by assumption) kd | go_simp) (first
                | (go_at_call 22; refine (gm_has HMD.out _).mono ?_; rintro e w3 ⟨rfl, rfl⟩; rw [HHI.out])
                | (go_at_call 25; refine (gm_reach HMD.out HOK.out _).mono ?_; rintro e w8 ⟨v8, rfl, hf⟩; rw [HRI.out] at hf; have HF8 := Lib.hid hf; have c8 := keepc hf.2 kd; have HK8 := Lib.hid (bthen HKD.out hf.2); obtain ⟨p8, k8, rfl, -⟩ := row_form hf.1; clear hf)
                | (go_at_call 34; refine (gin HF8.out.ints _ (Nat.le_trans HRL.out (by decide))).mono ?_; rintro e w9 ⟨rfl, rfl⟩; rw [HIN.out]))
              go_wp2_with (go_at_call 25; refine (gm_reach (HMW.out.keep HK8.out) HOK.out _).mono ?_; rintro e w10 ⟨v10, rfl, hf⟩; rw [HRI.out] at hf; have HF10 := Lib.hid hf; have HK10 := Lib.hid (bthen HK8.out hf.2); obtain ⟨p10, k10, rfl, -⟩ := row_form hf.1; clear hf)
              have hrl : (rchL G k 64).length ≤ 64 := HRL.out
              clear ck c8 kd
              go_loopw [74] (fun jv wl => ∃ j : Nat, j ≤ (rchL G k 64).length ∧ jv = .int .i64 j ∧ Hid (FL w8 wl (.slice p10 (rchL G k 64).length k10) (rchL G k 64) ∧ Below w6.heap.size w6 wl)) (fun jv _ => (rchL G k 64).length - (intOf jv).toNat)
              case atStart => exact ⟨0, Nat.zero_le _, rfl, Lib.hid ⟨HF10.out, HK10.out⟩⟩
              case round =>
                obtain ⟨j, hj, rfl, HR⟩ := hrel
                by_cases hjl : j < (rchL G k 64).length
                · obtain ⟨b, off, rfl, cj⟩ := HR.out.1.ints.at_ hjl
                  obtain ⟨ha64, ha0, hap⟩ := HEL.out j hjl
                  have ca := (HDK.out.keep HR.out.2).cell ha64
                  have ckk := (HDK.out.keep HR.out.2).cell hk64
                  rw [HPK.out] at ckk
                  generalize (rchL G k 64).getD j 0 = a at *
                  generalize posT (ordG G) a = pa at *
                  have da0 : ((pa : Int) == 0) = false := by
                    rw [beq_eq_false_iff_ne]
                    omega
                  have dap : decide ((pk : Int) ≤ (pa : Int)) = false := decide_eq_false (by omega)
                  have da63 : decide ((63 : Int) < (a : Int)) = false := decide_eq_false (by omega)
                  have da0n : (pa == 0) = false := by
                    rw [beq_eq_false_iff_ne]
                    exact ha0
                  have dapn : decide (pk ≤ pa) = false := decide_eq_false (by omega)
                  have da63n : decide (63 < a) = false := decide_eq_false (by omega)
                  have ia0 : (0 : Int) ≤ (a : Int) := by omega
                  have ia1 : (a : Int) < 64 := by omega
                  go_upto_region 22 with fail
                  go_quiet (fail)
                  go_wp2_with fail
                  exact ⟨⟨j + 1, by omega, by go_num, Lib.hid ⟨HR.out.1.keep (drewB (Below.refl _ _) _), drewB HR.out.2 _⟩⟩, by simp [intOf]; omega⟩
                · obtain rfl : j = (rchL G k 64).length := by omega
                  go_wp2_with fail
                  exact ⟨⟨k + 1, by omega, by go_num, Lib.hid HR.out.2⟩, by simp [intOf]; omega⟩
          · obtain rfl : k = G.length := by omega
            go_wp2_with (go_at_call 10; refine (awake13 _).mono ?_; rintro e w7 ⟨rfl, hb⟩; have HB7 := Lib.hid hb; clear hb)
            go_ret
            exact ⟨rfl, bthen HB2.out (bthen HBJ.out (bthen HK.out HB7.out))⟩
end
end Go.Proofs.Ytggjimeligbmcab
