/-
  The document's table of who is ahead of whom, walked. Conditions: a graph in which nobody is behind itself.
-/
import Derived.Test.YtggjimeligbmcabGr32
namespace Go.Proofs.Ytggjimeligbmcab
open Go.RowKit
set_option linter.unusedVariables false

theorem upd_aft {l : List Nat} {k : Nat} (h : k < l.length) : upd (fun x => decide (x ∈ l.take k)) (l.getD k 0) = fun x => decide (x ∈ l.take (k + 1)) := by
  funext y
  rw [take_snoc h]
  unfold upd
  rw [Bool.eq_iff_iff]
  by_cases e : y = l.getD k 0
  · rw [if_pos e]; simp [e]
  · rw [if_neg e, decide_eq_true_eq, decide_eq_true_eq, List.mem_append, List.mem_singleton]
    exact ⟨.inl, fun h => h.resolve_right e⟩
section
variable {W w w' : World} {va vg : Value} {G : List Nd} {qa qg : Nat} {S : List Value}
set_option maxRecDepth 100000 in
set_option maxHeartbeats 4000000 in
theorem rahead (h : Rr W va vg G qa qg S) (hG : GOk G) :
    Calls Try.prog 20 #[.agg #[va, vg]] W fun e w' => ∃ v rb gb, e = .returned v ∧ Tb W w' gb va vg G.length G.length v rb (rchB G) := by
  have HH := Lib.hid h
  have HG := Lib.hid hG
  have hlen := hG.len
  obtain ⟨pa, ca, rfl, ha⟩ := h.a
  obtain ⟨pg, cg, rfl, hg⟩ := h.g
  have HA := Lib.hid ha
  have hmk := run_make_row' (P := Try.prog) 28 4 (.bool false) 1 Try.underlying28 infoB rfl .i64 .i64 G.length (by omega) (by omega)
  rw [made_bools] at hmk
  obtain ⟨iR, jr, jr0, jr1, jr2⟩ := info_parts (show (Try.prog.info? 28).map (fun i => (i.zero, i.size, i.bytes)) = some (some (.slice none 0 0), 1, 24) by kernel_rfl)
  clear h hG ha hg
  go_enter Try.func20, Try.ntmps20
  go_wp2_with fail
  have HT0 : Hid (∃ gb, gb = W.heap.size ∧ Tb W (W.alloc (.cells #[.slice pa G.length ca, .slice pg G.length cg] 30)) gb (.slice pa G.length ca) (.slice pg G.length cg) G.length 0 (.slice none 0 0) [] (fun i j => decide (j ∈ aft G i))) := Lib.hid ⟨_, rfl, World.ownsRow_nil _ _ _ _, fun j hj => absurd hj (Nat.not_lt_zero _), fun j hj => absurd hj (Nat.not_lt_zero _), List.nodup_nil, obj_new _ _, balloc (Below.refl _ _) _⟩
  obtain ⟨gb, eg, ht⟩ := HT0.out
  have HT0 := Lib.hid ht
  rw [← eg]
  clear ht eg
  generalize W.alloc (.cells #[.slice pa G.length ca, .slice pg G.length cg] 30) = w1 at *
  go_loopw [4, 5] (fun tv iv wl => ∃ i : Nat, i ≤ G.length ∧ iv = .int .i64 i ∧ Hid (∃ rb, Tb W wl gb (.slice pa G.length ca) (.slice pg G.length cg) G.length i tv rb (fun i j => decide (j ∈ aft G i)))) (fun _ iv _ => G.length - (intOf iv).toNat)
  case atStart => exact ⟨0, Nat.zero_le _, rfl, Lib.hid ⟨_, HT0.out⟩⟩
  case round =>
    clear HT0
    obtain ⟨i, hi, rfl, HTE⟩ := hrel
    obtain ⟨rb, ht⟩ := HTE.out
    have HT := Lib.hid ht
    clear ht HTE
    obtain ⟨pt, ct, rfl, -⟩ := row_form HT.out.row
    by_cases hil : i < G.length
    · obtain rfl := HA.out (by omega)
      have hal : (aft G i).length ≤ 64 := aft_len HG.out i
      go_wp2_with fail
      have HN0 : Hid (∃ nb, nb = wr.heap.size ∧ Tb W (wr.alloc (.cells (mkB G.length fun _ => false) 4)) gb (.slice (some ⟨qa, 0, none⟩) G.length ca) (.slice pg G.length cg) G.length i (.slice pt i ct) rb (fun i j => decide (j ∈ aft G i)) ∧ (wr.alloc (.cells (mkB G.length fun _ => false) 4)).heap[nb]? = some (.cells (mkB G.length fun x => decide (x ∈ (aft G i).take 0)) 4 (0, 0)) ∧ W.heap.size ≤ nb ∧ ∀ j, j < i → rb.getD j 0 ≠ nb) := Lib.hid ⟨_, rfl, HT.out.keep (balloc (Below.refl _ _) _), by
        have := obj_new wr (.cells (mkB G.length fun _ => false) 4)
        rw [this]
        congr 2, HT.out.lo.size, fun j hj e => by
        have := lt_of_block (HT.out.cells j hj)
        omega⟩
      obtain ⟨nb, enb, hn1, hn2, hn3, hn4⟩ := HN0.out
      have HN1 := Lib.hid hn1
      have HN2 := Lib.hid hn2
      have HN3 := Lib.hid (And.intro hn3 hn4)
      rw [← enb]
      clear hn1 hn2 hn3 hn4 enb HN0 HT
      generalize wr.alloc (.cells (mkB G.length fun _ => false) 4) = w2 at *
      go_loopw [7] (fun kv wl => ∃ k : Nat, k ≤ (aft G i).length ∧ kv = .int .i64 k ∧ Hid (Tb W wl gb (.slice (some ⟨qa, 0, none⟩) G.length ca) (.slice pg G.length cg) G.length i (.slice pt i ct) rb (fun i j => decide (j ∈ aft G i)) ∧ wl.heap[nb]? = some (.cells (mkB G.length fun x => decide (x ∈ (aft G i).take k)) 4 (0, 0)))) (fun kv _ => (aft G i).length - (intOf kv).toNat)
      case atStart => exact ⟨0, Nat.zero_le _, rfl, Lib.hid ⟨HN1.out, HN2.out⟩⟩
      case round =>
        clear HN1 HN2
        obtain ⟨k, hk, rfl, HK⟩ := hrel
        have cb : wr.cell? ⟨gb, 0, none⟩ = some (.slice (some ⟨qa, 0, none⟩) G.length ca) := (obj_cell HK.out.1.b 0).trans rfl
        have HRR := Lib.hid (HH.out.keep HK.out.1.lo)
        have ca1 := HRR.out.af i hil
        have HNS := Lib.hid (HRR.out.ns i hil)
        generalize S.getD i (.slice none 0 0) = v1 at *
        obtain ⟨pv, cv, rfl, hpv⟩ := HNS.out
        clear hpv
        by_cases hkl : k < (aft G i).length
        · obtain ⟨b, off, rfl, ck⟩ := HNS.out.at_ hkl
          have HAM : Hid ((aft G i).getD k 0 ∈ aft G i) := Lib.hid (getD_memN hkl)
          have hal2 : (aft G i).getD k 0 < G.length := HG.out.aft_lt HAM.out
          have HUP := Lib.hid (upd_aft hkl)
          generalize (aft G i).getD k 0 = a at *
          have c1 := (obj_cell HK.out.2 a).trans (mkB_at G.length _ hal2)
          have fr := obj_free HK.out.2 a
          have HX : Hid (Tb W (wr.setCell ⟨nb, a, none⟩ (.bool true)) gb (.slice (some ⟨qa, 0, none⟩) G.length ca) (.slice pg G.length cg) G.length i (.slice pt i ct) rb (fun i j => decide (j ∈ aft G i)) ∧ (wr.setCell ⟨nb, a, none⟩ (.bool true)).heap[nb]? = some (.cells (mkB G.length fun x => decide (x ∈ (aft G i).take (k + 1))) 4 (0, 0))) := Lib.hid ⟨HK.out.1.other HK.out.2 HN3.out.1 HN3.out.2 _ _, by
            rw [← HUP.out, ← mkB_set _ _ hal2]
            exact obj_setCell (i := a) (.bool true) HK.out.2⟩
          go_wp2_with fail
          exact ⟨⟨k + 1, by omega, by go_num, HX⟩, by simp [intOf]; omega⟩
        · obtain rfl : k = (aft G i).length := by omega
          have HKE : Hid (wr.heap[nb]? = some (.cells (mkB G.length fun j => decide (j ∈ aft G i)) 4 (0, 0))) := Lib.hid (by have := HK.out.2; rwa [List.take_length] at this)
          go_wp2_with (at_builtin; refine wpList_append_row rfl _ _ 46 rfl 28 iR (.slice none 0 0) 1 24 Try.underlying46 jr jr0 jr1 jr2 rfl (by decide) (.slice pt i ct) i _ rfl (row_base ((HK.out.1.keep (balloc (Below.refl _ _) _)).row) (Nat.zero_le _)) ⟨wr.heap.size, 0, none⟩ 1 1 [rowV G.length nb] rfl rfl (one_cell _ _ _) (fun x hx => by simp at hx; subst hx; rfl) (by unfold maxLen; omega) (by omega) ?_; intro v' w4 hown hf hv; have HE := Lib.hid ((HK.out.1.keep (balloc (Below.refl _ _) _)).app (obj_old _ HKE.out) HN3.out.1 HN3.out.2 hown hf hv); obtain ⟨p', c', rfl, -⟩ := row_form hown; clear hown hf hv)
          exact ⟨⟨i + 1, by omega, by go_num, Lib.hid ⟨_, HE.out⟩⟩, by simp [intOf]; omega⟩
    · obtain rfl : i = G.length := by omega
      have HTS : Hid (Tab G 0 0 0 (fun i j => decide (j ∈ aft G i))) := Lib.hid (.start fun i j => by simp)
      go_wp2_with fail
      clear hmk jr jr0 jr1 jr2
      go_loopw [8] (fun kv wl => ∃ k : Nat, k ≤ G.length ∧ kv = .int .i64 k ∧ Hid (∃ t, Tb W wl gb (.slice pa G.length ca) (.slice pg G.length cg) G.length G.length (.slice pt G.length ct) rb t ∧ Tab G k 0 0 t)) (fun kv _ => G.length - (intOf kv).toNat)
      case atStart => exact ⟨0, Nat.zero_le _, rfl, Lib.hid ⟨_, HT.out, HTS.out⟩⟩
      case round =>
        clear HT HTS
        obtain ⟨k, hk, rfl, HK⟩ := hrel
        by_cases hkl : k < G.length
        · obtain ⟨qt, et⟩ : ∃ qt, pt = some ⟨qt, 0, none⟩ := by
            obtain ⟨t, h1, h2⟩ := HK.out
            obtain ⟨q, c, he⟩ := row_slice h1.row (by omega)
            simp only [Value.slice.injEq] at he
            exact ⟨q, he.1⟩
          subst et
          go_wp2_with fail
          go_loopw [9] (fun iv wl => ∃ i : Nat, i ≤ G.length ∧ iv = .int .i64 i ∧ Hid (∃ t, Tb W wl gb (.slice pa G.length ca) (.slice pg G.length cg) G.length G.length (.slice (some ⟨qt, 0, none⟩) G.length ct) rb t ∧ Tab G k i 0 t)) (fun iv _ => G.length - (intOf iv).toNat)
          case atStart => exact ⟨0, Nat.zero_le _, rfl, HK⟩
          case round =>
            clear HK
            obtain ⟨i, hi, rfl, HI⟩ := hrel
            by_cases hil2 : i < G.length
            · go_wp2_with fail
              go_loopw [10] (fun jv wl => ∃ j : Nat, j ≤ G.length ∧ jv = .int .i64 j ∧ Hid (∃ t, Tb W wl gb (.slice pa G.length ca) (.slice pg G.length cg) G.length G.length (.slice (some ⟨qt, 0, none⟩) G.length ct) rb t ∧ Tab G k i j t)) (fun jv _ => G.length - (intOf jv).toNat)
              case atStart => exact ⟨0, Nat.zero_le _, rfl, HI⟩
              case round =>
                clear HI
                obtain ⟨j, hj, rfl, HJ⟩ := hrel
                obtain ⟨t, ht1, ht2⟩ := HJ.out
                have HT1 := Lib.hid ht1
                have HT2 := Lib.hid ht2
                clear ht1 ht2 HJ
                by_cases hjl : j < G.length
                · have r1 := HT1.out.rowAt rfl hil2
                  have r2 := HT1.out.rowAt rfl hkl
                  have c1 := HT1.out.cell hil2 hkl
                  have c2 := HT1.out.cell hkl hjl
                  have c3 := HT1.out.cell hil2 hjl
                  have fr := obj_free (HT1.out.cells i hil2) j
                  have HPUT : Hid (t i k = true → t k j = true → Tb W (wr.setCell ⟨rb.getD i 0, j, none⟩ (.bool true)) gb (.slice pa G.length ca) (.slice pg G.length cg) G.length G.length (.slice (some ⟨qt, 0, none⟩) G.length ct) rb (setT t i j) ∧ Tab G k i (j + 1) (setT t i j)) := Lib.hid fun e1 e2 => ⟨HT1.out.put hil2 hjl, HT2.out.set e1 e2⟩
                  have HSKIP : Hid (¬ (t i k = true ∧ t k j = true) → Tab G k i (j + 1) t) := Lib.hid fun e => HT2.out.skip e
                  unfold rowV at r1 r2
                  generalize hik : t i k = bik at *
                  generalize hkj : t k j = bkj at *
                  generalize t i j = bij at *
                  generalize rb.getD i 0 = ri at *
                  generalize rb.getD k 0 = rk at *
                  have ii0 : (0 : Int) ≤ (i : Int) := by omega
                  have ii1 : (i : Int) < (G.length : Int) := by omega
                  have ik0 : (0 : Int) ≤ (k : Int) := by omega
                  have ik1 : (k : Int) < (G.length : Int) := by omega
                  have ij0 : (0 : Int) ≤ (j : Int) := by omega
                  have ij1 : (j : Int) < (G.length : Int) := by omega
                  clear hik hkj
                  cases bik with
                  | false =>
                    have HS := Lib.hid (HSKIP.out (by simp))
                    go_wp2_with fail
                    exact ⟨⟨j + 1, by omega, by go_num, Lib.hid ⟨_, HT1.out, HS.out⟩⟩, by simp [intOf]; omega⟩
                  | true =>
                    cases bkj with
                    | false =>
                      have HS := Lib.hid (HSKIP.out (by simp))
                      go_wp2_with fail
                      exact ⟨⟨j + 1, by omega, by go_num, Lib.hid ⟨_, HT1.out, HS.out⟩⟩, by simp [intOf]; omega⟩
                    | true =>
                      have HS := Lib.hid (HPUT.out rfl rfl)
                      go_wp2_with fail
                      exact ⟨⟨j + 1, by omega, by go_num, Lib.hid ⟨_, HS.out.1, HS.out.2⟩⟩, by simp [intOf]; omega⟩
                · obtain rfl : j = G.length := by omega
                  have HR := Lib.hid (HT2.out.row HG.out)
                  go_wp2_with fail
                  exact ⟨⟨i + 1, by omega, by go_num, Lib.hid ⟨_, HT1.out, HR.out⟩⟩, by simp [intOf]; omega⟩
            · obtain rfl : i = G.length := by omega
              obtain ⟨t, ht1, ht2⟩ := HI.out
              have HT1 := Lib.hid ht1
              have HT2 := Lib.hid (ht2.round HG.out)
              clear ht1 ht2 HI
              go_wp2_with fail
              exact ⟨⟨k + 1, by omega, by go_num, Lib.hid ⟨_, HT1.out, HT2.out⟩⟩, by simp [intOf]; omega⟩
        · obtain rfl : k = G.length := by omega
          obtain ⟨t, ht1, ht2⟩ := HK.out
          have HTE : Hid (t = rchB G) := Lib.hid (by
            funext i j
            rw [Bool.eq_iff_iff, ht2.done HG.out, rchB_iff])
          have HT1 := Lib.hid ht1
          clear ht1 ht2 HK
          go_wp2_with fail
          go_ret
          exact ⟨_, rb, gb, rfl, HTE.out ▸ HT1.out⟩
end
end Go.Proofs.Ytggjimeligbmcab
