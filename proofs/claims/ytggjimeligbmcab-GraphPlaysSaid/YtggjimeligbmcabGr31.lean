/-
  The document's Depths of layer 13, by contract. Conditions: a graph in which nobody is behind itself.
-/
import Derived.Test.YtggjimeligbmcabGr29
import Derived.Deep.OwnRows
namespace Go.Proofs.Ytggjimeligbmcab
open Go.RowKit
set_option linter.unusedVariables false

/-! A row of so many numbers -/
def mkN (n : Nat) (m : Nat → Nat) : Array Value := ((List.range n).map fun i => Value.int .i64 (m i : Int)).toArray
theorem mkN_size (n : Nat) (m : Nat → Nat) : (mkN n m).size = n := by simp [mkN]
theorem mkN_at (n : Nat) (m : Nat → Nat) {j : Nat} (h : j < n) : (mkN n m)[j]? = some (.int .i64 (m j : Int)) := by simp [mkN, h]
theorem mkN_set (n : Nat) (m : Nat → Nat) {j v : Nat} (h : j < n) : (mkN n m).setIfInBounds j (.int .i64 (v : Int)) = mkN n (setD m j v) := by
  apply Array.ext_getElem?
  intro i
  by_cases hi : i < n
  · rw [mkN_at _ _ hi]
    by_cases e : i = j
    · subst e
      rw [Array.getElem?_setIfInBounds_self_of_lt (by rw [mkN_size]; exact h), setD_self]
    · rw [Array.getElem?_setIfInBounds_ne (Ne.symm e), mkN_at _ _ hi, setD_ne m v e]
  · rw [Array.getElem?_eq_none (by simp [mkN_size]; omega), Array.getElem?_eq_none (by rw [mkN_size]; omega)]
theorem made_ints (n : Nat) : madeCells #[Value.int .i64 0] n = mkN n fun _ => 0 := by
  unfold madeCells mkN
  apply Array.ext_getElem?
  intro i
  by_cases hi : i < n
  · simp [hi, Nat.mod_one]
  · simp [hi]
structure Dd (W w : World) (gb db : Nat) (va vg : Value) (n : Nat) (m : Nat → Nat) : Prop where
  d : w.heap[db]? = some (.cells (mkN n m) 3 (0, 0))
  b : w.heap[gb]? = some (.cells #[va, vg] 30 (0, 0))
  lo : Below W.heap.size W w
section
variable {W w w' : World} {va vg : Value} {G : List Nd} {qa qg gb db n : Nat} {S : List Value} {m : Nat → Nat}
theorem Dd.keep (h : Dd W w gb db va vg n m) (hb : Below w.heap.size w w') : Dd W w' gb db va vg n m := ⟨(hb.block _ (lt_of_block h.d)).trans h.d, (hb.block _ (lt_of_block h.b)).trans h.b, bthen h.lo hb⟩
theorem Dd.set (h : Dd W w gb db va vg n m) {j v : Nat} (hj : j < n) (hl : W.heap.size ≤ db) : Dd W (w.setCell ⟨db, j, none⟩ (.int .i64 (v : Int))) gb db va vg n (setD m j v) := by
  refine ⟨?_, ((Frm.refl (fun k => k = db) w).setCell (p := ⟨db, j, none⟩) rfl _).obj h.b (obj_ne h.b h.d (by decide)), h.lo.setCell hl _⟩
  have := obj_setCell (i := j) (.int .i64 (v : Int)) h.d
  rwa [mkN_set n m hj] at this
set_option maxRecDepth 100000 in
set_option maxHeartbeats 2000000 in
theorem rdepths (h : Rr W va vg G qa qg S) (hG : GOk G) :
    Calls Try.prog 21 #[.agg #[va, vg]] W (Rl W ((List.range G.length).map (dpt G))) := by
  have HH := Lib.hid h
  have HG := Lib.hid hG
  have hlen := hG.len
  obtain ⟨pa, ca, rfl, ha⟩ := h.a
  obtain ⟨pg, cg, rfl, hg⟩ := h.g
  have HA := Lib.hid ha
  have hmk := run_make_row' (P := Try.prog) 31 3 (.int .i64 0) 8 Try.underlying31 infoN rfl .i64 .i64 G.length (by omega) (by omega)
  rw [made_ints] at hmk
  clear h hG ha hg
  go_enter Try.func21, Try.ntmps21
  go_wp2_with fail
  have HD0 : Hid (∃ gb, gb = W.heap.size ∧ Dd W ((W.alloc (.cells #[.slice pa G.length ca, .slice pg G.length cg] 30)).alloc (.cells (mkN G.length fun _ => 0) 3)) gb (gb + 1) (.slice pa G.length ca) (.slice pg G.length cg) G.length (fun _ => 0)) := Lib.hid ⟨_, rfl, by have := obj_new (W.alloc (.cells #[.slice pa G.length ca, .slice pg G.length cg] 30)) (.cells (mkN G.length fun _ => 0) 3); simpa using this, obj_old _ (obj_new _ _), balloc (balloc (Below.refl _ _) _) _⟩
  obtain ⟨gb, eg, hd⟩ := HD0.out
  have HD0 := Lib.hid hd
  have HDB : Hid (W.heap.size ≤ gb + 1) := Lib.hid (by omega)
  rw [← eg]
  clear hd eg hmk
  generalize (W.alloc (.cells #[.slice pa G.length ca, .slice pg G.length cg] 30)).alloc (.cells (mkN G.length fun _ => 0) 3) = w1 at *
  have HDP := Lib.hid (dpt_ok HG.out)
  have HLT : Hid (∀ x, dpt G x ≤ 63) := Lib.hid fun x => HDP.out.lt HG.out x
  go_loopw [4] (fun iv wl => ∃ i : Nat, i ≤ G.length ∧ iv = .int .i64 i ∧ Hid (∃ m, Dd W wl gb (gb + 1) (.slice pa G.length ca) (.slice pg G.length cg) G.length m ∧ Rnd G (dpt G) i 0 m)) (fun iv _ => G.length - (intOf iv).toNat)
  case atStart => exact ⟨0, Nat.zero_le _, rfl, Lib.hid ⟨_, HD0.out, .start G _⟩⟩
  case round =>
    clear HD0
    obtain ⟨i, hi, rfl, HM⟩ := hrel
    obtain ⟨m, hm1, hm2⟩ := HM.out
    have cb : wr.cell? ⟨gb, 0, none⟩ = some (.slice pa G.length ca) := (obj_cell hm1.b 0).trans rfl
    by_cases hil : i < G.length
    · have HI0 : Hid (∃ m, Dd W wr gb (gb + 1) (.slice pa G.length ca) (.slice pg G.length cg) G.length m ∧ Rnd G (dpt G) i 0 m) := HM
      clear HM hm1 hm2 m
      go_wp2_with fail
      clear cb
      go_loopw [5] (fun nv wl => ∃ n : Nat, n ≤ G.length ∧ nv = .int .i64 n ∧ Hid (∃ m, Dd W wl gb (gb + 1) (.slice pa G.length ca) (.slice pg G.length cg) G.length m ∧ Rnd G (dpt G) i n m)) (fun nv _ => G.length - (intOf nv).toNat)
      case atStart => exact ⟨0, Nat.zero_le _, rfl, HI0⟩
      case round =>
        clear HI0
        obtain ⟨n, hn, rfl, HM⟩ := hrel
        obtain ⟨m, hm1, hm2⟩ := HM.out
        have HD := Lib.hid hm1
        have HR := Lib.hid hm2
        have cb : wr.cell? ⟨gb, 0, none⟩ = some (.slice pa G.length ca) := (obj_cell hm1.b 0).trans rfl
        clear hm1 hm2 HM
        by_cases hnl : n < G.length
        · obtain rfl := HA.out (by omega)
          have HN0 : Hid (∃ m', Dd W wr gb (gb + 1) (.slice (some ⟨qa, 0, none⟩) G.length ca) (.slice pg G.length cg) G.length m' ∧ m' = setD m n (dmx m ((aft G n).take 0) (m n))) := Lib.hid ⟨m, HD.out, by
            funext z
            by_cases e : z = n
            · subst e; rw [setD_self]; rfl
            · rw [setD_ne _ _ e]⟩
          have hal : (aft G n).length ≤ 64 := aft_len HG.out n
          go_wp2_with fail
          clear cb HD
          go_loopw [6] (fun kv wl => ∃ k : Nat, k ≤ (aft G n).length ∧ kv = .int .i64 k ∧ Hid (∃ m', Dd W wl gb (gb + 1) (.slice (some ⟨qa, 0, none⟩) G.length ca) (.slice pg G.length cg) G.length m' ∧ m' = setD m n (dmx m ((aft G n).take k) (m n)))) (fun kv _ => (aft G n).length - (intOf kv).toNat)
          case atStart => exact ⟨0, Nat.zero_le _, rfl, HN0⟩
          case round =>
            clear HN0
            obtain ⟨k, hk, rfl, HK⟩ := hrel
            obtain ⟨m', hk1, hk2⟩ := HK.out
            subst hk2
            have HD := Lib.hid hk1
            have cb : wr.cell? ⟨gb, 0, none⟩ = some (.slice (some ⟨qa, 0, none⟩) G.length ca) := (obj_cell hk1.b 0).trans rfl
            have HRR := Lib.hid (HH.out.keep hk1.lo)
            have ca1 := HRR.out.af n hnl
            have HNS := Lib.hid (HRR.out.ns n hnl)
            clear hk1 HK
            generalize S.getD n (.slice none 0 0) = v1 at *
            obtain ⟨pv, cv, rfl, hpv⟩ := HNS.out
            clear hpv
            by_cases hkl : k < (aft G n).length
            · obtain ⟨b, off, rfl, ck⟩ := HNS.out.at_ hkl
              have HAM : Hid ((aft G n).getD k 0 ∈ aft G n) := Lib.hid (getD_memN hkl)
              have hal2 : (aft G n).getD k 0 < G.length := HG.out.aft_lt HAM.out
              have hane : (aft G n).getD k 0 ≠ n := fun e => HG.out.irr n (.one (by have := HAM.out; rwa [e] at this))
              have HDM : Hid (dmx m ((aft G n).take (k + 1)) (m n) = max (dmx m ((aft G n).take k) (m n)) (m ((aft G n).getD k 0) + 1)) := Lib.hid (by rw [take_snoc hkl, dmx_snoc])
              have hma : m ((aft G n).getD k 0) ≤ 63 := Nat.le_trans (HR.out.le _) (HLT.out _)
              have hcm : dmx m ((aft G n).take k) (m n) ≤ 64 := dmx_le (fun y _ => by have := HR.out.le y; have := HLT.out y; omega) (by have := HR.out.le n; have := HLT.out n; omega)
              generalize (aft G n).getD k 0 = a at *
              generalize dmx m ((aft G n).take k) (m n) = cm at *
              have c1 := (obj_cell HD.out.d a).trans (mkN_at G.length (setD m n cm) hal2)
              have c2 := (obj_cell HD.out.d n).trans (mkN_at G.length (setD m n cm) hnl)
              rw [setD_ne m cm hane] at c1
              rw [setD_self] at c2
              have fr := obj_free HD.out.d n
              generalize hmA : m a = ma at *
              have HMA := Lib.hid hmA
              clear hmA
              have ia0 : (0 : Int) ≤ (a : Int) := by omega
              have ia1 : (a : Int) < (G.length : Int) := by omega
              have in0 : (0 : Int) ≤ (n : Int) := by omega
              have in1 : (n : Int) < (G.length : Int) := by omega
              have ik0 : (0 : Int) ≤ (k : Int) := by omega
              have ik1 : (k : Int) < ((aft G n).length : Int) := by omega
              by_cases hgt : cm < ma + 1
              · have dg : decide ((cm : Int) < (ma : Int) + 1) = true := decide_eq_true (by omega)
                have HW : Hid (∀ w2, Below wr.heap.size wr w2 → Dd W (w2.setCell ⟨gb + 1, n, none⟩ (.int .i64 ((ma : Int) + 1))) gb (gb + 1) (.slice (some ⟨qa, 0, none⟩) G.length ca) (.slice pg G.length cg) G.length (setD m n (max cm (ma + 1)))) := Lib.hid fun w2 hb => by
                  have h1 := (HD.out.keep hb).set (v := ma + 1) hnl HDB.out
                  rw [setD_twice] at h1
                  rw [show max cm (ma + 1) = ma + 1 by omega]
                  exact h1
                have HQ := Lib.hid HRR.out
                go_upto_region 11 with fail
                go_quiet (fail)
                go_wp2_with fail
                exact ⟨⟨k + 1, by omega, by go_num, by rw [HDM.out]; exact Lib.hid ⟨_, HW.out _ (drewB (Below.refl _ _) _), rfl⟩⟩, by simp [intOf]; omega⟩
              · have dg : decide ((cm : Int) < (ma : Int) + 1) = false := decide_eq_false (by omega)
                have HMX : Hid (max cm (ma + 1) = cm) := Lib.hid (by omega)
                go_upto_region 11 with fail
                go_quiet (fail)
                go_wp2_with fail
                exact ⟨⟨k + 1, by omega, by go_num, by rw [HDM.out, HMX.out]; exact Lib.hid ⟨_, HD.out.keep (drewB (Below.refl _ _) _), rfl⟩⟩, by simp [intOf]; omega⟩
            · obtain rfl : k = (aft G n).length := by omega
              have HR2 : Hid (Rnd G (dpt G) i (n + 1) (setD m n (dmx m ((aft G n).take (aft G n).length) (m n)))) := Lib.hid (HR.out.step HDP.out (by rw [List.take_length]))
              go_wp2_with fail
              exact ⟨⟨n + 1, by omega, by go_num, Lib.hid ⟨_, HD.out, HR2.out⟩⟩, by simp [intOf]; omega⟩
        · obtain rfl : n = G.length := by omega
          have HR2 := Lib.hid (HR.out.round HG.out HDP.out)
          go_wp2_with fail
          exact ⟨⟨i + 1, by omega, by go_num, Lib.hid ⟨_, HD.out, HR2.out⟩⟩, by simp [intOf]; omega⟩
    · obtain rfl : i = G.length := by omega
      have HD := Lib.hid hm1
      have HME : Hid (m = dpt G) := Lib.hid (funext fun x => hm2.done HG.out HDP.out x)
      clear HM hm1 hm2
      go_wp2_with fail
      go_ret
      refine ⟨_, rfl, ⟨by simp [ints], .inr ⟨gb + 1, G.length, mkN G.length m, by simp, HDB.out, HD.out.d, by simp, by unfold maxLen; omega, by simp [mkN_size], ?_⟩⟩, HD.out.lo⟩
      rw [HME.out]
      simp [mkN, ints]
      rw [List.take_of_length_le (by simp)]
      rfl
end
end Go.Proofs.Ytggjimeligbmcab
