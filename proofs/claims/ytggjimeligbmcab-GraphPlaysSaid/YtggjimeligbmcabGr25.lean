/-
  The document's Order of layer 13, by contract. Conditions: a graph in which nobody is behind itself.
-/
import Derived.Test.YtggjimeligbmcabGr24
namespace Go.Proofs.Ytggjimeligbmcab
open Go.RowKit
set_option linter.unusedVariables false

section
variable {w w' W : World} {va vg : Value} {G : List Nd} {qa qg : Nat} {S : List Value}
/-- The rows so far, and the graph's box. -/
structure RO (G : List Nd) (W w : World) (gb : Nat) (va vg v : Value) (l : List Nat) : Prop where
  f : FL W w v l
  b : w.heap[gb]? = some (.cells #[va, vg] 30 (0, 0))
theorem RO.keep {gb : Nat} {v : Value} {l : List Nat} (h : RO G W w gb va vg v l) (hb : Below w.heap.size w w') : RO G W w' gb va vg v l := ⟨h.f.keep hb, (hb.block _ (lt_of_block h.b)).trans h.b⟩
set_option maxRecDepth 100000 in
set_option maxHeartbeats 2000000 in
theorem rorder (h : Rr W va vg G qa qg S) (hG : GOk G) :
    Calls Try.prog 32 #[.agg #[va, vg]] W (Rl W (ordG G)) := by
  have HH := Lib.hid h
  have HG := Lib.hid hG
  have hlen := hG.len
  obtain ⟨pa, ca, rfl, ha⟩ := h.a
  obtain ⟨pg, cg, rfl, hg⟩ := h.g
  have HA := Lib.hid ha
  obtain ⟨i0, hi, hz0, hz1, hz2⟩ := info_parts infoN
  clear h hG ha hg
  go_enter Try.func32, Try.ntmps32
  go_wp2_with fail
  have HR0 : Hid (RO G W (W.alloc (.cells #[.slice pa G.length ca, .slice pg G.length cg] 30)) W.heap.size (.slice pa G.length ca) (.slice pg G.length cg) (.slice none 0 0) (ordL G 0)) := Lib.hid ⟨⟨World.ownsRow_nil _ _ _ _, balloc (Below.refl _ _) _⟩, obj_new _ _⟩
  generalize W.alloc (.cells #[.slice pa G.length ca, .slice pg G.length cg] 30) = w1 at *
  generalize hgb : W.heap.size = gb at HR0 ⊢
  have HGB := Lib.hid hgb
  clear hgb
  go_loopw [3, 4] (fun lv iv wl => ∃ i : Nat, i ≤ G.length ∧ iv = .int .i64 i ∧ Hid (RO G W wl gb (.slice pa G.length ca) (.slice pg G.length cg) lv (ordL G i))) (fun _ iv _ => G.length - (intOf iv).toNat)
  case atStart => exact ⟨0, Nat.zero_le _, rfl, HR0⟩
  case round =>
    clear HR0
    obtain ⟨i, hii, rfl, HR⟩ := hrel
    obtain ⟨pp, c2, rfl, -⟩ := row_form HR.out.f.1
    have cb : wr.cell? ⟨gb, 0, none⟩ = some (.slice pa G.length ca) := (obj_cell HR.out.b 0).trans rfl
    have HOL : Hid ((ordL G i).length ≤ 64) := Lib.hid (by have := (ordL_ok G i).len; omega)
    by_cases hlt : i < G.length
    · generalize wr = wO at *
      go_wp2_with fail
      clear cb
      go_loopw [3, 5] (fun lv nv wl => lv = .slice pp (ordL G i).length c2 ∧ ∃ n : Nat, n ≤ G.length ∧ nv = .int .i64 n ∧ Hid (RO G W wl gb (.slice pa G.length ca) (.slice pg G.length cg) (.slice pp (ordL G i).length c2) (ordL G i)) ∧ Hid (∀ j, j < n → mayB G (ordL G i) j = false)) (fun _ nv _ => G.length - (intOf nv).toNat)
      case atStart => exact ⟨rfl, 0, Nat.zero_le _, rfl, HR, Lib.hid fun j h => absurd h (Nat.not_lt_zero _)⟩
      case round =>
        clear HR
        obtain ⟨rfl, n, hn, rfl, HR, HJ⟩ := hrel
        have cb : wr.cell? ⟨gb, 0, none⟩ = some (.slice pa G.length ca) := (obj_cell HR.out.b 0).trans rfl
        have cb1 : wr.cell? ⟨gb, 1, none⟩ = some (.slice pg G.length cg) := (obj_cell HR.out.b 1).trans rfl
        by_cases hnl : n < G.length
        · have HK := Lib.hid (HH.out.keep HR.out.f.2)
          have HNX : Hid (mayB G (ordL G i) n = false → ∀ j, j < n + 1 → mayB G (ordL G i) j = false) := Lib.hid fun e j hj => by
            by_cases e2 : j = n
            · rw [e2]; exact e
            · exact HJ.out j (by omega)
          have HHN : Hid (hasI G (n : Int) = hasB G n) := Lib.hid (hasI_nat G n)
          cases hh : hasB G n with
          | false =>
            have HN : Hid (mayB G (ordL G i) n = false) := Lib.hid (by simp [mayB, hh])
            have HHB := Lib.hid hh
            clear hh
            go_wp2_with (go_at_call 23; refine (rhas HK.out _ hlen).mono ?_; rintro e w2 ⟨rfl, hb⟩; rw [HHN.out, HHB.out]; have HR2 := Lib.hid (HR.out.keep hb); clear hb)
            exact ⟨⟨rfl, n + 1, by omega, by go_num, HR2, Lib.hid (HNX.out HN.out)⟩, by simp [intOf]; omega⟩
          | true =>
            have HHB := Lib.hid hh
            clear hh
            cases hm : inI (ordL G i) (n : Int) with
            | true =>
              have HIM := Lib.hid hm
              have HN : Hid (mayB G (ordL G i) n = false) := Lib.hid (by
                have : (ordL G i).contains n = true := by rw [inI_nat] at hm; exact List.contains_iff_mem.2 (of_decide_eq_true hm)
                simp only [mayB, this, Bool.not_true, Bool.and_false, Bool.false_and])
              clear hm
              go_wp2_with (first
                | (go_at_call 23; refine (rhas HK.out _ hlen).mono ?_; rintro e w2 ⟨rfl, hb⟩; rw [HHN.out, HHB.out]; have HR2 := Lib.hid (HR.out.keep hb); clear hb)
                | (go_at_call 34; refine (gin HR2.out.f.ints _ (Nat.le_trans HOL.out (by decide))).mono ?_; rintro e w3 ⟨rfl, rfl⟩; rw [HIM.out]))
              exact ⟨⟨rfl, n + 1, by omega, by go_num, HR2, Lib.hid (HNX.out HN.out)⟩, by simp [intOf]; omega⟩
            | false =>
              have HIM := Lib.hid hm
              have HMM : Hid (mayB G (ordL G i) n = (aft G n).all (fun a => (ordL G i).contains a)) := Lib.hid (by
                have : (ordL G i).contains n = false := by
                  rw [inI_nat] at hm
                  rw [Bool.eq_false_iff]
                  exact fun e => of_decide_eq_false hm (List.contains_iff_mem.1 e)
                simp only [mayB, HHB.out, this, Bool.not_false, Bool.true_and])
              have hal : (aft G n).length ≤ 64 := aft_len HG.out n
              clear hm
              go_wp2_with (first
                | (go_at_call 23; refine (rhas HK.out _ hlen).mono ?_; rintro e w2 ⟨rfl, hb⟩; rw [HHN.out, HHB.out]; have HR2 := Lib.hid (HR.out.keep hb); clear hb)
                | (go_at_call 34; refine (gin HR2.out.f.ints _ (Nat.le_trans HOL.out (by decide))).mono ?_; rintro e w3 ⟨rfl, rfl⟩; rw [HIM.out]))
              clear cb cb1 HK
              obtain rfl := HA.out (by omega)
              have HK := Lib.hid (HH.out.keep HR2.out.f.2)
              have cb : w2.cell? ⟨gb, 0, none⟩ = some (.slice (some ⟨qa, 0, none⟩) G.length ca) := (obj_cell HR2.out.b 0).trans rfl
              have ca1 := HK.out.af n hnl
              have HN := Lib.hid (HK.out.ns n hnl)
              generalize S.getD n (.slice none 0 0) = v1 at *
              obtain ⟨pv, cv, rfl, hpv⟩ := HN.out
              clear hpv
              go_loopw [6, 7] (fun fv kv wl => wl = w2 ∧ ∃ k : Nat, k ≤ (aft G n).length ∧ kv = .int .i64 k ∧ fv = .bool (((aft G n).take k).all (fun a => (ordL G i).contains a))) (fun _ kv _ => (aft G n).length - (intOf kv).toNat)
              case atStart => exact ⟨rfl, 0, Nat.zero_le _, rfl, by simp⟩
              case round =>
                obtain ⟨rfl, k, hk, rfl, rfl⟩ := hrel
                by_cases hkl : k < (aft G n).length
                · obtain ⟨b, off, rfl, ck⟩ := HN.out.at_ hkl
                  have HTK : Hid (((aft G n).take (k + 1)).all (fun a => (ordL G i).contains a) = (((aft G n).take k).all (fun a => (ordL G i).contains a) && (ordL G i).contains ((aft G n).getD k 0))) := Lib.hid (by rw [take_snoc hkl, List.all_append]; simp)
                  have HIN : Hid (inI (ordL G i) (((aft G n).getD k 0 : Nat) : Int) = (ordL G i).contains ((aft G n).getD k 0)) := Lib.hid (by
                    rw [inI_nat, Bool.eq_iff_iff, decide_eq_true_eq, List.contains_iff_mem])
                  generalize (aft G n).getD k 0 = a at *
                  generalize (ordL G i).contains a = ba at *
                  cases hall : ((aft G n).take k).all (fun a => (ordL G i).contains a) with
                  | true =>
                    have HAL := Lib.hid hall
                    clear hall
                    go_wp2_with (go_at_call 34; refine (gin HR2.out.f.ints _ (Nat.le_trans HOL.out (by decide))).mono ?_; rintro e w3 ⟨rfl, rfl⟩; rw [HIN.out])
                    exact ⟨⟨trivial, k + 1, by omega, by go_num, by rw [HTK.out, HAL.out]; rfl⟩, by simp [intOf]; omega⟩
                  | false =>
                    have HAL := Lib.hid hall
                    clear hall
                    go_wp2_with fail
                    exact ⟨⟨trivial, k + 1, by omega, by go_num, by rw [HTK.out, HAL.out]; rfl⟩, by simp [intOf]; omega⟩
                · obtain rfl : k = (aft G n).length := by omega
                  have HME : Hid (mayB G (ordL G i) n = ((aft G n).take (aft G n).length).all (fun a => (ordL G i).contains a)) := Lib.hid (by rw [List.take_length]; exact HMM.out)
                  cases hall : ((aft G n).take (aft G n).length).all (fun a => (ordL G i).contains a) with
                  | true =>
                    have HNS : Hid (nxt G (ordL G i) = some n) := Lib.hid (nxt_first (HME.out.trans hall) HJ.out)
                    clear hall
                    have hol : (ordL G i).length ≤ 64 := HOL.out
                    go_wp2_with (at_builtin; refine wpList_append_row rfl _ _ 31 rfl 3 i0 (.int .i64 0) 1 8 Try.underlying31 hi hz0 hz1 hz2 rfl (by decide) (.slice pp (ordL G i).length c2) _ _ rfl (row_base ((HR2.out.f.keep (balloc (Below.refl _ _) _)).1) (Nat.zero_le _)) ⟨wr.heap.size, 0, none⟩ 1 1 [.int .i64 n] rfl rfl (one_cell _ _ _) (fun x hx => by simp at hx; subst hx; rfl) (by unfold maxLen; omega) (by omega) ?_; intro v' w4 hown hf hv; have HE := Lib.hid ((HR2.out.f.keep (balloc (Below.refl _ _) _)).app hown hf hv); have HBE := Lib.hid (hf.obj (obj_old _ HR2.out.b) fun e => row_ne HR2.out.f.1 HR2.out.b (by decide) e); obtain ⟨p', c', rfl, -⟩ := row_form hown; clear hown hf hv)
                    exact ⟨⟨i + 1, by omega, by go_num, Lib.hid (by rw [ordL_some HNS.out]; exact ⟨HE.out, HBE.out⟩)⟩, by simp [intOf]; omega⟩
                  | false =>
                    have HNF : Hid (mayB G (ordL G i) n = false) := Lib.hid (HME.out.trans hall)
                    clear hall
                    go_wp2_with fail
                    exact ⟨⟨rfl, n + 1, by omega, by go_num, HR2, Lib.hid (HNX.out HNF.out)⟩, by simp [intOf]; omega⟩
        · obtain rfl : n = G.length := by omega
          have HNN : Hid (nxt G (ordL G i) = none) := Lib.hid (nxt_no HJ.out)
          go_wp2_with fail
          exact ⟨⟨i + 1, by omega, by go_num, by rw [ordL_none HNN.out]; exact HR⟩, by simp [intOf]; omega⟩
    · obtain rfl : i = G.length := by omega
      go_wp2_with fail
      go_ret
      exact ⟨_, rfl, HR.out.f⟩
end
end Go.Proofs.Ytggjimeligbmcab
