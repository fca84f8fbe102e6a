/-
  Reach, Ends and mayStand of package graph, by contract. Conditions: a graph in which nobody is behind itself.
-/
import Derived.Test.YtggjimeligbmcabGr4
namespace Go.Proofs.Ytggjimeligbmcab
open Go.RowKit
set_option linter.unusedVariables false

open Classical in
/-- Is the one behind the other? -/
noncomputable def rchB (G : List Nd) (n x : Nat) : Bool := decide (Rch G n x)
theorem rchB_iff {G : List Nd} {n x : Nat} : rchB G n x = true ↔ Rch G n x := by simp [rchB]
noncomputable def rchL (G : List Nd) (n k : Nat) : List Nat := (List.range k).filter (rchB G n)
noncomputable def rchI (G : List Nd) (x : Int) : List Nat := if hasI G x then rchL G x.toNat 64 else []
theorem greached' {W : World} {g c q n : Nat} {G : List Nd} {pn : Option Addr} {S : List Value} (h : Gr W g G pn c q S) (hG : GOk G) (hn : hasB G n = true) :
    Calls Try.prog 38 #[.pointer (some ⟨g, 0, none⟩), .int .i64 (n : Int)] W fun e w' => e = .returned (.agg (mkC (rchB G n))) ∧ Below W.heap.size W w' := by
  refine (greached h hG hn).mono ?_
  rintro e w' ⟨m, rfl, hm, hb⟩
  have : m = rchB G n := funext fun x => by
    rw [Bool.eq_iff_iff, hm x, rchB_iff]
  rw [this]
  exact ⟨rfl, hb⟩
theorem run_index_marks (m : Nat → Bool) (k : Nat) (hk : k < 64) (w : World) : (Instr.index 67 (.agg (mkC m)) (.int .i64 (k : Int))).run Try.prog w = .ok (.bool (m k)) w := by
  have ha := mkC_at m hk
  generalize mkC m = ms at *
  simp [Instr.index, asIntOf, part, hk, ha]
section
variable {w w' W : World} {g c q n : Nat} {G : List Nd} {pn : Option Addr} {S : List Value}
theorem greach_nil (x : Int) (W : World) :
    Calls Try.prog 25 #[.pointer none, .int .i64 x] W (Rl W []) := by
  go_enter Try.func25, Try.ntmps25
  go_wp2_with (go_at_call 22; refine (ghas_nil _ _).mono ?_; rintro e w1 ⟨rfl, rfl⟩)
  go_ret
  exact ⟨_, rfl, FL.nil _⟩
set_option maxHeartbeats 1000000 in
set_option maxRecDepth 100000 in
theorem greach_some (h : Gr W g G pn c q S) (hG : GOk G) (x : Int) :
    Calls Try.prog 25 #[.pointer (some ⟨g, 0, none⟩), .int .i64 x] W (Rl W (rchI G x)) := by
  have HH := Lib.hid h
  have HG := Lib.hid hG
  clear h hG
  cases hb : hasI G x with
  | false =>
    have HB := Lib.hid hb
    have HA : Hid (rchI G x = []) := Lib.hid (by simp [rchI, hb])
    clear hb
    go_enter Try.func25, Try.ntmps25
    go_wp2_with (go_at_call 22; refine (ghas_some HH.out _).mono ?_; rintro e w1 ⟨rfl, rfl⟩; rw [HB.out])
    go_ret
    rw [HA.out]
    exact ⟨_, rfl, FL.nil _⟩
  | true =>
    obtain ⟨n, rfl, hn⟩ := hasI_yes hb
    have HB := Lib.hid hb
    have HN := Lib.hid hn
    have HA : Hid (rchI G (n : Int) = rchL G n 64) := Lib.hid (by simp [rchI, hb])
    obtain ⟨i0, hi, hz0, hz1, hz2⟩ := info_parts infoN
    clear hb hn
    go_enter Try.func25, Try.ntmps25
    go_wp2_with (first
      | (go_at_call 22; refine (ghas_some HH.out _).mono ?_; rintro e w1 ⟨rfl, rfl⟩; rw [HB.out])
      | (go_at_call 38; refine (greached' HH.out HG.out HN.out).mono ?_; rintro e w2 ⟨rfl, hb2⟩; have HB2 := Lib.hid hb2; clear hb2))
    have HF0 : Hid (FL W w2 (.slice none 0 0) (rchL G n 0)) := Lib.hid ((FL.nil _).keep HB2.out)
    have HIX := Lib.hid (run_index_marks (rchB G n))
    go_loopw [5, 15] (fun lv i wl => ∃ k : Nat, k ≤ 64 ∧ i = .int .i64 k ∧ Hid (FL W wl lv (rchL G n k))) (fun _ i _ => 64 - (intOf i).toNat)
    case atStart => exact ⟨0, by omega, rfl, HF0⟩
    case round =>
      clear HF0
      obtain ⟨k, hk, rfl, HJ⟩ := hrel
      obtain ⟨pp, c2, rfl, -⟩ := row_form HJ.out.1
      have hfl : (rchL G n k).length ≤ k := filter_len _ k
      by_cases hlt : k < 64
      · have HS : Hid (rchL G n (k + 1) = rchL G n k ++ (if rchB G n k then [k] else [])) := Lib.hid (range_filter _ k)
        have hix := HIX.out k hlt
        generalize mkC (rchB G n) = ms at *
        cases hc : rchB G n k with
        | true =>
          rw [hc] at hix
          have HC := Lib.hid hc
          clear hc
          go_wp2_with (at_builtin; refine wpList_append_row rfl _ _ 31 rfl 3 i0 (.int .i64 0) 1 8 Try.underlying31 hi hz0 hz1 hz2 rfl (by decide) (.slice pp (rchL G n k).length c2) _ _ rfl (row_base ((HJ.out.keep (balloc (Below.refl _ _) _)).1) (Nat.zero_le _)) ⟨wr.heap.size, 0, none⟩ 1 1 [.int .i64 k] rfl rfl (one_cell _ _ _) (fun x hx => by simp at hx; subst hx; rfl) (by unfold maxLen; omega) (by omega) ?_; intro v' w4 hown hf hv; have HE := Lib.hid ((HJ.out.keep (balloc (Below.refl _ _) _)).app hown hf hv); obtain ⟨p', c', rfl, -⟩ := row_form hown; clear hown hf hv)
          exact ⟨⟨k + 1, by omega, by go_num, by rw [HS.out, HC.out]; exact HE⟩, by simp [intOf]; omega⟩
        | false =>
          rw [hc] at hix
          have HC := Lib.hid hc
          clear hc
          go_wp2_with fail
          exact ⟨⟨k + 1, by omega, by go_num, by rw [HS.out, HC.out]; exact Lib.hid (by rw [show ((if false = true then [k] else []) : List Nat) = [] from rfl, List.append_nil]; exact HJ.out)⟩, by simp [intOf]; omega⟩
      · obtain rfl : k = 64 := by omega
        go_wp2
        go_ret
        rw [HA.out]
        exact ⟨_, rfl, HJ.out⟩

set_option maxRecDepth 100000 in
theorem gmay (h : Gr w g G pn c q S) (hG : GOk G) (hn : n < G.length) (m : Nat → Bool) :
    Calls Try.prog 40 #[.pointer (some ⟨g, 0, none⟩), .int .i64 (n : Int), .agg (mkC m)] w fun e w' => e = .returned (.bool ((aft G n).all m)) ∧ Below w.heap.size w w' := by
  have HG := Lib.hid hG
  have hlen := hG.len
  obtain rfl := h.at_ (by omega)
  have hb := balloc (Below.refl w.heap.size w) (.cells (mkC m) 67)
  have HB := Lib.hid hb
  have HK := Lib.hid (h.keep hb)
  have HM : Hid (Mk (w.alloc (.cells (mkC m) 67)) w.heap.size m) := Lib.hid (obj_new _ _)
  have c0 := HK.out.c0
  have ca := HK.out.af n hn
  have HN := Lib.hid (HK.out.ns n hn)
  have HL := Lib.hid (aft_len hG n)
  have HAL : Hid (∀ a, a ∈ aft G n → a < 64) := Lib.hid fun a ha => by have := hG.aft_lt ha; omega
  clear h hG hb
  generalize S.getD n (.slice none 0 0) = va at *
  obtain ⟨pa, cca, rfl, hpa⟩ := HN.out
  have HPA := Lib.hid hpa
  clear hpa
  go_enter Try.func40, Try.ntmps40
  go_wp2_with fail
  generalize w.alloc (.cells (mkC m) 67) = w1 at *
  generalize w.heap.size = ob at HM ⊢
  clear c0 ca
  go_loopw [18] (fun i wl => wl = w1 ∧ ∃ j : Nat, j ≤ (aft G n).length ∧ i = .int .i64 j ∧ Hid (∀ j', j' < j → m ((aft G n).getD j' 0) = true)) (fun i _ => (aft G n).length - (intOf i).toNat)
  case atStart => exact ⟨rfl, 0, by omega, rfl, Lib.hid fun j' h => absurd h (Nat.not_lt_zero _)⟩
  case round =>
    obtain ⟨rfl, j, hj, rfl, HJ⟩ := hrel
    by_cases hlt : j < (aft G n).length
    · obtain ⟨b2, o2, rfl, hc⟩ := HPA.out.resolve_left (by omega)
      have cj := hc j hlt
      have hj64 : j < 64 := by have := HL.out; omega
      have HIN : Hid ((aft G n).getD j 0 ∈ aft G n) := Lib.hid (by simp [hlt])
      have ha64 : (aft G n).getD j 0 < 64 := HAL.out _ HIN.out
      have HJS : Hid (m ((aft G n).getD j 0) = true → ∀ j', j' < j + 1 → m ((aft G n).getD j' 0) = true) := Lib.hid fun e j' hj' => by
        by_cases e2 : j' = j
        · rw [e2]; exact e
        · exact HJ.out j' (by omega)
      clear hc
      generalize (aft G n).getD j 0 = a at *
      have cs := HM.out.cell ha64
      cases hm : m a with
      | true =>
        rw [hm] at cs
        have HMA := Lib.hid hm
        clear hm
        go_wp2_with fail
        exact ⟨⟨trivial, j + 1, by omega, by go_num, Lib.hid (HJS.out HMA.out)⟩, by simp [intOf]; omega⟩
      | false =>
        rw [hm] at cs
        have HA : Hid ((aft G n).all m = false) := Lib.hid (by
          rw [List.all_eq_false]
          exact ⟨a, HIN.out, by rw [hm]; decide⟩)
        clear hm
        go_wp2_with fail
        go_ret
        rw [HA.out]
        exact ⟨rfl, HB.out⟩
    · obtain rfl : j = (aft G n).length := by omega
      have HA : Hid ((aft G n).all m = true) := Lib.hid (by
        rw [List.all_eq_true]
        intro a ha
        obtain ⟨j', hj', e⟩ := List.getElem_of_mem ha
        have := HJ.out j' hj'
        rw [show (aft G n).getD j' 0 = a by simp [hj', e]] at this
        exact this)
      go_wp2_with fail
      go_ret
      rw [HA.out]
      exact ⟨rfl, HB.out⟩

/-! Ends -/
def endB (G : List Nd) (n : Nat) : Bool := hasB G n && (behL G (n : Int) G.length).isEmpty
theorem gends_nil (W : World) :
    Calls Try.prog 30 #[.pointer none] W (Rl W []) := by
  go_enter Try.func30, Try.ntmps30
  go_wp2_with (go_at_call 19; refine (glen_nil _).mono ?_; rintro e w1 ⟨rfl, rfl⟩)
  go_loopw [3, 7] (fun v i wl => wl = W ∧ v = .slice none 0 0 ∧ i = .int .i64 0) (fun _ _ _ => 0)
  case atStart => exact ⟨rfl, rfl, rfl⟩
  case round =>
    obtain ⟨rfl, rfl, rfl⟩ := hrel
    go_wp2
    go_ret
    exact ⟨_, rfl, FL.nil _⟩
set_option maxHeartbeats 1000000 in
set_option maxRecDepth 100000 in
theorem gends_some (h : Gr w g G pn c q S) (hG : GOk G) :
    Calls Try.prog 30 #[.pointer (some ⟨g, 0, none⟩)] w (Rl w ((List.range G.length).filter (endB G))) := by
  have HH := Lib.hid h
  have HG := Lib.hid hG
  have hlen := hG.len
  obtain ⟨i0, hi, hz0, hz1, hz2⟩ := info_parts infoN
  clear h hG
  go_enter Try.func30, Try.ntmps30
  go_wp2_with (go_at_call 19; refine (glen_some HH.out).mono ?_; rintro e w1 ⟨rfl, rfl⟩)
  have HF0 : Hid (FL w w (.slice none 0 0) ((List.range 0).filter (endB G))) := Lib.hid (FL.nil _)
  go_loopw [3, 7] (fun lv i wl => ∃ k : Nat, k ≤ G.length ∧ i = .int .i64 k ∧ Hid (FL w wl lv ((List.range k).filter (endB G)))) (fun _ i _ => G.length - (intOf i).toNat)
  case atStart => exact ⟨0, by omega, rfl, HF0⟩
  case round =>
    clear HF0
    obtain ⟨k, hk, rfl, HJ⟩ := hrel
    obtain ⟨pp, c2, rfl, -⟩ := row_form HJ.out.1
    have hfl : ((List.range k).filter (endB G)).length ≤ k := filter_len _ k
    by_cases hlt : k < G.length
    · have HK := Lib.hid (HH.out.keep HJ.out.2)
      have HS : Hid ((List.range (k + 1)).filter (endB G) = (List.range k).filter (endB G) ++ (if endB G k then [k] else [])) := Lib.hid (range_filter _ k)
      cases hh : hasB G k with
      | false =>
        have HHI : Hid (hasI G (k : Int) = false) := Lib.hid (by rw [hasI_nat]; exact hh)
        have HE : Hid (endB G k = false) := Lib.hid (by simp [endB, hh])
        clear hh
        generalize (List.range k).filter (endB G) = lk at *
        go_wp2_with (go_at_call 22; refine (ghas_some HK.out _).mono ?_; rintro e w1 ⟨rfl, rfl⟩; rw [HHI.out])
        exact ⟨⟨k + 1, by omega, by go_num, by rw [HS.out, HE.out]; exact Lib.hid (by rw [show ((if false = true then [k] else []) : List Nat) = [] from rfl, List.append_nil]; exact HJ.out)⟩, by simp [intOf]; omega⟩
      | true =>
        have HHI : Hid (hasI G (k : Int) = true) := Lib.hid (by rw [hasI_nat]; exact hh)
        have HBI : Hid (behI G (k : Int) = behL G (k : Int) G.length) := Lib.hid (by simp [behI, HHI.out])
        have HE : Hid (endB G k = (behL G (k : Int) G.length).isEmpty) := Lib.hid (by simp [endB, hh])
        clear hh
        have hbl : (behL G (k : Int) G.length).length ≤ G.length := filter_len _ _
        cases hem : behL G (k : Int) G.length with
        | nil =>
          have HEM := Lib.hid hem
          clear hem hbl
          generalize (List.range k).filter (endB G) = lk at *
          go_wp2_with (first
            | (go_at_call 22; refine (ghas_some HK.out _).mono ?_; rintro e w1 ⟨rfl, rfl⟩; rw [HHI.out])
            | (go_at_call 27; refine (gbehind_some HK.out HG.out _).mono ?_; rintro e w2 ⟨v2, rfl, hf2⟩; rw [HBI.out, HEM.out] at hf2; obtain ⟨p2, cc2, rfl, -⟩ := row_form hf2.1; have HF2 := Lib.hid (HJ.out.keep hf2.2); clear hf2)
            | (at_builtin; refine wpList_append_row rfl _ _ 31 rfl 3 i0 (.int .i64 0) 1 8 Try.underlying31 hi hz0 hz1 hz2 rfl (by decide) (.slice pp lk.length c2) _ _ rfl (row_base ((HF2.out.keep (balloc (Below.refl _ _) _)).1) (Nat.zero_le _)) ⟨w2.heap.size, 0, none⟩ 1 1 [.int .i64 k] rfl rfl (one_cell _ _ _) (fun x hx => by simp at hx; subst hx; rfl) (by unfold maxLen; omega) (by omega) ?_; intro v' w4 hown hf hv; have HE4 := Lib.hid ((HF2.out.keep (balloc (Below.refl _ _) _)).app hown hf hv); obtain ⟨p', c', rfl, -⟩ := row_form hown; clear hown hf hv))
          exact ⟨⟨k + 1, by omega, by go_num, by rw [HS.out, HE.out, HEM.out]; exact HE4⟩, by simp [intOf]; omega⟩
        | cons y ys =>
          have HEM := Lib.hid hem
          rw [hem] at hbl
          have HYL : Hid ((y :: ys).length = ys.length + 1) := Lib.hid rfl
          clear hem
          generalize (List.range k).filter (endB G) = lk at *
          go_wp2_with (first
            | (go_at_call 22; refine (ghas_some HK.out _).mono ?_; rintro e w1 ⟨rfl, rfl⟩; rw [HHI.out])
            | (go_at_call 27; refine (gbehind_some HK.out HG.out _).mono ?_; rintro e w2 ⟨v2, rfl, hf2⟩; rw [HBI.out, HEM.out] at hf2; obtain ⟨p2, cc2, rfl, -⟩ := row_form hf2.1; have HF2 := Lib.hid (HJ.out.keep hf2.2); clear hf2; rw [HYL.out]))
          exact ⟨⟨k + 1, by omega, by go_num, by rw [HS.out, HE.out, HEM.out]; exact Lib.hid (by rw [show ((if (y :: ys).isEmpty = true then [k] else []) : List Nat) = [] from rfl, List.append_nil]; exact HF2.out)⟩, by simp [intOf]; omega⟩
    · obtain rfl : k = G.length := by omega
      go_wp2
      go_ret
      exact ⟨_, rfl, HJ.out⟩
end
end Go.Proofs.Ytggjimeligbmcab
