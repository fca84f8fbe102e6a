/-
  Link of package graph, whatever is handed in, by contract. Conditions: a graph in which nobody is behind itself.
-/
import Derived.Test.YtggjimeligbmcabGr12
namespace Go.Proofs.Ytggjimeligbmcab
open Go.RowKit
set_option linter.unusedVariables false

section
variable {B : Nat} {W w w' w6 : World} {g : Nat} {G G' : List Nd} {N N' : List (Bool × Value)} {vn vn' v' : Value}
set_option maxRecDepth 100000 in
theorem glink_none (h : Gw B W g G N vn) (a b : Int) (hab : ¬ (hasI G a = true ∧ hasI G b = true)) :
    Calls Try.prog 15 #[.pointer (some ⟨g, 0, none⟩), .int .i64 a, .int .i64 b] W fun e w' => ∃ E, e = .returned E ∧ Refused W w' E 3 := by
  obtain ⟨pn, c, q, hvn, hg⟩ := h.gr
  have HH := Lib.hid hg
  cases ha : hasI G a with
  | false =>
    have HA := Lib.hid ha
    clear ha hab h hg
    go_enter Try.func15, Try.ntmps15
    go_wp2_with (first
      | (go_at_call 22; refine (ghas_some HH.out _).mono ?_; rintro e w1 ⟨rfl, rfl⟩; rw [HA.out])
      | (go_at_call 35; refine (wrap_iface _ _ _ _).mono ?_; rintro e w' ⟨rfl, hw⟩; have HR := Lib.hid (refused_of hw); clear hw))
    go_ret
    exact ⟨_, rfl, HR.out⟩
  | true =>
    have HA := Lib.hid ha
    have HB : Hid (hasI G b = false) := Lib.hid (by
      cases e : hasI G b
      · rfl
      · exact absurd ⟨ha, e⟩ hab)
    have HNE : Hid (a ≠ b) := Lib.hid fun e => by rw [e, HB.out] at ha; cases ha
    clear ha hab h hg
    go_enter Try.func15, Try.ntmps15
    go_wp2_with (first
      | (go_at_call_of 22 (Value.int IntKind.i64 a); refine (ghas_some HH.out _).mono ?_; rintro e w1 ⟨rfl, rfl⟩; rw [HA.out])
      | (go_at_call_of 22 (Value.int IntKind.i64 b); refine (ghas_some HH.out _).mono ?_; rintro e w1 ⟨rfl, rfl⟩; rw [HB.out])
      | (go_at_call 35; refine (wrap_iface _ _ _ _).mono ?_; rintro e w' ⟨rfl, hw⟩; have HR := Lib.hid (refused_of hw); clear hw))
    go_ret
    exact ⟨_, rfl, HR.out⟩
set_option maxRecDepth 100000 in
theorem glink_self (h : Gw B W g G N vn) (n : Int) (hn : hasI G n = true) :
    Calls Try.prog 15 #[.pointer (some ⟨g, 0, none⟩), .int .i64 n, .int .i64 n] W fun e w' => ∃ E, e = .returned E ∧ Refused W w' E 16 := by
  obtain ⟨pn, c, q, hvn, hg⟩ := h.gr
  have HH := Lib.hid hg
  have HA := Lib.hid hn
  clear hn h hg
  go_enter Try.func15, Try.ntmps15
  go_wp2_with (first
    | (go_at_call 22; refine (ghas_some HH.out _).mono ?_; rintro e w1 ⟨rfl, rfl⟩; rw [HA.out])
    | (go_at_call 35; refine (wrap_iface _ _ _ _).mono ?_; rintro e w' ⟨rfl, hw⟩; have HR := Lib.hid (refused_of hw); clear hw))
  go_ret
  exact ⟨_, rfl, HR.out⟩
set_option maxRecDepth 100000 in
theorem glink_cycle (h : Gw B W g G N vn) (hG : GOk G) {n m : Nat} (hn : hasB G n = true) (hm : hasB G m = true) (hne : m ≠ n) (hr : Rch G m n) :
    Calls Try.prog 15 #[.pointer (some ⟨g, 0, none⟩), .int .i64 (n : Int), .int .i64 (m : Int)] W fun e w' => ∃ E, e = .returned E ∧ Refused W w' E 16 := by
  obtain ⟨pn, c, q, hvn, hg⟩ := h.gr
  have hnl := has_lt hn
  have hlen := hG.len
  have HH := Lib.hid hg
  have HG := Lib.hid hG
  have HNA : Hid (hasI G (n : Int) = true) := Lib.hid (by rw [hasI_nat]; exact hn)
  have HNB : Hid (hasI G (m : Int) = true) := Lib.hid (by rw [hasI_nat]; exact hm)
  have HHM := Lib.hid hm
  have hmn : ((m : Int) == (n : Int)) = false := by
    rw [beq_eq_false_iff_ne]
    exact fun e => hne (Int.ofNat_inj.1 e)
  have hn64 : n < 64 := by omega
  have hix := run_index_marks (rchB G m) n hn64
  rw [rchB_iff.2 hr] at hix
  clear h hG hg hn hm hne hr
  go_enter Try.func15, Try.ntmps15
  go_wp2_with (first
    | (go_at_call 38; refine (greached' HH.out HG.out HHM.out).mono ?_; rintro e w2 ⟨rfl, hb⟩; have HB2 := Lib.hid hb; clear hb)
    | (go_at_call_of 22 (Value.int IntKind.i64 (n : Int)); refine (ghas_some HH.out _).mono ?_; rintro e w1 ⟨rfl, rfl⟩; rw [HNA.out])
    | (go_at_call 22; refine (ghas_some HH.out _).mono ?_; rintro e w1 ⟨rfl, rfl⟩; rw [HNB.out])
    | (go_at_call 35; refine (wrap_iface _ _ _ _).mono ?_; rintro e w' ⟨rfl, hw⟩; have HR := Lib.hid (bad_wrap HB2.out hw); clear hw))
  go_ret
  exact ⟨_, rfl, HR.out⟩
set_option maxRecDepth 100000 in
theorem glink_there (h : Gw B W g G N vn) (hG : GOk G) {n m : Nat} (hn : hasB G n = true) (hm : hasB G m = true) (hne : m ≠ n) (hr : ¬ Rch G m n) (hni : m ∈ aft G n) :
    Calls Try.prog 15 #[.pointer (some ⟨g, 0, none⟩), .int .i64 (n : Int), .int .i64 (m : Int)] W fun e w' => ∃ E, e = .returned E ∧ Refused W w' E 4 := by
  obtain ⟨pn, c, q, hvn, hg⟩ := h.gr
  have hnl := has_lt hn
  have hlen := hG.len
  obtain rfl := hg.at_ (by omega)
  have HH := Lib.hid hg
  have HG := Lib.hid hG
  have HNA : Hid (hasI G (n : Int) = true) := Lib.hid (by rw [hasI_nat]; exact hn)
  have HNB : Hid (hasI G (m : Int) = true) := Lib.hid (by rw [hasI_nat]; exact hm)
  have HHM := Lib.hid hm
  have HRC : Hid (rchB G m n = false) := Lib.hid (by
    cases e : rchB G m n
    · rfl
    · exact absurd (rchB_iff.1 e) hr)
  have HIN : Hid (inI (aft G n) (m : Int) = true) := Lib.hid (by rw [inI_nat]; simpa using hni)
  have hmn : ((m : Int) == (n : Int)) = false := by
    rw [beq_eq_false_iff_ne]
    exact fun e => hne (Int.ofNat_inj.1 e)
  have hn64 : n < 64 := by omega
  have hix := run_index_marks (rchB G m) n hn64
  rw [HRC.out] at hix
  have HL := Lib.hid (aft_len hG n)
  have HN := Lib.hid (hg.ns n hnl)
  obtain ⟨pa, cca, hva, -⟩ := HN.out
  have HVA := Lib.hid hva
  have HGR : Hid (∀ w, Below W.heap.size W w → w.cell? ⟨g, 0, none⟩ = some (.slice (some ⟨q, 0, none⟩) G.length c) ∧ w.cell? ⟨q, n * 2 + 1, none⟩ = some (.slice pa (aft G n).length cca) ∧ IntsN w (.slice pa (aft G n).length cca) (aft G n)) := Lib.hid fun w hb => by
    have h1 := (HH.out.keep hb).af n hnl
    have h2 := (HH.out.keep hb).ns n hnl
    rw [hva] at h1 h2
    exact ⟨(HH.out.keep hb).c0, h1, h2⟩
  clear h hG hg hn hm hne hr hni hva
  go_enter Try.func15, Try.ntmps15
  go_upto_region 9 with (first
    | (go_at_call 38; refine (greached' HH.out HG.out HHM.out).mono ?_; rintro e w2 ⟨rfl, hb⟩; have HB2 := Lib.hid hb; clear hb)
    | (go_at_call_of 22 (Value.int IntKind.i64 (n : Int)); refine (ghas_some HH.out _).mono ?_; rintro e w1 ⟨rfl, rfl⟩; rw [HNA.out])
    | (go_at_call 22; refine (ghas_some HH.out _).mono ?_; rintro e w1 ⟨rfl, rfl⟩; rw [HNB.out]))
  obtain ⟨c0, ca, hn2⟩ := HGR.out _ HB2.out
  have HN2 := Lib.hid hn2
  clear hn2
  go_wp2_with (first
    | (go_at_call 39; refine (contains_n HN2.out _ HL.out).mono ?_; rintro e w2' ⟨rfl, rfl⟩; rw [HIN.out])
    | (go_at_call 35; refine (wrap_iface _ _ _ _).mono ?_; rintro e w' ⟨rfl, hw⟩; have HR := Lib.hid (bad_wrap HB2.out hw); clear hw))
  go_ret
  exact ⟨_, rfl, HR.out⟩
/-- Whatever is linked. -/
theorem glink (h : Gw B W g G N vn) (hG : GOk G) (hB : B ≤ W.heap.size) (a b : Int) :
    Calls Try.prog 15 #[.pointer (some ⟨g, 0, none⟩), .int .i64 a, .int .i64 b] W fun e w' => ∃ E, e = .returned E ∧ ErrIs w' E (linkBad G a b) ∧ Gs B W w' g G N vn (linkN G a b) := by
  have bad : ∀ n : Int, n ≠ 0 → linkBad G a b = n → (Calls Try.prog 15 #[.pointer (some ⟨g, 0, none⟩), .int .i64 a, .int .i64 b] W fun e w' => ∃ E, e = .returned E ∧ Refused W w' E n) →
      Calls Try.prog 15 #[.pointer (some ⟨g, 0, none⟩), .int .i64 a, .int .i64 b] W fun e w' => ∃ E, e = .returned E ∧ ErrIs w' E (linkBad G a b) ∧ Gs B W w' g G N vn (linkN G a b) := by
    intro n hn he hc
    refine hc.mono ?_
    rintro e w' ⟨E, rfl, hr⟩
    refine ⟨E, rfl, he ▸ .of hr hn, ?_⟩
    unfold linkN
    rw [if_neg (by rw [he]; exact hn)]
    exact .of_below h hr.below
  by_cases h1 : hasI G a = true ∧ hasI G b = true
  · obtain ⟨n, rfl, hn⟩ := hasI_yes h1.1
    obtain ⟨m, rfl, hm⟩ := hasI_yes h1.2
    by_cases h2 : (n : Int) = m
    · refine bad 16 (by decide) (by unfold linkBad; rw [if_pos h1, if_pos (.inl h2)]) ?_
      rw [← h2]
      exact glink_self h _ h1.1
    · have hne : m ≠ n := fun e => h2 (by rw [e])
      by_cases h3 : Rch G m n
      · exact bad 16 (by decide) (by unfold linkBad; rw [if_pos h1, if_pos (.inr h3)]) (glink_cycle h hG hn hm hne h3)
      · have h23 : ¬ ((n : Int) = m ∨ Rch G (m : Int).toNat (n : Int).toNat) := fun e => e.elim h2 h3
        by_cases h4 : m ∈ aft G n
        · exact bad 4 (by decide) (by unfold linkBad; rw [if_pos h1, if_neg h23, if_pos (show (m : Int).toNat ∈ aft G (n : Int).toNat from h4)]) (glink_there h hG hn hm hne h3 h4)
        · have e0 : linkBad G (n : Int) (m : Int) = 0 := by unfold linkBad; rw [if_pos h1, if_neg h23, if_neg (show ¬ (m : Int).toNat ∈ aft G (n : Int).toNat from h4)]
          refine (glink_ok h hG hB hn hm hne h3 h4).mono ?_
          rintro e w' ⟨rfl, hs⟩
          refine ⟨_, rfl, by rw [e0]; exact .none _, ?_⟩
          unfold linkN
          rw [if_pos e0]
          exact hs
  · exact bad 3 (by decide) (by unfold linkBad; rw [if_neg h1]) (glink_none h a b h1)
end
end Go.Proofs.Ytggjimeligbmcab
