/-
  What layer 13's statements use: In, same, small, Begun, the example; by contract. Conditions: at most 80 things done, of at most 20 names each.
-/
import Derived.Test.YtggjimeligbmcabGr15
import Derived.BigQuiet
namespace Go.Proofs.Ytggjimeligbmcab
open Go.RowKit
set_option linter.unusedVariables false

section
variable {w w' W : World} {v va vb : Value} {l l1 l2 : List Nat}
theorem FL.ints (h : FL W w v l) : IntsN w v l := .of_row h.1
theorem gin (h : IntsN w v l) (x : Int) (hl : l.length ≤ 1000) :
    Calls Try.prog 34 #[v, .int .i64 x] w fun e w' => e = .returned (.bool (inI l x)) ∧ w = w' := by
  obtain ⟨p, c, rfl, hc⟩ := h
  have HC := Lib.hid hc
  clear hc
  go_enter Try.func34, Try.ntmps34
  go_wp2
  go_loopw [5] (fun iv wl => wl = w ∧ ∃ k : Nat, k ≤ l.length ∧ iv = .int .i64 k ∧ Hid (∀ j, j < k → ((l.getD j 0 : Nat) : Int) ≠ x)) (fun iv _ => l.length - (intOf iv).toNat)
  case atStart => exact ⟨rfl, 0, Nat.zero_le _, rfl, Lib.hid fun j h => absurd h (Nat.not_lt_zero _)⟩
  case round =>
    obtain ⟨rfl, k, hk, rfl, HJ⟩ := hrel
    by_cases hlt : k < l.length
    · obtain ⟨b, off, rfl, hc⟩ := HC.out.resolve_left (by omega)
      have ck := hc k hlt
      have HM : Hid (l.getD k 0 ∈ l) := Lib.hid (by
        rw [List.getD_eq_getElem?_getD, List.getElem?_eq_getElem hlt]
        exact List.getElem_mem _)
      clear hc
      have HJN : Hid (((l.getD k 0 : Nat) : Int) ≠ x → ∀ j, j < k + 1 → ((l.getD j 0 : Nat) : Int) ≠ x) := Lib.hid fun e j hj => by
        by_cases e2 : j = k
        · rw [e2]; exact e
        · exact HJ.out j (by omega)
      generalize l.getD k 0 = y at *
      by_cases e : (y : Int) = x
      · have hb : ((y : Int) == x) = true := by simpa using e
        have HI : Hid (inI l x = true) := Lib.hid (by rw [← e, inI_nat]; simpa using HM.out)
        have HE := Lib.hid e
        clear e
        go_wp2_with fail
        go_ret
        rw [HI.out]
        exact ⟨rfl, rfl⟩
      · have hb : ((y : Int) == x) = false := by simpa using e
        have HE := Lib.hid e
        clear e
        go_wp2_with fail
        exact ⟨⟨trivial, k + 1, by omega, by go_num, Lib.hid (HJN.out HE.out)⟩, by simp [intOf]; omega⟩
    · obtain rfl : k = l.length := by omega
      have HI : Hid (inI l x = false) := Lib.hid (by
        unfold inI
        rw [Bool.eq_false_iff]
        intro h
        rw [List.contains_iff_mem] at h
        obtain ⟨a, ha, e⟩ := List.mem_map.1 h
        obtain ⟨j, hj, e2⟩ := List.getElem_of_mem ha
        refine HJ.out j hj ?_
        rw [← e, ← e2]
        simp [hj])
      go_wp2_with fail
      go_ret
      rw [HI.out]
      exact ⟨rfl, rfl⟩
theorem list_ext {l1 l2 : List Nat} (h : l1.length = l2.length) (hj : ∀ j, j < l1.length → l1.getD j 0 = l2.getD j 0) : l1 = l2 := by
  apply List.ext_getElem h
  intro j h1 h2
  have := hj j h1
  simpa [h1, h2] using this
theorem gsame (h1 : IntsN w va l1) (h2 : IntsN w vb l2) (hl : l1.length ≤ 1000) :
    Calls Try.prog 24 #[va, vb] w fun e w' => e = .returned (.bool (decide (l1 = l2))) ∧ Below w.heap.size w w' := by
  obtain ⟨p1, c1, rfl, hc1⟩ := h1
  obtain ⟨p2, c2, rfl, hc2⟩ := h2
  have HC1 := Lib.hid hc1
  have HC2 := Lib.hid hc2
  clear hc1 hc2
  by_cases hne : l1.length = l2.length
  · have hb : ((l1.length : Int) == (l2.length : Int)) = true := by rw [hne]; exact beq_self_eq_true _
    have HNE := Lib.hid hne
    rw [← hne]
    clear hne hb
    go_enter Try.func24, Try.ntmps24
    go_wp2
    go_loopw [13] (fun iv wl => Hid (Below w.heap.size w wl) ∧ ∃ k : Nat, k ≤ l1.length ∧ iv = .int .i64 k ∧ Hid (∀ j, j < k → l1.getD j 0 = l2.getD j 0)) (fun iv _ => l1.length - (intOf iv).toNat)
    case atStart => exact ⟨Lib.hid (Below.refl _ _), 0, Nat.zero_le _, rfl, Lib.hid fun j h => absurd h (Nat.not_lt_zero _)⟩
    case round =>
      obtain ⟨HB, k, hk, rfl, HJ⟩ := hrel
      by_cases hlt : k < l1.length
      · obtain ⟨b1, o1, rfl, hc1⟩ := HC1.out.resolve_left (by omega)
        obtain ⟨b2, o2, rfl, hc2⟩ := HC2.out.resolve_left (by have := HNE.out; omega)
        have k1 := keepc HB.out (hc1 k hlt)
        have k2 := keepc HB.out (hc2 k (by have := HNE.out; omega))
        clear hc1 hc2
        have HJN : Hid (l1.getD k 0 = l2.getD k 0 → ∀ j, j < k + 1 → l1.getD j 0 = l2.getD j 0) := Lib.hid fun e j hj => by
          by_cases e2 : j = k
          · rw [e2]; exact e
          · exact HJ.out j (by omega)
        have HNJ : Hid (l1.getD k 0 ≠ l2.getD k 0 → l1 ≠ l2) := Lib.hid fun e e2 => e (by rw [e2])
        generalize l1.getD k 0 = x at *
        generalize l2.getD k 0 = y at *
        by_cases e : x = y
        · subst e
          have HE := Lib.hid (HJN.out rfl)
          clear HJN HNJ
          go_upto_region 6 with fail
          go_quiet (fail)
          go_wp2_with fail
          exact ⟨⟨Lib.hid (drewB HB.out _), k + 1, by omega, by go_num, HE⟩, by simp [intOf]; omega⟩
        · have hb : ((x : Int) == (y : Int)) = false := by
            rw [beq_eq_false_iff_ne]
            exact fun e2 => e (Int.ofNat_inj.1 e2)
          have HE : Hid (decide (l1 = l2) = false) := Lib.hid (decide_eq_false (HNJ.out e))
          clear e HJN HNJ
          go_upto_region 6 with fail
          go_quiet (fail)
          go_wp2_with fail
          go_ret
          rw [HE.out]
          exact ⟨rfl, drewB HB.out _⟩
      · obtain rfl : k = l1.length := by omega
        have HE : Hid (decide (l1 = l2) = true) := Lib.hid (decide_eq_true (list_ext HNE.out HJ.out))
        go_wp2_with fail
        go_ret
        rw [HE.out]
        exact ⟨rfl, HB.out⟩
  · have hb : ((l1.length : Int) == (l2.length : Int)) = false := by
      rw [beq_eq_false_iff_ne]
      exact fun e => hne (Int.ofNat_inj.1 e)
    have HE : Hid (decide (l1 = l2) = false) := Lib.hid (decide_eq_false fun e => hne (by rw [e]))
    clear hne
    go_enter Try.func24, Try.ntmps24
    go_wp2_with fail
    go_ret
    rw [HE.out]
    exact ⟨rfl, Below.refl _ _⟩
end
end Go.Proofs.Ytggjimeligbmcab
