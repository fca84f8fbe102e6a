/-
  The document's Look and Steps of barriers, by contract. No condition but those that each theorem names.
-/
import Derived.Test.YtejkjpmigajidaaR9
namespace Go.Proofs.Ytejkjpmigajidaa
open Go.RowKit
set_option linter.unusedVariables false

/-- Up to where all is shown, from at on. -/
def upP (sh : List Int) (cur : Int) : Nat → Int → Int
  | 0, at_ => at_
  | k + 1, at_ => if at_ < cur ∧ at_ + 1 ∈ sh then upP sh cur k (at_ + 1) else at_
def lookP (next cur : Int) (af : List Int) (buf : Bool) (sh : List Int) : Int :=
  if 0 < af.length then (if leastP (af.getD 0 0) af < next then next - 1 else leastP (af.getD 0 0) af)
  else if cur < next then next - 1 else if buf then upP sh cur (cur - next + 1).toNat (next - 1) else cur
def stepsP (next cur n : Int) (buf : Bool) (at_ : Int) : Int :=
  if 0 < n then 1 + n else if cur < next ∨ buf = false then 2 else 2 + (at_ - next + 1 + if at_ < cur then 1 else 0)
set_option maxHeartbeats 1000000 in
theorem rsteps12 {W : World} (next cur n : Int) (buf : Bool) (at_ : Int) (h1 : 0 ≤ next ∧ next ≤ 1000) (h2 : -1 ≤ cur ∧ cur ≤ 1000) (h3 : 0 ≤ n ∧ n ≤ 8) (h4 : -1 ≤ at_ ∧ at_ ≤ 1000) :
    Calls Try.prog 77 #[.int .i64 next, .int .i64 cur, .int .i64 n, .bool buf, .int .i64 at_] W fun e w' => e = .returned (.int .i64 (stepsP next cur n buf at_)) ∧ W = w' := by
  unfold stepsP
  by_cases hn : 0 < n
  · rw [if_pos hn]
    have d : decide (0 < n) = true := decide_eq_true hn
    go_enter Try.func77, Try.ntmps77
    go_wp2
    go_ret
    exact ⟨rfl, rfl⟩
  · rw [if_neg hn]
    have d : decide (0 < n) = false := decide_eq_false hn
    by_cases hc : cur < next
    · rw [if_pos (.inl hc)]
      have d2 : decide (cur < next) = true := decide_eq_true hc
      go_enter Try.func77, Try.ntmps77
      go_wp2
      go_ret
      exact ⟨rfl, rfl⟩
    · have d2 : decide (cur < next) = false := decide_eq_false hc
      cases buf with
      | false =>
        rw [if_pos (.inr rfl)]
        go_enter Try.func77, Try.ntmps77
        go_wp2
        go_ret
        exact ⟨rfl, rfl⟩
      | true =>
        rw [if_neg (by simp [hc])]
        by_cases ha : at_ < cur
        · rw [if_pos ha]
          have d3 : decide (at_ < cur) = true := decide_eq_true ha
          go_enter Try.func77, Try.ntmps77
          go_wp2
          go_ret
          exact ⟨by go_num, rfl⟩
        · rw [if_neg ha]
          have d3 : decide (at_ < cur) = false := decide_eq_false ha
          go_enter Try.func77, Try.ntmps77
          go_wp2
          go_ret
          exact ⟨by go_num, rfl⟩
theorem upP_yes {sh : List Int} {cur a : Int} (h : a < cur) (hm : a + 1 ∈ sh) : upP sh cur (cur - a).toNat a = upP sh cur (cur - (a + 1)).toNat (a + 1) := by
  obtain ⟨k, hk⟩ : ∃ k, (cur - a).toNat = k + 1 := ⟨(cur - a).toNat - 1, by omega⟩
  rw [hk, show (cur - (a + 1)).toNat = k by omega]
  show (if a < cur ∧ a + 1 ∈ sh then upP sh cur k (a + 1) else a) = _
  rw [if_pos ⟨h, hm⟩]
theorem upP_no {sh : List Int} {cur a : Int} (hm : a + 1 ∉ sh) (k : Nat) : upP sh cur k a = a := by
  cases k with
  | zero => rfl
  | succ k => exact if_neg fun h => hm h.2
theorem mem_take {sh : List Int} {j : Nat} (h : j < sh.length) (x : Int) : decide (x ∈ sh.take (j + 1)) = (decide (x ∈ sh.take j) || decide (sh.getD j 0 = x)) := by
  rw [take_snoc h, Bool.eq_iff_iff]
  simp only [decide_eq_true_eq, List.mem_append, List.mem_singleton, Bool.or_eq_true]
  exact ⟨fun e => e.imp id Eq.symm, fun e => e.imp id Eq.symm⟩
section
variable {W : World} {va vs : Value} {af sh : List Int}
set_option maxHeartbeats 1000000 in
theorem rlook12 (ha : LngAt W va af) (hs : LngAt W vs sh) (next cur : Int) (buf : Bool) (h1 : 0 ≤ next ∧ next ≤ 1000) (h2 : -1 ≤ cur ∧ cur ≤ 1000) (h3 : af.length ≤ 8) (h4 : sh.length ≤ 60) :
    Calls Try.prog 76 #[.int .i64 next, .int .i64 cur, va, .bool buf, vs] W fun e w' => e = .returned (.int .i64 (lookP next cur af buf sh)) ∧ W = w' := by
  obtain ⟨pa, ca, rfl, ha⟩ := ha
  obtain ⟨ps, cs, rfl, hs⟩ := hs
  have HA := Lib.hid ha
  have HS := Lib.hid hs
  clear ha hs
  unfold lookP
  by_cases hn : 0 < af.length
  · rw [if_pos hn]
    obtain ⟨b, o, rfl, hc⟩ := HA.out.resolve_left (by omega)
    have c0 := hc 0 hn
    have d : decide ((0 : Int) < (af.length : Int)) = true := decide_eq_true (by omega)
    have i0 : (0 : Int) < (af.length : Int) := by omega
    rw [Nat.add_zero] at c0
    have HT : Hid (∀ j, j < af.length → leastP (af.getD 0 0) (af.take (j + 1)) = min (leastP (af.getD 0 0) (af.take j)) (af.getD j 0)) := Lib.hid fun j hj => leastP_take hj _
    have H0 : Hid (leastP (af.getD 0 0) (af.take 0) = af.getD 0 0) := Lib.hid rfl
    have HF : Hid (leastP (af.getD 0 0) (af.take af.length) = leastP (af.getD 0 0) af) := Lib.hid (by rw [List.take_length])
    have HC := Lib.hid hc
    clear hc HA
    generalize hz0 : af.getD 0 0 = z0 at *
    clear hz0
    obtain ⟨r, hr⟩ : ∃ r, (if leastP z0 af < next then next - 1 else leastP z0 af) = r := ⟨_, rfl⟩
    rw [hr]
    have HR := Lib.hid hr
    clear hr
    go_enter Try.func76, Try.ntmps76
    go_wp2_with fail
    clear c0
    go_loopw [11, 12] (fun nv i wl => ∃ j : Nat, j ≤ af.length ∧ i = .int .i64 j ∧ nv = .int .i64 (leastP z0 (af.take j)) ∧ wl = W) (fun _ i _ => af.length - (intOf i).toNat)
    case atStart => exact ⟨0, Nat.zero_le _, rfl, by rw [H0.out], rfl⟩
    case round =>
      obtain ⟨j, hj, rfl, rfl, rfl⟩ := hrel
      by_cases hlt : j < af.length
      · have cj := HC.out j hlt
        have HTJ := Lib.hid (HT.out j hlt)
        clear HT HF H0
        generalize af.getD j 0 = z at *
        generalize leastP z0 (af.take j) = y at *
        by_cases hz : z < y
        · have d1 : decide (z < y) = true := decide_eq_true hz
          go_wp2
          exact ⟨⟨j + 1, by omega, by go_num, by rw [HTJ.out, Int.min_eq_right (by omega)], by first | trivial | rfl⟩, by simp [intOf]; omega⟩
        · have d1 : decide (z < y) = false := decide_eq_false hz
          go_wp2
          exact ⟨⟨j + 1, by omega, by go_num, by rw [HTJ.out, Int.min_eq_left (by omega)], by first | trivial | rfl⟩, by simp [intOf]; omega⟩
      · obtain rfl : j = af.length := by omega
        rw [HF.out]
        clear HT HF H0
        have hr := HR.out
        clear HR
        generalize leastP z0 af = m at *
        by_cases hm : m < next
        · have d1 : decide (m < next) = true := decide_eq_true hm
          rw [if_pos hm] at hr
          subst hr
          go_wp2
          go_ret
          exact ⟨rfl, rfl⟩
        · have d1 : decide (m < next) = false := decide_eq_false hm
          rw [if_neg hm] at hr
          subst hr
          go_wp2
          go_ret
          exact ⟨rfl, rfl⟩
  · rw [if_neg hn]
    have hz : af.length = 0 := by omega
    have d : decide ((0 : Int) < (af.length : Int)) = false := decide_eq_false (by omega)
    clear HA hn
    by_cases hc : cur < next
    · have d2 : decide (cur < next) = true := decide_eq_true hc
      rw [if_pos hc]
      clear hc
      go_enter Try.func76, Try.ntmps76
      go_wp2
      go_ret
      exact ⟨rfl, rfl⟩
    · have d2 : decide (cur < next) = false := decide_eq_false hc
      rw [if_neg hc]
      cases buf with
      | false =>
        go_enter Try.func76, Try.ntmps76
        go_wp2
        go_ret
        exact ⟨rfl, rfl⟩
      | true =>
        rw [if_pos rfl]
        obtain ⟨r, hr⟩ : ∃ r, upP sh cur (cur - next + 1).toNat (next - 1) = r := ⟨_, rfl⟩
        rw [hr]
        have HR : Hid (upP sh cur (cur - (next - 1)).toNat (next - 1) = r) := Lib.hid (by rw [← hr]; congr 1; omega)
        have HC : Hid (next ≤ cur) := Lib.hid (by omega)
        clear hr hc
        go_enter Try.func76, Try.ntmps76
        go_wp2_with fail
        clear d d2
        go_loopw [13] (fun av wl => ∃ a : Int, next - 1 ≤ a ∧ a ≤ cur ∧ av = .int .i64 a ∧ Hid (upP sh cur (cur - a).toNat a = r) ∧ wl = W) (fun av _ => (cur - intOf av).toNat)
        case atStart => exact ⟨next - 1, by omega, by have := HC.out; omega, rfl, HR, rfl⟩
        case round =>
          clear HR
          obtain ⟨a, ha1, ha2, rfl, HR, rfl⟩ := hrel
          by_cases hlt : a < cur
          · have d1 : decide (a < cur) = true := decide_eq_true hlt
            go_wp2_with fail
            go_loopw [14, 15] (fun fv iv wl => ∃ j : Nat, j ≤ sh.length ∧ iv = .int .i64 j ∧ fv = .bool (decide (a + 1 ∈ sh.take j)) ∧ wl = wr) (fun _ iv _ => sh.length - (intOf iv).toNat)
            case atStart => exact ⟨0, Nat.zero_le _, rfl, by simp, rfl⟩
            case round =>
              obtain ⟨j, hj, rfl, rfl, rfl⟩ := hrel
              by_cases hjl : j < sh.length
              · obtain ⟨b, o, rfl, hcc⟩ := HS.out.resolve_left (by omega)
                have cj := hcc j hjl
                have HM := Lib.hid (mem_take hjl (a + 1))
                clear hcc
                generalize sh.getD j 0 = z at *
                generalize decide (a + 1 ∈ sh.take j) = fb at *
                cases fb with
                | true =>
                  go_wp2_with fail
                  exact ⟨⟨j + 1, by omega, by go_num, by rw [HM.out]; rfl, by first | trivial | rfl⟩, by simp [intOf]; omega⟩
                | false =>
                  by_cases hz : z = a + 1
                  · have d2 : (z == a + 1) = true := by rw [beq_iff_eq]; exact hz
                    have HZ := Lib.hid hz
                    clear hz
                    go_wp2_with fail
                    exact ⟨⟨j + 1, by omega, by go_num, by rw [HM.out, decide_eq_true HZ.out]; rfl, by first | trivial | rfl⟩, by simp [intOf]; omega⟩
                  · have d2 : (z == a + 1) = false := by rw [beq_eq_false_iff_ne]; exact hz
                    have HZ := Lib.hid hz
                    clear hz
                    go_wp2_with fail
                    exact ⟨⟨j + 1, by omega, by go_num, by rw [HM.out, decide_eq_false HZ.out]; rfl, by first | trivial | rfl⟩, by simp [intOf]; omega⟩
              · obtain rfl : j = sh.length := by omega
                have hr := HR.out
                rw [List.take_length]
                by_cases hm : a + 1 ∈ sh
                · rw [decide_eq_true hm]
                  rw [upP_yes hlt hm] at hr
                  have HR2 := Lib.hid hr
                  clear hr hm HR
                  go_wp2_with fail
                  exact ⟨⟨a + 1, by omega, by omega, by go_num, HR2, by first | trivial | rfl⟩, by simp [intOf]; omega⟩
                · rw [decide_eq_false hm]
                  rw [upP_no hm] at hr
                  subst hr
                  clear hm HR
                  go_wp2_with fail
                  go_ret
                  exact ⟨rfl, rfl⟩
          · have hr := HR.out
            rw [show (cur - a).toNat = 0 by omega] at hr
            have hr2 : a = r := hr
            subst hr2
            clear hr HR
            have d1 : decide (a < cur) = false := decide_eq_false hlt
            go_wp2_with fail
            go_ret
            exact ⟨rfl, rfl⟩
end
end Go.Proofs.Ytejkjpmigajidaa
