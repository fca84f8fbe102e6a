/-
  SlotsSpans' walk. Conditions: at most 100 events.
-/
import Derived.Test.YtnimmkgdgdhkfaaSpan
import Derived.Test.YtnimmkgdgdhkfaaEvEq
import Derived.Deep.DeepCutAuto
import Derived.Deep.CutBlock
namespace Go.Proofs.Ytnimmkgdgdhkfaa
open Go.RowKit

set_option maxRecDepth 100000 in
set_option maxHeartbeats 4000000 in
theorem spans_walk (W : World) (sh lo a b' : Int) (v : Value) (n : Nat) (fld : Nat → Nat → Int) (hO : OpsAt W v n 2 fld) (hn : n ≤ 100) (k : Nat) (hsh : 0 ≤ sh) (hs : sh % 7 = k) (hk : k < 7) (h0 : 0 ≤ lo) (h1 : lo ≤ 4611686018427387904) (h2 : (n : Int) ≤ 4611686018427387904 - lo) (hbw : -9223372036854775808 ≤ b' ∧ b' ≤ 9223372036854775807) :
    Calls Try.prog 9 #[.int .u8 sh, .int .i64 lo, v, .int .i64 a, .int .i64 b'] W fun e w' => e = .returned (.bool true) ∧ Below W.heap.size W w' := by
  obtain ⟨p, cap, hv, hnm, hc⟩ := id hO
  have HO := Lib.hid hO
  subst hv
  have HC := Lib.hid hc
  have HS := Lib.hid hs
  have ht : sh.tmod 7 = (k : Int) := by rw [Int.tmod_eq_emod_of_nonneg hsh]; exact hs
  have wt := wrap_two k (by omega)
  have d100 : decide ((100 : Int) < (n : Int)) = false := decide_eq_false (by omega)
  have hk20 : k ≤ 20 := by omega
  obtain ⟨N, hN⟩ : ∃ N : Nat, (N : Int) = two k := ⟨(two k).toNat, by have := two_pos k; omega⟩
  have HN := Lib.hid hN
  clear hc hnm hs hO hN hsh
  go_enter Try.func9, Try.ntmps9
  go_upto_region 4 with fail
  rw [wt]
  clear wt ht
  have HFG : Hid (∀ j, j < n → (n : Int) - j ≤ two k → (fillN (List.replicate N (0, 0)) k lo (fun j => (fld j 0, fld j 1)) n)[((lo + j) % two k).toNat]? = some (fld j 0, fld j 1)) :=
    Lib.hid fun j h1 h2 => fillN_get _ k lo _ (by simpa using HN.out) n j h1 h2
  generalize hxs : fillN (List.replicate N (0, 0)) k lo (fun j => (fld j 0, fld j 1)) n = xs at *
  have HXS := Lib.hid hxs
  have htw := two_pos k
  have htl := two_le hk20
  clear hxs
  go_upto_if 90 with (first
    | (go_at_call 39; refine (rnew_ok k N hk20 HN.out _).mono ?_; rintro e w1 hn; obtain ⟨b, g, c, rfl, hm⟩ := hn.mine; have HM := Lib.hid hm; clear hm hn)
    | (go_at_call 45; refine (fill_ok HM.out lo _ n fld HO.out h0 h1 h2).mono ?_; rintro e w2 ⟨rfl, hm⟩; rw [HXS.out] at hm; have HM2 := Lib.hid hm; clear hm HM))
  obtain ⟨m, hm⟩ : ∃ m : Nat, min (n : Int) (two k) = (m : Int) := ⟨(min (n : Int) (two k)).toNat, by omega⟩
  have hmn : m ≤ n := by omega
  have hmk : (m : Int) ≤ two k := by omega
  have hml : m = n ∨ (m : Int) = two k := by omega
  rw [hm]
  have HML := Lib.hid hml
  clear hm hml
  go_cut [] (fun wx => Hid (MineR W wx b g c k xs))
  case first =>
    rcases Nat.eq_zero_or_pos m with h0m | h0m
    · subst h0m
      go_wp2_with fail
      go_meet
      exact HM2
    · have d0 : decide (0 < (m : Int)) = true := decide_eq_true (by omega)
      have d0' : decide (0 < m) = true := decide_eq_true (by omega)
      obtain ⟨pb, off, hp, hcell⟩ := HC.out.resolve_left (by omega)
      subst hp
      have hlo : 0 ≤ lo + (n : Int) - 1 - m + 1 := by omega
      have hSP : Hid (Calls Try.prog 46 #[.pointer (some ⟨b, 0, none⟩), .int .i64 (lo + (n : Int) - 1 - m + 1), .int .i64 (lo + (n : Int) - 1)] w2 fun e w' => ∃ v, e = .returned (.tuple #[v, .nilIface]) ∧ Row2 w2 w' v (spanL xs k (lo + (n : Int) - 1 - m + 1) m)) :=
        span_ok _ _ w2 b g c k xs HM2.out.1 (by omega) (by omega) (by omega) (by omega) m (by omega)
      have hCell : Hid (∀ w3, Below w2.heap.size w2 w3 → ∀ j, j < n → w3.cell? ⟨pb, off + j * 2, none⟩ = some (.int .i64 (fld j 0)) ∧ w3.cell? ⟨pb, off + j * 2 + 1, none⟩ = some (.int .i64 (fld j 1))) := by
        intro w3 hb j hj
        have h1 := keepc (bthen HM2.out.2.1 hb) (hcell j hj 0 (by decide)).1
        have h2 := keepc (bthen HM2.out.2.1 hb) (hcell j hj 1 (by decide)).1
        exact ⟨h1, h2⟩
      clear hcell
      go_wp2_with (go_at_call 46; refine hSP.out.mono ?_; rintro e w3 ⟨v3, rfl, hr⟩; obtain ⟨p3, c3, rfl, hc3⟩ := row_form hr.1; have hl3 := spanL_len xs k (lo + (n : Int) - 1 - m + 1) m; rw [hl3]; have HR3 := Lib.hid hr; clear hr hc3 hl3)
      go_loopw [116] (fun i wl => ∃ j : Nat, j ≤ m ∧ i = .int .i64 j ∧ Hid (Below w3.heap.size w3 wl)) (fun i _ => m - (intOf i).toNat)
      case atStart => exact ⟨0, Nat.zero_le _, rfl, Lib.hid (Below.refl _ _)⟩
      case round =>
        obtain ⟨j, hj, rfl, HBL⟩ := hrel
        by_cases hlt : j < m
        · obtain ⟨q, hq⟩ : ∃ q : Nat, (n : Int) - m + j = q := ⟨n - m + j, by omega⟩
          have hqn : q < n := by omega
          have hcl := hCell.out wr (bthen HR3.out.2.1 HBL.out) q hqn
          have hxa := HFG.out q hqn (by have := HML.out; omega)
          have hsl := spanL_get xs k (lo + (n : Int) - 1 - m + 1) m j (fld q 0, fld q 1) hlt (by rw [show lo + (n : Int) - 1 - m + 1 + j = lo + q by omega]; exact hxa)
          obtain ⟨g3, hg3⟩ : ∃ g3, p3 = some ⟨g3, 0, none⟩ := by
            rcases HR3.out.1.2 with ⟨h, _⟩ | ⟨g3, cap3, cur3, h, _⟩
            · have := spanL_len xs k (lo + (n : Int) - 1 - m + 1) m
              simp at h; omega
            · simp at h; exact ⟨g3, h.1⟩
          subst hg3
          obtain ⟨e0, e1⟩ := flat2_get hsl
          have hl3 := spanL_len xs k (lo + (n : Int) - 1 - m + 1) m
          have hrow := (Frm.of_below HBL.out fun _ => False).row HR3.out.1 fun _ _ => id
          rw [hl3] at hrow
          have k0 := (hrow.cellAt (j * 2) (by omega)).trans e0
          have k1 := (hrow.cellAt (j * 2 + 1) (by omega)).trans e1
          obtain ⟨l0, l1⟩ := hcl
          have heq := neqEv_same (fld q 0) (fld q 1)
          have hw1 : IntKind.i64.wrap ((n : Int) - (m : Int)) = (n : Int) - (m : Int) := IntWalk.i64_in _ (by omega)
          have hw2 : IntKind.i64.wrap ((n : Int) - (m : Int) + (j : Int)) = (q : Int) := by rw [hq]; exact IntWalk.i64_in _ (by omega)
          have dj : decide ((0 : Int) ≤ (j : Int)) = true := decide_eq_true (by omega)
          have dq : decide ((0 : Int) ≤ (q : Int)) = true := decide_eq_true (by omega)
          clear hrow hxa hsl hl3 e0 e1 hq
          go_wp2_with fail
          go_quiet (fail)
          clear heq hw1 hw2
          go_wp2
          exact ⟨⟨j + 1, by omega, by go_num, Lib.hid (drewB HBL.out nq)⟩, by simp [intOf]; omega⟩
        · obtain rfl : j = m := by omega
          go_wp2_with fail
          go_meet
          exact Lib.hid (HM2.out.keep (bthen HR3.out.2.1 HBL.out))
  case rest =>
    have HCUT := Lib.hid hcut.out
    clear hcut HM2 HFG HML HC
    by_cases ha : a < 0 ∨ 4611686018427387904 < a
    · have HA := Lib.hid ha
      have HSP : Hid (∀ w1, MineR W w1 b g c k xs → Calls Try.prog 46 #[.pointer (some ⟨b, 0, none⟩), .int .i64 a, .int .i64 b'] w1 fun e w' => ∃ E, e = .returned (.tuple #[.slice none 0 0, E]) ∧ Refused w1 w' E 5) := Lib.hid fun w1 h => span_bad a b' w1 b g c k xs h.1 ha
      rcases ha with ha | ha
      · go_wp2_with (first
          | (go_at_call 46; refine (HSP.out _ HCUT.out).mono ?_; rintro e w5 ⟨E, rfl, hr⟩; have HR := Lib.hid hr; clear hr)
          | (go_at_call 38; refine (awake6 _).mono ?_; rintro e w6 ⟨rfl, hb6⟩; have hch := HR.out.hold hb6; have HB6 := Lib.hid (bthen HCUT.out.2.1 (bthen HR.out.below hb6)); clear hb6)
          | (go_at_call 16; refine (isN_chain 5 _ 1 5 (by assumption) (by decide)).mono ?_; rintro e y ⟨rfl, rfl⟩))
        go_ret
        exact ⟨rfl, HB6.out⟩
      · have ha' : ¬ a < 0 := by omega
        go_wp2_with (first
          | (go_at_call 46; refine (HSP.out _ HCUT.out).mono ?_; rintro e w5 ⟨E, rfl, hr⟩; have HR := Lib.hid hr; clear hr)
          | (go_at_call 38; refine (awake6 _).mono ?_; rintro e w6 ⟨rfl, hb6⟩; have hch := HR.out.hold hb6; have HB6 := Lib.hid (bthen HCUT.out.2.1 (bthen HR.out.below hb6)); clear hb6)
          | (go_at_call 16; refine (isN_chain 5 _ 1 5 (by assumption) (by decide)).mono ?_; rintro e y ⟨rfl, rfl⟩))
        go_ret
        exact ⟨rfl, HB6.out⟩
    · have a0 : 0 ≤ a := by omega
      have a1 : a ≤ 4611686018427387904 := by omega
      clear ha
      by_cases hb : b' < a ∨ 4611686018427387904 < b' ∨ two k ≤ b' - a
      · have HSP : Hid (∀ w1, MineR W w1 b g c k xs → Calls Try.prog 46 #[.pointer (some ⟨b, 0, none⟩), .int .i64 a, .int .i64 b'] w1 fun e w' => ∃ E, e = .returned (.tuple #[.slice none 0 0, E]) ∧ Refused w1 w' E 1) := Lib.hid fun w1 h => span_arg a b' w1 b g c k xs h.1 a0 a1 hbw hb
        by_cases hb1 : b' < a
        · clear hb hbw
          go_wp2_with (first
            | (go_at_call 46; refine (HSP.out _ HCUT.out).mono ?_; rintro e w5 ⟨E, rfl, hr⟩; have HR := Lib.hid hr; clear hr)
            | (go_at_call 38; refine (awake6 _).mono ?_; rintro e w6 ⟨rfl, hb6⟩; have hch := HR.out.hold hb6; have HB6 := Lib.hid (bthen HCUT.out.2.1 (bthen HR.out.below hb6)); clear hb6)
            | (go_at_call 16; refine (isN_chain 1 _ 1 1 (by assumption) (by decide)).mono ?_; rintro e y ⟨rfl, rfl⟩))
          go_ret
          exact ⟨rfl, HB6.out⟩
        · by_cases hb2 : 4611686018427387904 < b'
          · clear hb hbw
            go_wp2_with (first
              | (go_at_call 46; refine (HSP.out _ HCUT.out).mono ?_; rintro e w5 ⟨E, rfl, hr⟩; have HR := Lib.hid hr; clear hr)
              | (go_at_call 38; refine (awake6 _).mono ?_; rintro e w6 ⟨rfl, hb6⟩; have hch := HR.out.hold hb6; have HB6 := Lib.hid (bthen HCUT.out.2.1 (bthen HR.out.below hb6)); clear hb6)
              | (go_at_call 16; refine (isN_chain 1 _ 1 1 (by assumption) (by decide)).mono ?_; rintro e y ⟨rfl, rfl⟩))
            go_ret
            exact ⟨rfl, HB6.out⟩
          · have hb3 : two k ≤ b' - a := by omega
            clear hb hbw
            go_wp2_with (first
              | (go_at_call 46; refine (HSP.out _ HCUT.out).mono ?_; rintro e w5 ⟨E, rfl, hr⟩; have HR := Lib.hid hr; clear hr)
              | (go_at_call 38; refine (awake6 _).mono ?_; rintro e w6 ⟨rfl, hb6⟩; have hch := HR.out.hold hb6; have HB6 := Lib.hid (bthen HCUT.out.2.1 (bthen HR.out.below hb6)); clear hb6)
              | (go_at_call 16; refine (isN_chain 1 _ 1 1 (by assumption) (by decide)).mono ?_; rintro e y ⟨rfl, rfl⟩))
            go_ret
            exact ⟨rfl, HB6.out⟩
      · have b0 : a ≤ b' := by omega
        have b1 : b' ≤ 4611686018427387904 := by omega
        have b2 : b' - a < two k := by omega
        obtain ⟨q, hq⟩ : ∃ q : Nat, b' - a + 1 = (q : Int) := ⟨(b' - a + 1).toNat, by omega⟩
        have HQ := Lib.hid hq
        clear hb hbw hq
        go_wp2_with (first
          | (go_at_call 46; refine (span_ok a b' _ b g c k xs HCUT.out.1 a0 b0 b1 b2 q HQ.out).mono ?_; rintro e w5 ⟨v5, rfl, hr⟩; obtain ⟨p5, c5, rfl, hc5⟩ := row_form hr.1; have hl5 := spanL_len xs k a q; rw [hl5]; have HR := Lib.hid hr; clear hr hc5 hl5)
          | (go_at_call 38; refine (awake6 _).mono ?_; rintro e w6 ⟨rfl, hb6⟩; have HB6 := Lib.hid (bthen HCUT.out.2.1 (bthen HR.out.2.1 hb6)); clear hb6; have hqe : ((q : Int) == b' - a + 1) = true := by { have := HQ.out; simp; omega })
          | fail)
        go_ret
        exact ⟨by rw [HQ.out]; simp, HB6.out⟩
end Go.Proofs.Ytnimmkgdgdhkfaa
