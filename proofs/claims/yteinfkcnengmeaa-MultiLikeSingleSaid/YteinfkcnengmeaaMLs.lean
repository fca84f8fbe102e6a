/-
  MultiLikeSingle's walk: the law returns true, and only makes new memory. Condition: its two rows are read as they lie.
-/
import Derived.Test.YteinfkcnengmeaaMi
import Derived.Test.YteinfkcnengmeaaRb
import Derived.Deep.DeepCutAuto
import Derived.Deep.CutBlock
namespace Go.Proofs.Yteinfkcnengmeaa
open Go.RowKit
set_option linter.unusedVariables false

theorem rem_in4 {z : Int} (hz : 0 ≤ z) : 0 ≤ z.tmod 4 ∧ z.tmod 4 < 4 := ⟨Int.tmod_nonneg 4 hz, Int.tmod_lt_of_pos z (by decide)⟩
set_option maxHeartbeats 4000000 in
set_option maxRecDepth 100000 in
theorem walkLS {W0 : World} (sv wv : Value) (n m : Nat) (z : Nat → Int) (q : Nat → Bool) (hS : BysAt W0 sv n z) (hB : BolsAt W0 wv m q) (sh : Int) (hsh : 0 ≤ sh) :
    Calls Try.prog 10 #[.int .u8 sh, sv, wv] W0 fun e w' => e = .returned (.bool true) ∧ Below W0.heap.size W0 w' := by
  obtain ⟨p1, c1, rfl, _, hS⟩ := hS
  obtain ⟨p2, c2, rfl, _, hB⟩ := hB
  have HS := Lib.hid hS
  have HB := Lib.hid hB
  clear hS hB
  by_cases hout : 60 < n
  · have e1 : decide ((60 : Int) < (n : Int)) = true := decide_eq_true (by omega)
    clear hout
    go_enter Try.func10, Try.ntmps10
    go_wp2_with (go_at_call 52; refine (awake10 _).mono ?_; rintro e w1 ⟨rfl, hb⟩)
    go_ret
    exact ⟨rfl, hb⟩
  · have e1 : decide ((60 : Int) < (n : Int)) = false := decide_eq_false (by omega)
    have hn60 : n ≤ 60 := by omega
    obtain ⟨k, hk⟩ : ∃ k : Nat, sh % 6 = k := ⟨(sh % 6).toNat, by omega⟩
    have ht : sh.tmod 6 = (k : Int) := by rw [Int.tmod_eq_emod_of_nonneg hsh]; exact hk
    have hk6 : k < 6 := by omega
    have wt := wrap_two (k + 1) (by omega)
    obtain ⟨nn, hnn⟩ : ∃ nn : Nat, (nn : Int) = two (k + 1) := ⟨(two (k + 1)).toNat, by have := two_pos (k + 1); omega⟩
    have hn1 := two_pos (k + 1)
    have hn2 : two (k + 1) ≤ 64 := by
      have : k = 0 ∨ k = 1 ∨ k = 2 ∨ k = 3 ∨ k = 4 ∨ k = 5 := by omega
      rcases this with rfl | rfl | rfl | rfl | rfl | rfl <;> decide
    have HNEW : Hid (∀ w, Mv R0 W0 w W0.heap.size [] 0 → Calls Try.prog 53 #[.pointer (some ⟨W0.heap.size, 0, none⟩), .int .i64 (two (k + 1))] w fun e w' => ∃ s : Sh, e = .returned (.tuple #[.pointer (some ⟨s.p, 0, none⟩), .nilIface]) ∧ s.b = W0.heap.size ∧ s.k = k + 1 ∧ Lv R0 W0 w' s (-1) (-1) (List.replicate nn (-1)) [] (-1) 0) :=
      fun w h => mnew_ok h (k + 1) nn (by omega) hnn
    clear hout hk hsh hnn
    go_enter Try.func10, Try.ntmps10
    go_upto_region 5 with (go_at_call 24; refine (new_m _).mono ?_; rintro e w1 ⟨rfl, hm⟩; have HM := Lib.hid (Mv.of_mine hm); clear hm)
    rw [wt]
    clear wt ht
    generalize hX : List.replicate nn (-1) = X at *
    clear hX
    obtain ⟨id, hid⟩ : ∃ id : Nat, id = X.length + 2 + 0 := ⟨_, rfl⟩
    have HAL : Hid (∀ w (s : Sh), s.b = W0.heap.size → Lv R0 W0 w s (-1) (-1) X [] (-1) 0 → Calls Try.prog 31 #[.pointer (some ⟨W0.heap.size, 0, none⟩), .int .i64 (-1)] w fun e w' => e = .returned (.tuple #[.int .i64 (id : Int), .nilIface]) ∧ Lh R0 W0 w' s (-1) (-1) X [] (-1) (-1) 0) := by
      intro w s hs h
      rw [← hs, hid]
      exact lalloc h (-1)
    have HAD : Hid (∀ w (s : Sh), Lh R0 W0 w s (-1) (-1) X [] (-1) (-1) 0 → Calls Try.prog 42 #[.pointer (some ⟨s.p, 5, none⟩), .int .i64 (id : Int)] w fun e w' => e = .returned .nilIface ∧ Lv R0 W0 w' s (-1) (-1) X [-1] (-1) 0) := by
      intro w s h
      rw [hid]
      exact ladd h (by decide)
    have HST : Hid (∀ w (s : Sh) (c sn g sw st x : Int), s.b = W0.heap.size → Lv R0 W0 w s c sn X [g] sw st → 0 ≤ st → st < 1152921504606846976 → Calls Try.prog 30 #[.pointer (some ⟨W0.heap.size, 0, none⟩), .int .i64 (id : Int), .int .i64 x] w fun e w' => e = .returned .nilIface ∧ Lv R0 W0 w' s c sn X [x] sw (st + 1)) := by
      intro w s c sn g sw st x hs h h0 h1
      rw [← hs, hid]
      exact lheld h 0 (Nat.succ_pos _) x h0 h1
    clear hid
    go_wp2_with (first
      | (go_at_call 53; refine (HNEW.out _ HM.out).mono ?_; rintro e w2 ⟨s, rfl, hsb, hsk, hl⟩; have HSB := Lib.hid hsb; have HSK := Lib.hid hsk; have HL := Lib.hid hl; clear hsb hsk hl HM)
      | (go_at_call 31; refine (HAL.out _ s HSB.out HL.out).mono ?_; rintro e w3 ⟨rfl, hl⟩; have HLH := Lib.hid hl; clear hl HL)
      | (go_at_call 60; refine (mgate_some _ _).mono ?_; rintro e w' ⟨rfl, rfl⟩)
      | (go_at_call 42; refine (HAD.out _ s HLH.out).mono ?_; rintro e w4 ⟨rfl, hl⟩; have HV := Lib.hid hl; clear hl HLH))
    have HTK : Hid (two s.k = two (k + 1)) := Lib.hid (by rw [HSK.out])
    clear HNEW HAL HAD HSK
    go_loopw [13, 58] (fun nx i wl => ∃ (j : Nat) (c sn g sw st : Int), j ≤ n ∧ i = .int .i64 j ∧ nx = .int .i64 (c + 1) ∧ -1 ≤ c ∧ c ≤ 4 * j ∧ 0 ≤ st ∧ st ≤ 100 * j ∧ Hid (Lv R0 W0 wl s c sn X [g] sw st)) (fun _ i _ => n - (intOf i).toNat)
    case atStart => exact ⟨0, -1, -1, -1, -1, 0, by omega, rfl, rfl, by decide, by decide, by decide, by decide, HV⟩
    case round =>
      clear HV
      obtain ⟨j, c, sn, g, sw, st, hj, rfl, rfl, hc1, hc2, h0, h1, HV⟩ := hrel
      by_cases hlt : j < n
      · rcases HS.out with h | ⟨b1, o1, rfl, hc⟩
        · omega
        have cj := keepc HV.out.below (hc j hlt).1
        have hz := (hc j hlt).2
        obtain ⟨r, hr⟩ : ∃ r : Int, (z j).tmod 4 = r := ⟨_, rfl⟩
        have hr4 : 0 ≤ r ∧ r < 4 := hr ▸ rem_in4 hz.1
        clear hc
        generalize z j = zj at *
        by_cases hbad : two (k + 1) < r + 1
        · have d1 : decide (two (k + 1) < r + 1) = true := decide_eq_true hbad
          have d2 : decide (r + 1 ≤ two (k + 1)) = false := decide_eq_false (by omega)
          have HN : Hid (r + 1 < 1 ∨ two s.k < r + 1) := Lib.hid (.inr (by rw [HTK.out]; exact hbad))
          clear hbad
          go_wp2_with (first
            | (go_at_call 55; refine (mClaim_bad HV.out (r + 1) HN.out).mono ?_; rintro e w5 ⟨q5, rfl, hch, hb⟩; have HC := Lib.hid hch; have H5 := Lib.hid (HV.out.keep hb); clear hch hb)
            | (go_at_call 16; refine (isN_chain 1 _ 2 1 HC.out (by decide)).mono ?_; rintro e y ⟨rfl, rfl⟩)
            | (go_at_call 62; refine (lclaimed H5.out h0 (by omega)).mono ?_; rintro e w6 ⟨rfl, hl⟩; have H6 := Lib.hid hl; clear hl)
            | (go_at_call 30; refine (HST.out _ s _ _ _ _ _ c HSB.out H6.out (by omega) (by omega)).mono ?_; rintro e w7 ⟨rfl, hl⟩; have H7 := Lib.hid hl; clear hl))
          exact ⟨⟨j + 1, c, sn, c, sw, _, by omega, by go_num, rfl, hc1, by omega, by omega, by omega, H7⟩, by simp [intOf]; omega⟩
        · have d1 : decide (two (k + 1) < r + 1) = false := decide_eq_false hbad
          have d2 : decide (r + 1 ≤ two (k + 1)) = true := decide_eq_true (by omega)
          have HN : Hid (r + 1 ≤ two s.k) := Lib.hid (by rw [HTK.out]; omega)
          clear hbad
          go_wp2_with fail
          refine (mClaim_run HV.out (by omega) (r + 1) (by omega) HN.out h0 (by omega)).mono ?_
          rintro e w5 (⟨-, rfl, st', a1, a2, hl⟩ | ⟨-, q5, rfl, hch, st', a1, a2, hl⟩)
          · have H5 := Lib.hid hl
            clear hl
            have dq : ((c + (r + 1)) == c + 1 + (r + 1) - 1) = true := by rw [beq_iff_eq]; omega
            by_cases hm : j < m
            · rcases HB.out with h | ⟨b2, o2, rfl, hcb⟩
              · omega
              have cb := keepc H5.out.below (hcb j hm)
              have d3 : decide ((j : Int) < (m : Int)) = true := decide_eq_true (by omega)
              clear hcb
              cases hq : q j
              · rw [hq] at cb
                go_wp2_with fail
                exact ⟨⟨j + 1, c + (r + 1), _, g, _, st', by omega, by go_num, by go_num, by omega, by omega, by omega, by omega, H5⟩, by simp [intOf]; omega⟩
              · rw [hq] at cb
                go_wp2_with (go_at_call 30; refine (HST.out _ s _ _ _ _ _ (c + (r + 1)) HSB.out H5.out (by omega) (by omega)).mono ?_; rintro e w7 ⟨rfl, hl⟩; have H7 := Lib.hid hl; clear hl)
                exact ⟨⟨j + 1, c + (r + 1), _, _, _, _, by omega, by go_num, by go_num, by omega, by omega, by omega, by omega, H7⟩, by simp [intOf]; omega⟩
            · have d3 : decide ((j : Int) < (m : Int)) = false := decide_eq_false (by omega)
              go_wp2_with fail
              exact ⟨⟨j + 1, c + (r + 1), _, g, _, st', by omega, by go_num, by go_num, by omega, by omega, by omega, by omega, H5⟩, by simp [intOf]; omega⟩
          · have H5 := Lib.hid hl
            have HC := Lib.hid hch
            clear hl hch
            go_wp2_with (first
              | (go_at_call 16; refine (isN_chain 10 _ 1 10 HC.out (by decide)).mono ?_; rintro e y ⟨rfl, rfl⟩)
              | (go_at_call 62; refine (lclaimed H5.out (by omega) (by omega)).mono ?_; rintro e w6 ⟨rfl, hl⟩; have H6 := Lib.hid hl; clear hl)
              | (go_at_call 30; refine (HST.out _ s _ _ _ _ _ c HSB.out H6.out (by omega) (by omega)).mono ?_; rintro e w7 ⟨rfl, hl⟩; have H7 := Lib.hid hl; clear hl))
            exact ⟨⟨j + 1, c, sn, c, sw, _, by omega, by go_num, rfl, hc1, by omega, by omega, by omega, H7⟩, by simp [intOf]; omega⟩
      · obtain rfl : n = j := by omega
        go_wp2_with (first
          | (go_at_call 52; refine (awake10 _).mono ?_; rintro e w5 ⟨rfl, hb⟩; have H5 := Lib.hid (HV.out.keep hb); clear hb)
          | (go_at_call 62; refine (lclaimed H5.out h0 (by omega)).mono ?_; rintro e w6 ⟨rfl, hl⟩; have H6 := Lib.hid hl; clear hl))
        go_ret
        exact ⟨by simp, H6.out.below⟩
end Go.Proofs.Yteinfkcnengmeaa
