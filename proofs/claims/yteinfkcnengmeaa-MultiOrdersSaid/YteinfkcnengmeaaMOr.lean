/-
  MultiOrders' walk: the law returns true, and only makes new memory. Condition: its two rows are read as they lie.
-/
import Derived.Test.YteinfkcnengmeaaMo
import Derived.Test.YteinfkcnengmeaaRb
import Derived.Deep.DeepCutAuto
import Derived.Deep.CutBlock
import Derived.Deep.RegionHeld3
namespace Go.Proofs.Yteinfkcnengmeaa
open Go.RowKit
set_option linter.unusedVariables false

theorem wdt_tmod {z : Nat → Int} {j : Nat} (h : 0 ≤ z j) : (z j).tmod 5 + 1 = wdt z j := by
  rw [Int.tmod_eq_emod_of_nonneg h]
  unfold wdt
  have := Int.emod_nonneg (z j) (show (5 : Int) ≠ 0 by decide)
  omega
theorem ok256 (c sn n : Int) (h : n ≤ 256) : okP 256 c sn n [] := .inr (by simp [leastP]; omega)

set_option maxHeartbeats 4000000 in
set_option maxRecDepth 100000 in
theorem walkOr {W0 : World} (sv ov : Value) (n m : Nat) (z q : Nat → Int) (hS : BysAt W0 sv n z) (hO : BysAt W0 ov m q) :
    Calls Try.prog 9 #[sv, ov] W0 fun e w' => e = .returned (.bool true) ∧ Below W0.heap.size W0 w' := by
  obtain ⟨p1, c1, rfl, _, hS⟩ := hS
  obtain ⟨p2, c2, rfl, _, hO⟩ := hO
  have HS := Lib.hid hS
  have HO := Lib.hid hO
  clear hS hO
  by_cases hout : n = 0 ∨ 12 < n ∨ 40 < m
  · have go : ∀ a b c : Bool, (n = 0 ↔ a = true) → True := fun _ _ _ _ => trivial
    by_cases h0 : n = 0
    · have e0 : ((n : Int) == 0) = true := by simp [h0]
      clear hout go h0
      go_enter Try.func9, Try.ntmps9
      go_wp2_with (go_at_call 52; refine (awake10 _).mono ?_; rintro e w1 ⟨rfl, hb⟩)
      go_ret
      exact ⟨rfl, hb⟩
    · have e0 : ((n : Int) == 0) = false := by simp; omega
      by_cases h1 : 12 < n
      · have e1 : decide ((12 : Int) < (n : Int)) = true := decide_eq_true (by omega)
        clear hout go h0
        go_enter Try.func9, Try.ntmps9
        go_wp2_with (go_at_call 52; refine (awake10 _).mono ?_; rintro e w1 ⟨rfl, hb⟩)
        go_ret
        exact ⟨rfl, hb⟩
      · have e1 : decide ((12 : Int) < (n : Int)) = false := decide_eq_false (by omega)
        have e2 : decide ((40 : Int) < (m : Int)) = true := decide_eq_true (by omega)
        clear hout go h0
        go_enter Try.func9, Try.ntmps9
        go_wp2_with (go_at_call 52; refine (awake10 _).mono ?_; rintro e w1 ⟨rfl, hb⟩)
        go_ret
        exact ⟨rfl, hb⟩
  · have hn0 : 0 < n := by omega
    have hn12 : n ≤ 12 := by omega
    have hm40 : m ≤ 40 := by omega
    have e0 : ((n : Int) == 0) = false := by simp; omega
    have e1 : decide ((12 : Int) < (n : Int)) = false := decide_eq_false (by omega)
    have e2 : decide ((40 : Int) < (m : Int)) = false := decide_eq_false (by omega)
    clear hout
    obtain ⟨nn, hnn⟩ : ∃ nn : Nat, nn = 256 := ⟨_, rfl⟩
    have HNEW : Hid (∀ w, Mv R0 W0 w W0.heap.size [] 0 → Calls Try.prog 53 #[.pointer (some ⟨W0.heap.size, 0, none⟩), .int .i64 256] w fun e w' => ∃ s : Sh, e = .returned (.tuple #[.pointer (some ⟨s.p, 0, none⟩), .nilIface]) ∧ s.k = 8 ∧ Lv R0 W0 w' s (-1) (-1) (List.replicate nn (-1)) [] (-1) 0) :=
      fun w h => (mnew_ok h 8 nn (by decide) (by rw [hnn]; rfl)).mono fun e w' ⟨s, h1, _, h3, h4⟩ => ⟨s, h1, h3, h4⟩
    have HDN : Hid (DoneIs z n (List.replicate nn (-1)) (List.replicate n false)) := Lib.hid (done_start z n hn12 nn hnn)
    clear hnn
    generalize List.replicate nn (-1) = X at *
    obtain ⟨i0, ji, jz0, jz1, jz2⟩ := info_parts infoI64
    go_enter Try.func9, Try.ntmps9
    go_wp2_with (first
      | (go_at_call 24; refine (new_m _).mono ?_; rintro e w1 ⟨rfl, hm⟩; have HM := Lib.hid (Mv.of_mine hm); clear hm)
      | (go_at_call 53; refine (HNEW.out _ HM.out).mono ?_; rintro e w2 ⟨s, rfl, hk, hl⟩; have HK := Lib.hid hk; have HL := Lib.hid (or_start (z := z) hl); clear hk hl HM))
    clear HNEW
    go_loopw [8, 9, 47] (fun lv hv i wl => ∃ (j : Nat) (sn sw st : Int), j ≤ n ∧ i = .int .i64 j ∧ 0 ≤ st ∧ st ≤ 100 * j ∧ Hid (Lv (RO W0.heap.size z j j lv hv) W0 wl s ((bnd z j : Nat) - 1) sn X [] sw st)) (fun _ _ i _ => n - (intOf i).toNat)
    case atStart => exact ⟨0, -1, -1, 0, by omega, rfl, by decide, by decide, HL⟩
    case round =>
      obtain ⟨j, sn, sw, st, hj, rfl, h0, h1, HV⟩ := hrel
      obtain ⟨pl, cl, rfl, _⟩ := row_form (or_l HV.out)
      obtain ⟨ph, ch, rfl, _⟩ := row_form (or_h HV.out)
      have hbj := bnd_le z j
      by_cases hlt : j < n
      · clear HL
        rcases HS.out with h | ⟨b1, o1, rfl, hc⟩
        · omega
        have cj := keepc HV.out.below (hc j hlt).1
        have hz := (hc j hlt).2
        obtain ⟨r, hr⟩ : ∃ r : Int, (z j).tmod 5 = r := ⟨_, rfl⟩
        have hwd : r + 1 = wdt z j := hr ▸ wdt_tmod hz.1
        have hw := wdt_le z j
        obtain ⟨x, hx⟩ : ∃ x : Int, x = (bnd z (j + 1) : Nat) - 1 := ⟨_, rfl⟩
        have hx2 : x = (bnd z j : Nat) - 1 + (r + 1) := by rw [hx, hwd]; simp only [bnd]; omega
        have hxr : x - r = bnd z j := by omega
        have HX := Lib.hid hx
        have HXR := Lib.hid hxr
        have HCL : Hid (Calls Try.prog 55 #[.pointer (some ⟨s.p, 0, none⟩), .int .i64 (r + 1)] wr fun e w' => e = .returned (.tuple #[.int .i64 x, .nilIface]) ∧ ∃ sn' sw' st', st ≤ st' ∧ st' ≤ st + 40 ∧ Lv (RO W0.heap.size z j j (.slice pl j cl) (.slice ph j ch)) W0 w' s ((bnd z (j + 1) : Nat) - 1) sn' X [] sw' st') := Lib.hid (by
          have h8 : two s.k = 256 := by rw [HK.out]; decide
          refine (mClaim_run HV.out (by omega) (r + 1) (by omega) (by rw [h8]; omega) h0 (by omega)).mono ?_
          rintro e w' (⟨_, he, st', a1, a2, hl⟩ | ⟨hno, _⟩)
          · rw [← hx2, hx] at hl
            rw [← hx2] at he
            exact ⟨he, _, _, st', a1, a2, hl⟩
          · rw [h8] at hno
            exact absurd (ok256 _ _ _ (by omega)) hno)
        have hxb : -1 ≤ x ∧ x ≤ 1000 ∧ 0 ≤ r ∧ r ≤ 4 := by omega
        clear hc hw hx hx2 hwd hxr
        generalize z j = zj at *
        go_wp2_with (first
          | (go_at_call 55; refine HCL.out.mono ?_; rintro e w3 ⟨rfl, sn', sw', st', a1, a2, hl⟩; have H3 := Lib.hid hl; clear hl)
          | (at_builtin; refine wpList_append_row rfl _ _ 38 rfl 2 i0 (.int .i64 0) 1 8 Try.underlying38 ji jz0 jz1 jz2 rfl (by decide) (.slice pl j cl) j _ rfl (row_base ((or_l H3.out).alloc _) (Nat.zero_le _)) ⟨w3.heap.size, 0, none⟩ 1 1 [.int .i64 (x - r)] rfl rfl (one_cell _ _ _) (fun x hx => by simp at hx; subst hx; rfl) (by unfold maxLen; omega) (by omega) ?_; intro v' w4 hown hf hv; have H4 := Lib.hid (or_lo H3.out HXR.out hown hf hv); obtain ⟨p4, c4, rfl, _⟩ := row_form hown; clear hown hf hv)
          | (at_builtin; refine wpList_append_row rfl _ _ 38 rfl 2 i0 (.int .i64 0) 1 8 Try.underlying38 ji jz0 jz1 jz2 rfl (by decide) (.slice ph j ch) j _ rfl (row_base ((or_h H4.out).alloc _) (Nat.zero_le _)) ⟨w4.heap.size, 0, none⟩ 1 1 [.int .i64 x] rfl rfl (one_cell _ _ _) (fun x hx => by simp at hx; subst hx; rfl) (by unfold maxLen; omega) (by omega) ?_; intro v' w5 hown hf hv; have H5 := Lib.hid (or_hi H4.out HX.out hown hf hv); obtain ⟨p5, c5, rfl, _⟩ := row_form hown; clear hown hf hv))
        exact ⟨⟨j + 1, sn', sw', st', by omega, by go_num, by omega, by omega, H5⟩, by simp [intOf]; omega⟩
      · obtain rfl : j = n := by omega
        clear HL HS
        have hmk := make_bools j hn12
        go_wp2_with fail
        obtain ⟨rl, capl, hsl, _⟩ := row_some (or_l HV.out) hn0
        obtain ⟨rh, caph, hsh, _⟩ := row_some (or_h HV.out) hn0
        simp only [Value.slice.injEq, true_and] at hsl hsh
        obtain ⟨rfl, rfl⟩ := hsl
        obtain ⟨rfl, rfl⟩ := hsh
        have HV2 := Lib.hid (rd_made HV.out hn12)
        generalize wr.heap.size = rd at *
        clear hmk e0 e1 e2 HV hlt
        obtain ⟨st0, hst0⟩ : ∃ st0 : Int, st0 = st ∧ 0 ≤ st0 ∧ st0 ≤ 1200 := ⟨st, rfl, by omega, by omega⟩
        obtain ⟨rfl, g0, g1⟩ := hst0
        go_loopw [80] (fun i wl => ∃ (t : Nat) (sh : List Int) (ds : List Bool) (st : Int), t ≤ m ∧ i = .int .i64 t ∧ 0 ≤ st ∧ st ≤ 1200 + 1048600 * t ∧ Hid (DoneIs z j sh ds) ∧ Hid (Lv (RD W0.heap.size z j (.slice (some ⟨rl, 0, none⟩) j cl) (.slice (some ⟨rh, 0, none⟩) j ch) (.slice (some ⟨rd, 0, none⟩) j j) ds) W0 wl s ((bnd z j : Nat) - 1) sn sh [] sw st)) (fun i _ => m - (intOf i).toNat)
        case atStart => exact ⟨0, X, _, st0, by omega, rfl, g0, by omega, HDN, HV2⟩
        case round =>
          clear HV2 HDN
          obtain ⟨t, sh, ds, st, ht, rfl, h0, h1, HD, HV⟩ := hrel
          by_cases hlt : t < m
          · rcases HO.out with h | ⟨b1, o1, rfl, hc⟩
            · omega
            have cj := keepc HV.out.below (hc t hlt).1
            have hz := (hc t hlt).2
            obtain ⟨y, hyy⟩ : ∃ y : Nat, (q t).tmod (j : Int) = (y : Int) := ⟨((q t).tmod (j : Int)).toNat, by have := Int.tmod_nonneg (j : Int) hz.1; omega⟩
            have hy : y < j := by have := Int.tmod_lt_of_pos (q t) (show (0 : Int) < j by omega); omega
            clear hc
            generalize q t = qt at *
            have HUP : Hid (∀ w, Below wr.heap.size wr w → Calls Try.prog 65 #[.pointer (some ⟨s.p, 0, none⟩), .slice (some ⟨rd, 0, none⟩) j j, .slice (some ⟨rh, 0, none⟩) j ch] w fun e w' => e = .returned (.bool true) ∧ ∃ st', st ≤ st' ∧ st' ≤ st + 1048578 ∧ Lv (RD W0.heap.size z j (.slice (some ⟨rl, 0, none⟩) j cl) (.slice (some ⟨rh, 0, none⟩) j ch) (.slice (some ⟨rd, 0, none⟩) j j) ds) W0 w' s ((bnd z j : Nat) - 1) sn sh [] sw st') := Lib.hid fun w hb => upTo_ok (HV.out.keep hb) HK.out hn12 rfl HD.out (rd_d (HV.out.keep hb)) (rd_h (HV.out.keep hb)) h0 (by omega)
            have hw := wdt_le z y
            have hby := bnd_le z (y + 1)
            have hbm := bnd_mono z (show y + 1 ≤ j by omega)
            have hbj2 := bnd_le z j
            obtain ⟨lo, hlo⟩ : ∃ lo : Int, lo = bnd z y := ⟨_, rfl⟩
            obtain ⟨hi, hhi⟩ : ∃ hi : Int, hi = (bnd z (y + 1) : Nat) - 1 := ⟨_, rfl⟩
            have HCE : Hid (∀ w st' sh', Lv (RD W0.heap.size z j (.slice (some ⟨rl, 0, none⟩) j cl) (.slice (some ⟨rh, 0, none⟩) j ch) (.slice (some ⟨rd, 0, none⟩) j j) ds) W0 w s ((bnd z j : Nat) - 1) sn sh' [] sw st' → w.cell? ⟨rl, y, none⟩ = some (.int .i64 lo) ∧ w.cell? ⟨rh, y, none⟩ = some (.int .i64 hi)) := Lib.hid (by
              intro w st' sh' hl
              constructor
              · rw [(rd_l hl).cellAt y (by omega), losV_at z hy, hlo]
              · rw [(rd_h hl).cellAt y (by omega), hisV_at z hy, hhi])
            have HPB : Hid (∀ w st', Lv (RD W0.heap.size z j (.slice (some ⟨rl, 0, none⟩) j cl) (.slice (some ⟨rh, 0, none⟩) j ch) (.slice (some ⟨rd, 0, none⟩) j j) ds) W0 w s ((bnd z j : Nat) - 1) sn sh [] sw st' → 0 ≤ st' → st' < 1152921504606846976 → Calls Try.prog 58 #[.pointer (some ⟨s.p, 0, none⟩), .int .i64 lo, .int .i64 hi] w fun e w' => e = .returned .nilIface ∧ Lv (RD W0.heap.size z j (.slice (some ⟨rl, 0, none⟩) j cl) (.slice (some ⟨rh, 0, none⟩) j ch) (.slice (some ⟨rd, 0, none⟩) j j) ds) W0 w' s ((bnd z j : Nat) - 1) sn (showN sh 0 8 (bnd z y) (wdt z y)) [] sw (st' + wdt z y)) := Lib.hid (by
              intro w st' hl a0 a1
              have h8 : two s.k = 256 := by rw [HK.out]; decide
              have hbs : bnd z (y + 1) = bnd z y + wdt z y := rfl
              have := lpub hl lo hi (by omega) (by omega) (by rw [h8]; omega) (by omega) (by omega) (wdt z y) (by omega) a0 a1
              rw [HK.out, hlo] at this
              rw [hlo]
              exact this)
            have HDS := Lib.hid (done_set HD.out hn12 hy)
            obtain ⟨k1, k2⟩ := HCE.out _ _ _ HV.out
            clear hw hby hbm hbj2 hlo hhi
            go_wp2_with fail
            go_region_held3 (fun w' => w'.cell? ⟨rl, y, none⟩ = some (.int .i64 lo) ∧ w'.cell? ⟨rh, y, none⟩ = some (.int .i64 hi)) (first
              | exact ⟨by assumption, by assumption⟩
              | exact ⟨by go_simp, by go_simp⟩) (first
              | (go_at_call 65; refine (HUP.out _ (Below.drew (Below.refl _ _))).mono ?_; rintro e w2 ⟨rfl, st2, a1, a2, hl⟩; have H2 := Lib.hid hl; obtain ⟨j1, j2⟩ := HCE.out _ _ _ hl; clear hl)
              | (go_at_call 58; refine (HPB.out _ _ H2.out (by omega) (by omega)).mono ?_; rintro e w3 ⟨rfl, hl⟩; have H3 := Lib.hid hl; obtain ⟨i1, i2⟩ := HCE.out _ _ _ hl; clear hl))
            have cd : w3.cell? ⟨rd, y, none⟩ = some (.bool (ds.getD y false)) := by
              rw [(rd_d H3.out).cellAt y (by omega)]
              have : y < ds.length := by rw [HD.out.2.1]; exact hy
              simp [List.getElem?_eq_getElem this]
            have fd := (rd_d H3.out).frozenAt y
            have H4 := Lib.hid (rd_set H3.out y)
            have hwy := (wdt_le z y).2
            clear k1 k2 j1 j2 i1 i2
            generalize ds.getD y false = old at *
            go_wp2_with fail
            exact ⟨⟨t + 1, _, _, _, by omega, by go_num, by omega, by omega, HDS, H4⟩, by simp [intOf]; omega⟩
          · obtain rfl : t = m := by omega
            go_wp2_with fail
            clear HO
            obtain ⟨st1, hst1⟩ : ∃ st1 : Int, st1 = st ∧ 0 ≤ st1 ∧ st1 ≤ 42000000 := ⟨st, rfl, by omega, by omega⟩
            obtain ⟨rfl, g2, g3⟩ := hst1
            go_loopw [113] (fun i wl => ∃ (y : Nat) (sh : List Int) (ds : List Bool) (st : Int), y ≤ j ∧ i = .int .i64 y ∧ 0 ≤ st ∧ st ≤ 42000000 + 1048600 * y ∧ Hid (DoneIs z j sh ds) ∧ Hid (Lv (RD W0.heap.size z j (.slice (some ⟨rl, 0, none⟩) j cl) (.slice (some ⟨rh, 0, none⟩) j ch) (.slice (some ⟨rd, 0, none⟩) j j) ds) W0 wl s ((bnd z j : Nat) - 1) sn sh [] sw st)) (fun i _ => j - (intOf i).toNat)
            case atStart => exact ⟨0, sh, ds, st1, by omega, rfl, g2, by omega, HD, HV⟩
            case round =>
              clear HV HD
              obtain ⟨y, sh, ds, st, hyj, rfl, h0, h1, HD, HV⟩ := hrel
              by_cases hy : y < j
              · have HUP : Hid (∀ w, Below wr.heap.size wr w → Calls Try.prog 65 #[.pointer (some ⟨s.p, 0, none⟩), .slice (some ⟨rd, 0, none⟩) j j, .slice (some ⟨rh, 0, none⟩) j ch] w fun e w' => e = .returned (.bool true) ∧ ∃ st', st ≤ st' ∧ st' ≤ st + 1048578 ∧ Lv (RD W0.heap.size z j (.slice (some ⟨rl, 0, none⟩) j cl) (.slice (some ⟨rh, 0, none⟩) j ch) (.slice (some ⟨rd, 0, none⟩) j j) ds) W0 w' s ((bnd z j : Nat) - 1) sn sh [] sw st') := Lib.hid fun w hb => upTo_ok (HV.out.keep hb) HK.out hn12 rfl HD.out (rd_d (HV.out.keep hb)) (rd_h (HV.out.keep hb)) h0 (by omega)
                have hw := wdt_le z y
                have hby := bnd_le z (y + 1)
                have hbm := bnd_mono z (show y + 1 ≤ j by omega)
                have hbj2 := bnd_le z j
                obtain ⟨lo, hlo⟩ : ∃ lo : Int, lo = bnd z y := ⟨_, rfl⟩
                obtain ⟨hi, hhi⟩ : ∃ hi : Int, hi = (bnd z (y + 1) : Nat) - 1 := ⟨_, rfl⟩
                have HCE : Hid (∀ w st' sh', Lv (RD W0.heap.size z j (.slice (some ⟨rl, 0, none⟩) j cl) (.slice (some ⟨rh, 0, none⟩) j ch) (.slice (some ⟨rd, 0, none⟩) j j) ds) W0 w s ((bnd z j : Nat) - 1) sn sh' [] sw st' → w.cell? ⟨rl, y, none⟩ = some (.int .i64 lo) ∧ w.cell? ⟨rh, y, none⟩ = some (.int .i64 hi)) := Lib.hid (by
                  intro w st' sh' hl
                  constructor
                  · rw [(rd_l hl).cellAt y (by omega), losV_at z hy, hlo]
                  · rw [(rd_h hl).cellAt y (by omega), hisV_at z hy, hhi])
                have HPB : Hid (∀ w st', Lv (RD W0.heap.size z j (.slice (some ⟨rl, 0, none⟩) j cl) (.slice (some ⟨rh, 0, none⟩) j ch) (.slice (some ⟨rd, 0, none⟩) j j) ds) W0 w s ((bnd z j : Nat) - 1) sn sh [] sw st' → 0 ≤ st' → st' < 1152921504606846976 → Calls Try.prog 58 #[.pointer (some ⟨s.p, 0, none⟩), .int .i64 lo, .int .i64 hi] w fun e w' => e = .returned .nilIface ∧ Lv (RD W0.heap.size z j (.slice (some ⟨rl, 0, none⟩) j cl) (.slice (some ⟨rh, 0, none⟩) j ch) (.slice (some ⟨rd, 0, none⟩) j j) ds) W0 w' s ((bnd z j : Nat) - 1) sn (showN sh 0 8 (bnd z y) (wdt z y)) [] sw (st' + wdt z y)) := Lib.hid (by
                  intro w st' hl a0 a1
                  have h8 : two s.k = 256 := by rw [HK.out]; decide
                  have hbs : bnd z (y + 1) = bnd z y + wdt z y := rfl
                  have := lpub hl lo hi (by omega) (by omega) (by rw [h8]; omega) (by omega) (by omega) (wdt z y) (by omega) a0 a1
                  rw [HK.out, hlo] at this
                  rw [hlo]
                  exact this)
                have HDS := Lib.hid (done_set HD.out hn12 hy)
                obtain ⟨k1, k2⟩ := HCE.out _ _ _ HV.out
                clear hw hby hbm hbj2 hlo hhi
                go_wp2_with fail
                go_region_held3 (fun w' => w'.cell? ⟨rl, y, none⟩ = some (.int .i64 lo) ∧ w'.cell? ⟨rh, y, none⟩ = some (.int .i64 hi)) (first
                  | exact ⟨by assumption, by assumption⟩
                  | exact ⟨by go_simp, by go_simp⟩) (first
                  | (go_at_call 65; refine (HUP.out _ (Below.drew (Below.refl _ _))).mono ?_; rintro e w2 ⟨rfl, st2, a1, a2, hl⟩; have H2 := Lib.hid hl; obtain ⟨j1, j2⟩ := HCE.out _ _ _ hl; clear hl)
                  | (go_at_call 58; refine (HPB.out _ _ H2.out (by omega) (by omega)).mono ?_; rintro e w3 ⟨rfl, hl⟩; have H3 := Lib.hid hl; obtain ⟨i1, i2⟩ := HCE.out _ _ _ hl; clear hl))
                have cd : w3.cell? ⟨rd, y, none⟩ = some (.bool (ds.getD y false)) := by
                  rw [(rd_d H3.out).cellAt y (by omega)]
                  have : y < ds.length := by rw [HD.out.2.1]; exact hy
                  simp [List.getElem?_eq_getElem this]
                have fd := (rd_d H3.out).frozenAt y
                have H4 := Lib.hid (rd_set H3.out y)
                have hwy := (wdt_le z y).2
                clear k1 k2 j1 j2 i1 i2
                generalize ds.getD y false = old at *
                go_wp2_with fail
                exact ⟨⟨y + 1, _, _, _, by omega, by go_num, by omega, by omega, HDS, H4⟩, by simp [intOf]; omega⟩
              · obtain rfl : y = j := by omega
                have HUP : Hid (∀ w, Below wr.heap.size wr w → Calls Try.prog 65 #[.pointer (some ⟨s.p, 0, none⟩), .slice (some ⟨rd, 0, none⟩) y y, .slice (some ⟨rh, 0, none⟩) y ch] w fun e w' => e = .returned (.bool true) ∧ ∃ st', st ≤ st' ∧ st' ≤ st + 1048578 ∧ Lv (RD W0.heap.size z y (.slice (some ⟨rl, 0, none⟩) y cl) (.slice (some ⟨rh, 0, none⟩) y ch) (.slice (some ⟨rd, 0, none⟩) y y) ds) W0 w' s ((bnd z y : Nat) - 1) sn sh [] sw st') := Lib.hid fun w hb => upTo_ok (HV.out.keep hb) HK.out hn12 rfl HD.out (rd_d (HV.out.keep hb)) (rd_h (HV.out.keep hb)) h0 (by omega)
                go_wp2_with (first
                  | (go_at_call 52; refine (awake10 _).mono ?_; rintro e w2 ⟨rfl, hb⟩)
                  | (go_at_call 65; refine (HUP.out _ hb).mono ?_; rintro e w3 ⟨rfl, st2, a1, a2, hl⟩; have H3 := Lib.hid hl; clear hl))
                go_ret
                exact ⟨rfl, H3.out.below⟩
end Go.Proofs.Yteinfkcnengmeaa
