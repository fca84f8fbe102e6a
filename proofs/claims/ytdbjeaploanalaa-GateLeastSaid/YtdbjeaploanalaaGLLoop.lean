/-
  GateLeast's walk: the law returns true, and only makes new memory. Condition: the two rows are read as they lie.
-/
import Derived.Test.YtdbjeaploanalaaGL
namespace Go.Proofs.Ytdbjeaploanalaa
open Go.RowKit
set_option linter.unusedVariables false

theorem rem_in {z n : Int} (hz : 0 ≤ z) (hn : 0 < n) : 0 ≤ z.tmod n ∧ z.tmod n < n := ⟨Int.tmod_nonneg n hz, Int.tmod_lt_of_pos z hn⟩
/-- Both loops' state, the second one's: all of the numbers are the arena's. -/
def GLk (W0 w : World) (b : Nat) (v : Value) (xs : List Int) (g : Nat) (lv iv : Value) (n : Nat) (ids : List Int) : Prop :=
  GL W0 w b v xs 0 g ids lv n (valsOf xs ids) iv n ids ∧ ∀ j, j < ids.length → 0 ≤ ids.getD j 0 ∧ ids.getD j 0 < (xs.length : Int)

theorem ids_more {ids xs : List Int} {x : Int} (h : ∀ j, j < ids.length → 0 ≤ ids.getD j 0 ∧ ids.getD j 0 < (xs.length : Int)) (h0 : 0 ≤ x) (h1 : x < (xs.length : Int)) : ∀ j, j < (ids ++ [x]).length → 0 ≤ (ids ++ [x]).getD j 0 ∧ (ids ++ [x]).getD j 0 < (xs.length : Int) := by
  intro j hj
  by_cases e : j < ids.length
  · have := h j e
    simp only [List.getD_eq_getElem?_getD, List.getElem?_append_left e] at this ⊢
    exact this
  · have e2 : j = ids.length := by simp at hj; omega
    subst e2
    simpa using ⟨h0, h1⟩

theorem want_app {W w w' : World} {wv wv' : Value} {q : Nat} {is : List Int} {x : Int} {o : Obj} (h : Below W.heap.size W w ∧ w.ownsRow W.heap.size 3 1 wv q (is.map (Value.int .i64))) (hown : w'.ownsRow 0 3 1 wv' (q + 1) (is.map (Value.int .i64) ++ [Value.int .i64 x])) (hf : Frm (fun k => wv.ownBlock = some k) (w.alloc o) w') (hv : wv'.ownBlock = wv.ownBlock ∨ ∀ g, wv'.ownBlock = some g → (w.alloc o).heap.size ≤ g) :
    Below W.heap.size W w' ∧ w'.ownsRow W.heap.size 3 1 wv' (q + 1) ((is ++ [x]).map (Value.int .i64)) := by
  obtain ⟨h1, h2⟩ := h
  have hlow : ∀ g, wv.ownBlock = some g → W.heap.size ≤ g := fun g hg => (h2.lt g hg).1
  refine ⟨(balloc h1 o).trans (hf.below (balloc h1 o).size fun k hk => hlow k hk), ?_⟩
  rw [List.map_append]
  refine row_up hown fun g hg => ?_
  rcases hv with hv | hv
  · exact hlow g (hv ▸ hg)
  · have := hv g hg
    have := h1.size
    simp at *
    omega
set_option maxHeartbeats 1000000 in
set_option maxRecDepth 100000 in
theorem walkL {W0 : World} (vv pv : Value) (n m : Nat) (z : Nat → Int) (hV : LongsAt W0 vv n z) (hP : ∃ q, BytesAt W0 pv m q) (most : Int) :
    Calls Try.prog 8 #[vv, pv, .int .i64 most] W0 fun e w' => e = .returned (.bool true) ∧ Below W0.heap.size W0 w' := by
  obtain ⟨q, hP⟩ := hP
  obtain ⟨p1, c1, rfl, _, hP⟩ := hP
  have HV := Lib.hid (longs_ints hV)
  have hxl : ((List.range n).map z).length = n := by simp
  have HXL := Lib.hid hxl
  obtain ⟨p0, c0, rfl, _, hV⟩ := hV
  have HP := Lib.hid hP
  have HVC := Lib.hid hV
  have HX : Hid (∀ k, k < n → ((List.range n).map z).take (k + 1) = ((List.range n).map z).take k ++ [z k]) := fun k hk => by
    rw [take_snoc (by simpa using hk)]
    simp [hk]
  have HXF : Hid (((List.range n).map z).take n = (List.range n).map z) := List.take_of_length_le (by simp)
  have HXD : Hid (∀ k, k < n → ((List.range n).map z).getD k 0 = z k) := fun k hk => by simp [hk]
  have HZX : Hid (∀ y ∈ (List.range n).map z, y ≤ 9223372036854775807) := by
    intro y hy
    rcases hV with h | ⟨b, off, _, hc⟩
    · simp [h] at hy
    · simp at hy
      obtain ⟨j, hj, rfl⟩ := hy
      exact (hc j hj).2.2
  generalize (List.range n).map z = xs at *
  clear hV hP hxl
  by_cases hout : n = 0 ∨ 30 < n ∨ 30 < m
  · by_cases h0 : n = 0
    · subst h0
      clear hout
      go_enter Try.func8, Try.ntmps8
      go_wp2_with (go_at_call 37; refine (awake8 _).mono ?_; rintro e w1 ⟨rfl, hb⟩)
      go_ret
      exact ⟨rfl, hb⟩
    · have e1 : ((n : Int) == 0) = false := by simp; omega
      by_cases h1 : 30 < n
      · have e2 : decide ((30 : Int) < (n : Int)) = true := decide_eq_true (by omega)
        clear hout
        go_enter Try.func8, Try.ntmps8
        go_wp2_with (go_at_call 37; refine (awake8 _).mono ?_; rintro e w1 ⟨rfl, hb⟩)
        go_ret
        exact ⟨rfl, hb⟩
      · have e2 : decide ((30 : Int) < (n : Int)) = false := decide_eq_false (by omega)
        have e3 : decide ((30 : Int) < (m : Int)) = true := decide_eq_true (by omega)
        clear hout
        go_enter Try.func8, Try.ntmps8
        go_wp2_with (go_at_call 37; refine (awake8 _).mono ?_; rintro e w1 ⟨rfl, hb⟩)
        go_ret
        exact ⟨rfl, hb⟩
  · have hn0 : 0 < n := by omega
    have hn1 : n ≤ 30 := by omega
    have hm1 : m ≤ 30 := by omega
    have e1 : ((n : Int) == 0) = false := by simp; omega
    have e2 : decide ((30 : Int) < (n : Int)) = false := decide_eq_false (by omega)
    have e3 : decide ((30 : Int) < (m : Int)) = false := decide_eq_false (by omega)
    clear hout
    go_enter Try.func8, Try.ntmps8
    go_wp2_with (go_at_call 20; refine (new_m _).mono ?_; rintro e w1 ⟨rfl, hm⟩; have HM1 := Lib.hid hm; clear hm)
    go_loopw [45] (fun i wl => ∃ k : Nat, k ≤ n ∧ i = .int .i64 k ∧ Hid (Mine W0 wl W0.heap.size (xs.take k) 0)) (fun i _ => n - (intOf i).toNat)
    case atStart => exact ⟨0, by omega, rfl, HM1⟩
    case round =>
      obtain ⟨k, hk, rfl, HM⟩ := hrel
      by_cases hlt : k < n
      · rcases HVC.out with h | ⟨b0, o0, rfl, hc⟩
        · omega
        have ck := keepc HM.out.below (hc k hlt).1
        have HXk := Lib.hid (HX.out k hlt)
        clear hc
        go_wp2_with (go_at_call 27; refine (alloc_m (z k) _ _ _ _ 0 HM.out (by simp; omega)).mono ?_; rintro e w2 ⟨rfl, hm⟩; rw [← HXk.out] at hm; have HM2 := Lib.hid hm; clear hm)
        exact ⟨⟨k + 1, by omega, by go_num, HM2⟩, by simp [intOf]; omega⟩
      · obtain rfl : n = k := by omega
        have HMF : Hid (Mine W0 wr W0.heap.size xs 0) := HXF.out ▸ HM.out
        obtain ⟨v, hm1, hm2, hm3, hm4⟩ := HMF.out
        have HG0 : Hid (GLk W0 (wr.alloc (.cells (grC []) 68)) W0.heap.size v xs wr.heap.size (.slice none 0 0) (.slice none 0 0) 0 []) :=
          ⟨⟨hm1.keepB ((Below.refl _ _).alloc (Nat.le_refl _) _), gr_new wr, World.ownsRow_nil _ _ _ _, World.ownsRow_nil _ _ _ _, balloc hm2 _, hm3, hm2.size, hm4, fun r hr => by simp [Value.ownBlock] at hr⟩, fun j hj => by simp at hj⟩
        clear hm1 hm2 hm3 hm4 HMF HM HM1
        go_wp2_with fail
        generalize wr.heap.size = g at *
        go_loopw [11, 12, 55] (fun lv iv i wl => ∃ (k : Nat) (ids : List Int) (r : Nat), k ≤ m ∧ r ≤ k ∧ i = .int .i64 k ∧ Hid (GLk W0 wl W0.heap.size v xs g lv iv r ids)) (fun _ _ i _ => m - (intOf i).toNat)
        case atStart => exact ⟨0, [], 0, by omega, by omega, rfl, HG0⟩
        case round =>
          obtain ⟨k, ids, r, hk, hrk, rfl, HG⟩ := hrel
          have HLS := Lib.hid HG.out.1
          have HIN := Lib.hid HG.out.2
          obtain ⟨pl, cl, rfl, _⟩ := row_form HG.out.1.lr
          obtain ⟨pi, ci, rfl, _⟩ := row_form HG.out.1.ir
          by_cases hlt2 : k < m
          · rcases HP.out with h | ⟨b1, o1, rfl, hc⟩
            · omega
            rcases HVC.out with h | ⟨b0, o0, rfl, hcv⟩
            · omega
            have ck := keepc HG.out.1.low (hc k hlt2).1
            have hq := (hc k hlt2).2
            obtain ⟨y, hy⟩ : ∃ y : Nat, (q k).tmod (n : Int) = (y : Int) := ⟨((q k).tmod (n : Int)).toNat, by have := rem_in hq.1 (show (0 : Int) < n by omega); omega⟩
            have hyn : y < n := by have := rem_in hq.1 (show (0 : Int) < n by omega); omega
            have cy := fun w (hb : Below W0.heap.size W0 w) => keepc hb (hcv y hyn).1
            have HCY := Lib.hid cy
            have HXY := Lib.hid (HXD.out y hyn)
            clear hc hcv cy
            generalize q k = qk at *
            by_cases hbad : addBad ids (y : Int) = 0
            · have HAI : Hid (addIds ids (y : Int) = ids ++ [(y : Int)]) := Lib.hid (by simp [addIds, hbad])
              have HBD := Lib.hid hbad
              clear hbad
              obtain ⟨i0, hi, hz0, hz1, hz2⟩ := info_parts infoI64
              obtain ⟨j0, ji, jz0, jz1, jz2⟩ := info_parts infoI
              go_wp2_with (first
                | (go_at_call 40; refine (add_any HLS.out.gr (y : Int)).mono ?_; rintro e w3 ⟨E, rfl, he, hg⟩; rw [HBD.out] at he; rw [HAI.out] at hg; obtain rfl : E = .nilIface := (by { rcases he with h | h; exact h.2; exact absurd rfl h.1 }); have HG3 := Lib.hid (HLS.out.group hg); have cy := HCY.out _ HG3.out.low; clear he hg)
                | (at_builtin; refine wpList_append_row rfl _ _ 65 rfl 3 j0 (.int .i64 0) 1 8 Try.underlying65 ji jz0 jz1 jz2 rfl (by decide) (.slice pi r ci) r _ rfl (row_base (HG4.out.ir.alloc _) (Nat.zero_le _)) ⟨w4.heap.size, 0, none⟩ 1 1 [.int .i64 y] rfl rfl (one_cell _ _ _) (fun x hx => by simp at hx; subst hx; rfl) (by unfold maxLen; omega) (by omega) ?_; intro v' w5 hown hf hv; have HG5 := Lib.hid (HG4.out.appI hown hf hv); obtain ⟨p5, c5, rfl, _⟩ := row_form hown; clear hown hf hv)
                | (at_builtin; refine wpList_append_row rfl _ _ 38 rfl 2 i0 (.int .i64 0) 1 8 Try.underlying38 hi hz0 hz1 hz2 rfl (by decide) (.slice pl r cl) r _ rfl (row_base (HG3.out.lr.alloc _) (Nat.zero_le _)) ⟨w3.heap.size, 0, none⟩ 1 1 [.int .i64 (z y)] rfl rfl (one_cell _ _ _) (fun x hx => by simp at hx; subst hx; rfl) (by unfold maxLen; omega) (by omega) ?_; intro v' w4 hown hf hv; have HG4 := Lib.hid (HG3.out.appL hown hf hv); obtain ⟨p4, c4, rfl, _⟩ := row_form hown; clear hown hf hv cy))
              refine ⟨⟨k + 1, ids ++ [(y : Int)], r + 1, by omega, by omega, by go_num, Lib.hid ⟨?_, ids_more HIN.out (by omega) (by rw [HXL.out]; omega)⟩⟩, by simp [intOf]; omega⟩
              have e : valsOf xs (ids ++ [(y : Int)]) = valsOf xs ids ++ [z y] := by
                have := HXY.out
                simp only [valsOf, List.map_append, List.map_cons, List.map_nil, Int.toNat_natCast]
                rw [this]
              rw [e]
              exact HG5.out
            · have HAI : Hid (addIds ids (y : Int) = ids) := Lib.hid (by simp [addIds, hbad])
              have HBD := Lib.hid hbad
              clear hbad
              go_wp2_with (first
                | (go_at_call 40; refine (add_any HLS.out.gr (y : Int)).mono ?_; rintro e w3 ⟨E, rfl, he, hg⟩; rw [HAI.out] at hg; obtain ⟨q', rfl, _⟩ : ∃ q', E = .iface 117 (.pointer (some ⟨q', 0, none⟩)) ∧ Chain w3 E 1 (addBad ids y) := (by { rcases he with h | h; exact absurd h.1 HBD.out; exact h.2 }); have HG3 := Lib.hid (show GLk W0 w3 W0.heap.size v xs g _ _ r ids from ⟨HLS.out.group hg, HIN.out⟩); clear he hg))
              exact ⟨⟨k + 1, ids, r, by omega, by omega, by go_num, HG3⟩, by simp [intOf]; omega⟩
          · clear HP HVC HX HXF HXD HG0 HG e1 e2 e3
            have HRL : Hid (ids.length = r) := Lib.hid (by have := HLS.out.ir.1; simpa using this)
            have hr30 : r ≤ 30 := by omega
            have HLX : Hid (∀ y ∈ valsOf xs ids, y ≤ 9223372036854775807) := Lib.hid (by
              intro y hy
              simp only [valsOf, List.mem_map] at hy
              obtain ⟨i, hi, rfl⟩ := hy
              by_cases hb : i.toNat < xs.length
              · rw [List.getD_eq_getElem?_getD, List.getElem?_eq_getElem hb]
                exact HZX.out _ (List.getElem_mem hb)
              · simp [List.getElem?_eq_none (by omega : xs.length ≤ i.toNat)])
            have HNM : Hid (ids.length ≤ 1000000) := Lib.hid (by rw [HRL.out]; omega)
            have HVL : Hid ((valsOf xs ids).length ≤ 1000000) := Lib.hid (by simp only [valsOf, List.length_map]; exact HNM.out)
            clear HZX
            go_wp2_with (first
              | (go_at_call 43; refine (gcells_some HLS.out.gr).mono ?_; rintro e w3 ⟨cv, rfl, hn⟩; obtain ⟨pc, cc, rfl, _⟩ := row_form hn.1; have HC3 := Lib.hid hn.1; have H3 := Lib.hid (HLS.out.keep hn.2); clear hn)
              | (go_at_call 42; refine (same_yes (IntsAt.of_row HC3.out) (IntsAt.of_row H3.out.ir) HNM.out).mono ?_; rintro e w4 ⟨rfl, hb⟩; have H4 := Lib.hid (H3.out.keep hb); clear hb)
              | (go_at_call 46; refine (gleast_ok most H4.out.gr H4.out.ar HIN.out (by decide) (by decide)).mono ?_; rintro e w5 ⟨x, rfl, hx, hl⟩; have HX := Lib.hid hx; have H5 := Lib.hid (H4.out.loaded hl); clear hx hl)
              | (go_at_call 47; refine (rleast (IntsAt.of_row H5.out.lr) most HVL.out).mono ?_; rintro e w6 ⟨x2, rfl, hx, rfl⟩; obtain rfl := hx.unique HX.out; clear hx)
              | (go_at_call 48; refine (gwho_all H5.out.gr H5.out.ar HIN.out (by omega) (by have := HRL.out; omega)).mono ?_; rintro e w7 ⟨mn, pw, kw, cw, hmn, rfl, hr, hl⟩; have HMN := Lib.hid hmn; have HWR := Lib.hid hr; have H7 := Lib.hid (H5.out.loaded hl); clear hmn hr hl))
            have HW0 : Hid (Below w7.heap.size w7 w7 ∧ w7.ownsRow w7.heap.size 3 1 (.slice none 0 0) 0 ((whoOf xs (ids.take 0) mn).map (Value.int .i64))) := Lib.hid ⟨Below.refl _ _, World.ownsRow_nil _ _ _ _⟩
            clear HLS HC3 H3 H4 H5
            obtain ⟨j0, ji, jz0, jz1, jz2⟩ := info_parts infoI
            go_loopw [19, 105] (fun wv i wl => ∃ j q2 : Nat, j ≤ r ∧ q2 ≤ j ∧ i = .int .i64 j ∧ Hid (Below w7.heap.size w7 wl ∧ wl.ownsRow w7.heap.size 3 1 wv q2 ((whoOf xs (ids.take j) mn).map (Value.int .i64)))) (fun _ i _ => r - (intOf i).toNat)
            case atStart => exact ⟨0, 0, by omega, by omega, rfl, HW0⟩
            case round =>
              obtain ⟨j, q2, hj, hq2, rfl, HJ⟩ := hrel
              obtain ⟨p2, c2, rfl, _⟩ := row_form HJ.out.2
              have HK := Lib.hid (H7.out.keep HJ.out.1)
              by_cases hlt : j < r
              · obtain ⟨rl, capl, hsl, _⟩ := row_some H7.out.lr (by omega)
                obtain ⟨ri, capi, hsi, _⟩ := row_some H7.out.ir (by omega)
                simp only [Value.slice.injEq, true_and] at hsl hsi
                obtain ⟨rfl, rfl⟩ := hsl
                obtain ⟨rfl, rfl⟩ := hsi
                have hjl : j < ids.length := by rw [HRL.out]; exact hlt
                have cv : wr.cell? ⟨rl, j, none⟩ = some (.int .i64 (xs.getD (ids.getD j 0).toNat 0)) := by
                  rw [HK.out.lr.cellAt j (by omega)]
                  simp [valsOf, List.getElem?_eq_getElem hjl]
                have cj : wr.cell? ⟨ri, j, none⟩ = some (.int .i64 (ids.getD j 0)) := by
                  rw [HK.out.ir.cellAt j (by omega)]
                  simp [List.getElem?_eq_getElem hjl]
                by_cases hm : xs.getD (ids.getD j 0).toNat 0 = mn
                · have HWY := Lib.hid (whoOf_yes hjl hm)
                  rw [hm] at cv
                  clear hm hjl
                  generalize ids.getD j 0 = y at *
                  go_wp2_with (first
                    | (go_at_call 47; refine (rleast (IntsAt.of_row HK.out.lr) 9223372036854775807 HVL.out).mono ?_; rintro e w8 ⟨x3, rfl, hx, rfl⟩; obtain rfl := isMin_max hx (HMN.out (by rw [HRL.out]; omega)) HLX.out; clear hx)
                    | (at_builtin; refine wpList_append_row rfl _ _ 65 rfl 3 j0 (.int .i64 0) 1 8 Try.underlying65 ji jz0 jz1 jz2 rfl (by decide) (.slice p2 q2 c2) q2 _ rfl (row_base (HJ.out.2.alloc _) (Nat.zero_le _)) ⟨wr.heap.size, 0, none⟩ 1 1 [.int .i64 y] rfl rfl (one_cell _ _ _) (fun x hx => by simp at hx; subst hx; rfl) (by unfold maxLen; omega) (by omega) ?_; intro v' w9 hown hf hv; have HE := Lib.hid (want_app HJ.out hown hf hv); rw [← HWY.out] at HE; obtain ⟨p5, c5, rfl, _⟩ := row_form hown; clear hown hf hv))
                  exact ⟨⟨j + 1, q2 + 1, by omega, by omega, by go_num, HE⟩, by simp [intOf]; omega⟩
                · have HWN := Lib.hid (whoOf_no hjl hm)
                  have hm' : (xs.getD (ids.getD j 0).toNat 0 == mn) = false := by simpa using hm
                  have HJ2 := HJ
                  rw [← HWN.out] at HJ2
                  clear hm hjl
                  generalize xs.getD (ids.getD j 0).toNat 0 = y1 at *
                  generalize ids.getD j 0 = y at *
                  go_wp2_with (first
                    | (go_at_call 47; refine (rleast (IntsAt.of_row HK.out.lr) 9223372036854775807 HVL.out).mono ?_; rintro e w8 ⟨x3, rfl, hx, rfl⟩; obtain rfl := isMin_max hx (HMN.out (by rw [HRL.out]; omega)) HLX.out; clear hx))
                  exact ⟨⟨j + 1, q2, by omega, by omega, by go_num, HJ2⟩, by simp [intOf]; omega⟩
              · obtain rfl : r = j := by omega
                have HT : Hid (ids.take r = ids) := Lib.hid (List.take_of_length_le (by rw [HRL.out]; omega))
                have HJT := HJ
                rw [HT.out] at HJT
                have HWK : Hid (wr.ownsRow w5.heap.size 3 1 (.slice pw kw cw) kw ((whoOf xs ids mn).map (Value.int .i64))) := Lib.hid ((Frm.of_below HJ.out.1 fun _ => False).row HWR.out fun _ _ => id)
                have HWB : Hid ((whoOf xs ids mn).length ≤ 1000000) := Lib.hid (Nat.le_trans (List.length_filter_le _ _) HNM.out)
                clear HW0 HJ
                go_wp2_with (first
                  | (go_at_call 42; refine (same_yes (IntsAt.of_row HWK.out) (IntsAt.of_row HJT.out.2) HWB.out).mono ?_; rintro e w10 ⟨rfl, hb⟩; have H10 := Lib.hid (HK.out.keep hb); clear hb)
                  | (go_at_call 49; refine (gscan_some' H10.out.gr most).mono ?_; rintro e w11 ⟨cs, rfl, hs, hb⟩; have HS := Lib.hid hs; have H11 := Lib.hid (H10.out.keep hb); clear hs hb)
                  | (refine wpList_store_row rfl 86 (.tmp 22) (.tmp 131) rfl w11.heap.size cs rfl rfl 86 _ (obj_new _ _) HS.out.info (by rw [HS.out.size]; rfl) HS.out.one ?_; generalize hX : World.setRow _ _ _ = X; obtain ⟨hq, hb⟩ := stored_new hX; have HQ := Lib.hid hq; have H12 := Lib.hid (H11.out.keep hb); have HQL : Hid (W0.heap.size ≤ w11.heap.size) := Lib.hid H11.out.low.size; clear hX hq hb))
                clear H10 H11 HK HWK HJT HWR HMN
                generalize w11.heap.size = sq at *
                have HST : Hid (0 + (ids.length : Int) + (ids.length : Int) = ((r + r : Nat) : Int)) := Lib.hid (by rw [HRL.out]; omega)
                rw [HST.out] at H12
                have HM0 : Hid (IsMin (valsOf xs (ids.take 0) ++ [most]) most) := Lib.hid (by simpa [valsOf] using IsMin.one most)
                clear j0 ji jz0 jz1 jz2
                go_loopw [134] (fun i wl => ∃ (j : Nat) (cs : Array Value) (y : Int), j ≤ r ∧ i = .int .i64 j ∧ Hid (Sc cs ids j y) ∧ Hid (IsMin (valsOf xs (ids.take j) ++ [most]) y) ∧ Hid (wl.heap[sq]? = some (.cells cs 86 (0, 0))) ∧ Hid (GL W0 wl W0.heap.size v xs ((r + r + j : Nat) : Int) g ids (.slice pl r cl) r (valsOf xs ids) (.slice pi r ci) r ids)) (fun i _ => r - (intOf i).toNat)
                case atStart => exact ⟨0, cs, most, by omega, rfl, HS, HM0, HQ, H12⟩
                case round =>
                  clear H12 HQ HS HM0
                  obtain ⟨j, cs, y, hj, rfl, HS, HM, HQ, HG⟩ := hrel
                  by_cases hlt : j < r
                  · obtain ⟨rl, capl, hsl, hcl⟩ := row_some HG.out.lr (by omega)
                    simp only [Value.slice.injEq, true_and] at hsl
                    obtain ⟨rfl, rfl⟩ := hsl
                    have hjl : j < ids.length := by rw [HRL.out]; exact hlt
                    obtain ⟨z1, hz1⟩ : ∃ z1 : Nat, ids.getD j 0 = z1 := ⟨(ids.getD j 0).toNat, by have := (HIN.out j hjl).1; omega⟩
                    obtain ⟨x1, hx1⟩ : ∃ x1, xs[z1]? = some x1 := ⟨xs[z1]'(by have := (HIN.out j hjl).2; omega), List.getElem?_eq_getElem _⟩
                    have HVM := Lib.hid (valsOf_more hjl hz1 hx1)
                    have HM2 : Hid (IsMin (valsOf xs (ids.take (j + 1)) ++ [most]) (min y x1)) := by
                      rw [HVM.out]
                      exact Lib.hid (isMin_front HM.out)
                    have HZ1 := Lib.hid hz1
                    have HX1 := Lib.hid hx1
                    have HJL := Lib.hid hjl
                    have HDn : Hid (∀ x : Later wr, Calls Try.prog 50 #[.agg cs] x.to fun e w'' => e = .returned (.bool false) ∧ ∃ y : Later wr, w'' = y.to) := fun x => (sdone HS.out x.to).mono fun e w h => ⟨by rw [h.1, decide_eq_false (by have := HJL.out; omega)], ⟨w, bthen x.below h.2⟩, rfl⟩
                    have HLs : Hid (∀ x : Later wr, Calls Try.prog 51 #[.agg cs] x.to fun e w'' => e = .returned (.int .i64 y) ∧ ∃ y : Later wr, w'' = y.to) := fun x => (sleast HS.out x.to).mono fun e w h => ⟨h.1, ⟨w, bthen x.below h.2⟩, rfl⟩
                    have HRf : Hid (∀ x : Later wr, Calls Try.prog 47 #[.slice (some ⟨rl, 0, none⟩) j cl, .int .i64 most] x.to fun e w'' => e = .returned (.int .i64 y) ∧ ∃ y : Later wr, w'' = y.to) := fun x => (rleast (ints_cut (HG.out.keep x.below).lr (Nat.le_of_lt HJL.out)) most (by simp only [valsOf, List.length_map, List.length_take]; have := HNM.out; omega)).mono fun e w h => by
                      obtain ⟨m', rfl, hm, rfl⟩ := h
                      obtain rfl := hm.unique HM.out
                      exact ⟨rfl, x, rfl⟩
                    clear hz1 hx1 hjl
                    have hcl1 : r ≤ cl := hcl.1
                    have hcl2 : j ≤ cl := by omega
                    have HLD : Hid (∀ w, (∃ x : Later wr, w = x.to) → w.heap[sq]? = some (.cells cs 86 (0, 0))) := fun w ⟨x, hx⟩ => hx ▸ (x.below.block sq (lt_of_block HQ.out)).trans HQ.out
                    go_wp2_with fail
                    refine wp_region_later (by kernel_rfl) (by kernel_rfl) ?_
                    repeat (first
                      | (go_big_quiet_want; refine quiet_load_row 86 (.tmp 22) rfl sq rfl 86 cs (0, 0) _ HLD.out Try.underlying86 rfl HS.out.info ?_; go_big_quiet_on; go_frame)
                      | go_big_quiet_step ((first
                        | (go_at_call 50; exact HDn.out _)
                        | (go_at_call 51; exact HLs.out _)
                        | (go_at_call 47; exact HRf.out _))))
                    refine wpQuiet_nil ?_
                    intro _ hw'
                    obtain ⟨nq, rfl⟩ := hw'
                    have HQ1 := Lib.hid ((nq.below.block sq (lt_of_block HQ.out)).trans HQ.out)
                    have HG1 := Lib.hid (HG.out.keep nq.below)
                    clear HDn HLs HRf HLD HQ HG
                    generalize nq.to = wq at *
                    go_wp2_with (first
                      | (go_at_call 52; refine (sstep_ok HS.out (by rw [HRL.out]; omega) HJL.out HG1.out.ar HZ1.out HX1.out (by omega) (by omega)).mono ?_; rintro e w4 ⟨cs2, rfl, hs, hl⟩; have HS2 := Lib.hid hs; have HG2 := Lib.hid (HG1.out.loaded hl); have HQ2 := Lib.hid (hl.2.obj HQ1.out (obj_ne HQ1.out HG1.out.ar.1 (by decide))); clear hs hl)
                      | (refine wpList_load_row rfl 86 (.tmp 22) rfl sq rfl 86 cs (0, 0) _ HQ1.out Try.underlying86 rfl HS.out.info ?_)
                      | (refine wpList_store_row rfl 86 (.tmp 24) (.tmp 153) rfl w4.heap.size cs2 rfl rfl 86 _ (obj_new _ _) HS2.out.info (by rw [HS2.out.size]; rfl) HS2.out.one ?_; generalize hX : World.setRow _ _ _ = X2; obtain ⟨hq, hb⟩ := stored_new hX; have HN := Lib.hid hq; have HG3 := Lib.hid (HG2.out.keep hb); have HQ3 := Lib.hid ((hb.block sq (lt_of_block HQ2.out)).trans HQ2.out); clear hX hq hb)
                      | (refine wpList_load_row rfl 86 (.tmp 24) rfl w4.heap.size rfl 86 cs2 (0, 0) _ HN.out Try.underlying86 rfl HS2.out.info ?_)
                      | (refine wpList_store_row rfl 86 (.tmp 22) (.tmp 157) rfl sq cs2 rfl rfl 86 _ HQ3.out HS2.out.info (by rw [HS2.out.size, HS.out.size]) HS2.out.one ?_; have HQ4 := Lib.hid (setRow_heap _ _ _ cs2 _ _ HQ3.out); have HG4 := Lib.hid (HG3.out.scan HQ3.out HQL.out ((Frm.refl (fun k => k = sq) X2).setRow rfl cs2)); generalize World.setRow _ _ _ = X3 at *))
                    exact ⟨⟨j + 1, cs2, min y x1, by omega, by go_num, HS2, HM2, HQ4, Lib.hid (by rw [show ((r + r + (j + 1) : Nat) : Int) = ((r + r + j : Nat) : Int) + 1 by omega]; exact HG4.out)⟩, by simp [intOf]; omega⟩
                  · obtain rfl : r = j := by omega
                    have HT2 : Hid (ids.take r = ids) := Lib.hid (List.take_of_length_le (by rw [HRL.out]; omega))
                    have hm9 := HM.out
                    rw [HT2.out] at hm9
                    obtain rfl := hm9.unique HX.out
                    clear hm9
                    go_wp2_with (first
                      | (go_at_call 52; refine (sstep_done HS.out (by rw [HRL.out]; exact Nat.le_refl _) _ _).mono ?_; rintro e w4 ⟨rfl, hb⟩; have HG2 := Lib.hid (HG.out.keep hb); have HQ2 := Lib.hid ((hb.block sq (lt_of_block HQ.out)).trans HQ.out); clear hb)
                      | (refine wpList_load_row rfl 86 (.tmp 22) rfl sq rfl 86 cs (0, 0) _ HQ.out Try.underlying86 rfl HS.out.info ?_)
                      | (refine wpList_store_row rfl 86 (.tmp 26) (.tmp 163) rfl w4.heap.size cs rfl rfl 86 _ (obj_new _ _) HS.out.info (by rw [HS.out.size]; rfl) HS.out.one ?_; generalize hX : World.setRow _ _ _ = X2; obtain ⟨hq, hb⟩ := stored_new hX; have HN := Lib.hid hq; have HL3 := Lib.hid (HG2.out.keep hb).low; have HQ3 := Lib.hid ((hb.block sq (lt_of_block HQ2.out)).trans HQ2.out); have HC := Lib.hid (Below.refl X2.heap.size X2); clear hX hq hb)
                      | (go_at_call 37; refine (awake8 _).mono ?_; rintro e w9 ⟨rfl, hb⟩; replace HC := Lib.hid (bthen HC.out hb); clear hb)
                      | (go_at_call 50; refine (sdone HS.out _).mono ?_; rintro e w15 ⟨rfl, hb⟩; rw [decide_eq_true (show ids.length ≤ r by rw [HRL.out]; exact Nat.le_refl _)]; replace HC := Lib.hid (bthen HC.out hb); clear hb)
                      | (go_at_call 51; refine (sleast HS.out _).mono ?_; rintro e w16 ⟨rfl, hb⟩; replace HC := Lib.hid (bthen HC.out hb); clear hb)
                      | (refine wpList_load_row_g rfl 86 (.tmp 22) rfl sq rfl 86 cs (0, 0) _ ((HC.out.block _ (lt_of_block HQ3.out)).trans HQ3.out) Try.underlying86 rfl HS.out.info ?_)
                      | (refine wpList_load_row_g rfl 86 (.tmp 26) rfl w4.heap.size rfl 86 cs (0, 0) _ ((HC.out.block _ (lt_of_block HN.out)).trans HN.out) Try.underlying86 rfl HS.out.info ?_))
                    go_ret
                    exact ⟨rfl, bthen HL3.out HC.out⟩
end Go.Proofs.Ytdbjeaploanalaa
