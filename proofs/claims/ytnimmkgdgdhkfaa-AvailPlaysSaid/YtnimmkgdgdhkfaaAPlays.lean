/-
  AvailPlays' walk. Conditions: at most 30 spans and 20 indexes.
-/
import Derived.Test.YtnimmkgdgdhkfaaAPlays0
import Derived.Test.YtnimmkgdgdhkfaaLongs
import Derived.Deep.DeepCutAuto
import Derived.Deep.CutBlock
namespace Go.Proofs.Ytnimmkgdgdhkfaa
open Go.RowKit

/-- The row of what was shown, and nothing else. -/
def rest (vs : Value) (ss : List Int) : Rest := ⟨vs, ss, fun _ => True, fun _ _ _ _ => trivial⟩
/-- The same, and a span in a block. -/
def restB (ob : Nat) (a b : Int) (vs : Value) (ss : List Int) : Rest :=
  ⟨vs, ss, fun w => w.heap[ob]? = some (.cells #[.int .i64 a, .int .i64 b] 83 (0, 0)), fun _ _ h ho => ho ob _ _ _ h (by decide) (by decide)⟩
/-- The state behind some shows. -/
def APs (W w : World) (ab q f k : Nat) (vs : Value) (ss xs : List Int) (st : Int) : Prop := Av (rest vs ss) W w ab q f k xs st ∧ APr f k ss xs ∧ (∀ s ∈ ss, 0 ≤ s ∧ s ≤ 4611686018427387904) ∧ 0 ≤ st
theorem APs.form {W w : World} {ab q f k : Nat} {vs : Value} {ss xs : List Int} {st : Int} (h : APs W w ab q f k vs ss xs st) : ∃ p c, vs = .slice p ss.length c := by
  obtain ⟨⟨_, _, _, _, _, _, hap⟩, _⟩ := h
  obtain ⟨p, c, hv, _⟩ := row_form hap.1
  exact ⟨p, c, hv⟩
theorem APs.keep {W w w' : World} {ab q f k : Nat} {vs : Value} {ss xs : List Int} {st : Int} (h : APs W w ab q f k vs ss xs st) (hb : Below w.heap.size w w') : APs W w' ab q f k vs ss xs st := ⟨h.1.keep hb, h.2⟩
theorem Av.box {W w : World} {ab q f k ob : Nat} {vs : Value} {ss xs : List Int} {st a b : Int} (h : Av (restB ob a b vs ss) W w ab q f k xs st) : w.cell? ⟨ob, 0, none⟩ = some (.int .i64 a) ∧ w.cell? ⟨ob, 1, none⟩ = some (.int .i64 b) :=
  ⟨(obj_cell h.inv 0).trans rfl, (obj_cell h.inv 1).trans rfl⟩
theorem Av.form {R : Rest} {W w : World} {ab q f k : Nat} {xs : List Int} {st : Int} (h : Av R W w ab q f k xs st) : ∃ p c, R.row = .slice p R.nums.length c := by
  obtain ⟨_, _, _, _, _, _, hap⟩ := h
  obtain ⟨p, c, hv, _⟩ := row_form hap.1
  exact ⟨p, c, hv⟩

theorem APs.srow {W w : World} {ab q f k : Nat} {vs : Value} {ss xs : List Int} {st : Int} (h : APs W w ab q f k vs ss xs st) : SRow w vs ss := by
  obtain ⟨⟨_, _, _, _, _, _, hap⟩, _, hr, _⟩ := h
  exact ⟨hap.1, hr⟩
/-- Asking up to where all are shown tells what the document does. -/
theorem told_ref {W w : World} {ab q f k : Nat} {vs : Value} {ss xs : List Int} {st x y : Int} {i j : Nat} (h : APs W w ab q f k vs ss xs st) (h0 : 0 ≤ x) (hi : RunTo (shownB xs f k) x y i) (hj : RunTo (isL ss (two k)) x y j) : i = j :=
  hi.unique hj fun s hs _ => shown_eq h.2.1 s (by omega)
theorem Av.rowA {R : Rest} {W w : World} {ab q f k : Nat} {xs : List Int} {st : Int} (h : Av R W w ab q f k xs st) (o : Obj) : (w.alloc o).ownsRow 0 2 1 R.row R.nums.length (R.nums.map (Value.int .i64)) := by
  obtain ⟨_, _, _, _, _, _, hap⟩ := h
  exact hap.1.alloc _

set_option maxRecDepth 100000 in
set_option maxHeartbeats 8000000 in
theorem aplays_walk (W : World) (sh ah : Int) (hsh : 0 ≤ sh) (k : Nat) (hs : sh % 6 = k) (hk : k < 6) (hah : 0 ≤ ah) (f : Nat) (hf : ah % 5 = f) (hf5 : f < 5) (v vs : Value) (n ns : Nat) (fld : Nat → Nat → Int) (z : Nat → Int) (hO : OpsAt W v n 2 fld) (hS : LongsAt W vs ns z) (hn : n ≤ 30) (hns : ns ≤ 20) (x y : Int) (hy : -9223372036854775808 ≤ y ∧ y ≤ 9223372036854775807) :
    Calls Try.prog 11 #[.int .u8 sh, .int .u8 ah, v, vs, .agg #[.int .i64 x, .int .i64 y]] W fun e w' => e = .returned (.bool true) ∧ Below W.heap.size W w' := by
  obtain ⟨p, cap, rfl, hnm, hc⟩ := hO
  obtain ⟨pp, capp, rfl, hnm2, hc2⟩ := hS
  have HC := Lib.hid hc
  have HCP := Lib.hid hc2
  have HY := Lib.hid hy
  have ht : sh.tmod 6 = (k : Int) := by rw [Int.tmod_eq_emod_of_nonneg hsh]; exact hs
  have hft : ah.tmod 5 = (f : Int) := by rw [Int.tmod_eq_emod_of_nonneg hah]; exact hf
  have wt := wrap_two k (by omega)
  have d1 : decide ((30 : Int) < (n : Int)) = false := decide_eq_false (by omega)
  have d2 : decide ((20 : Int) < (ns : Int)) = false := decide_eq_false (by omega)
  have hk20 : k ≤ 20 := by omega
  obtain ⟨N, hN⟩ : ∃ N : Nat, (N : Int) = two k := ⟨(two k).toNat, by have := two_pos k; omega⟩
  have HN := Lib.hid hN
  have hn1 := two_pos k
  have hn2 : two k ≤ 32 := by
    have : k = 0 ∨ k = 1 ∨ k = 2 ∨ k = 3 ∨ k = 4 ∨ k = 5 := by omega
    rcases this with rfl | rfl | rfl | rfl | rfl | rfl <;> decide
  clear hs hf hN hsh hah hc hc2 hnm hnm2 hy
  have HB1 := Lib.hid ((Below.refl _ W).alloc (Nat.le_refl _) (.cells #[.int .i64 x, .int .i64 y] 83))
  have HO1 := Lib.hid (obj_new W (.cells #[.int .i64 x, .int .i64 y] 83))
  go_enter Try.func11, Try.ntmps11
  go_upto_region 3 with fail
  generalize W.alloc (.cells #[.int .i64 x, .int .i64 y] 83) = W1 at *
  generalize hqb : W.heap.size = qb at *
  have HQB := Lib.hid hqb
  clear hqb
  have HBW : Hid (Below W.heap.size W W1) := by rw [HQB.out]; exact HB1
  go_upto_region 5 with (go_at_call 28; refine (new_m _).mono ?_; rintro e w1 ⟨rfl, hm⟩; have HM1 := Lib.hid hm; clear hm)
  rw [wt]
  clear wt ht
  go_wp2_with (go_at_call 14; refine (of_yes k hk20 _).mono ?_; rintro e w2 ⟨rfl, hb⟩; have HM2 := Lib.hid (HM1.out.keep (balloc hb (.cells #[.int .u8 k] 23))); have HO2 := Lib.hid (obj_new w2 (.cells #[.int .u8 k] 23)); clear hb HM1)
  have HS : Hid (Mine W1 (w2.alloc (.cells #[.int .u8 k] 23)) W1.heap.size (List.replicate 0 (-5)) 0 ∧ (w2.alloc (.cells #[.int .u8 k] 23)).heap[w2.heap.size]? = some (.cells #[.int .u8 k] 23 (0, 0))) := Lib.hid ⟨HM2.out, HO2.out⟩
  clear HM2 HO2
  generalize w2.heap.size = sb at *
  generalize W1.heap.size = ab at *
  go_loopw [51] (fun i wl => ∃ j : Nat, j ≤ f ∧ i = .int .u8 j ∧ Hid (Mine W1 wl ab (List.replicate j (-5)) 0 ∧ wl.heap[sb]? = some (.cells #[.int .u8 k] 23 (0, 0)))) (fun i _ => f - (intOf i).toNat)
  case atStart => exact ⟨0, Nat.zero_le _, rfl, HS⟩
  case round =>
    clear HS
    obtain ⟨j, hj, rfl, HJ⟩ := hrel
    by_cases hlt : j < f
    · go_wp2_with (go_at_call 35; refine (alloc_mb (-5) _ _ _ _ _ HJ.out.1 (by simp; omega) HJ.out.2 (by decide) (by decide)).mono ?_; rintro e w5 ⟨rfl, hh, ho⟩; rw [← List.replicate_succ'] at hh; have H5 := Lib.hid (show _ ∧ _ from ⟨hh, ho⟩); clear hh ho)
      exact ⟨⟨j + 1, by omega, by go_num, H5⟩, by simp [intOf]; omega⟩
    · obtain rfl : j = f := by omega
      clear hlt
      have c0 : wr.cell? ⟨sb, 0, none⟩ = some (.int .u8 k) := (obj_cell HJ.out.2 0).trans rfl
      go_wp2_with (first
        | (go_at_call 48; refine (anew_ok HJ.out.1 k N hk20 HN.out (by simp; have := HN.out; omega)).mono ?_; rintro e w3 ⟨q, rfl, ha, _⟩; have HA3 := Lib.hid ((List.length_replicate (n := j) (a := (-5 : Int))) ▸ ha); clear ha c0)
        | (go_at_call 30; refine (len_is HA3.out (l := (j : Int) + two k) (by simp; have := HN.out; omega)).mono ?_; rintro e w4 ⟨rfl, rfl⟩))
      have HS2 : Hid (∃ ss xs st, APs W1 w3 ab q j k (.slice none 0 0) ss xs st ∧ st ≤ 100 * (0 : Nat) ∧ ss.length ≤ 40 * 0) := Lib.hid ⟨[], _, 0, ⟨HA3.out, APr.start j k N HN.out, by simp, by omega⟩, by omega, by simp⟩
      clear HA3 HJ
      go_loopw [17, 88] (fun v i wl => ∃ t : Nat, t ≤ n ∧ i = .int .i64 t ∧ Hid (∃ ss xs st, APs W1 wl ab q j k v ss xs st ∧ st ≤ 100 * t ∧ ss.length ≤ 40 * t)) (fun _ i _ => n - (intOf i).toNat)
      case atStart => exact ⟨0, Nat.zero_le _, rfl, HS2⟩
      case round =>
        clear HS2
        obtain ⟨t, ht, rfl, HT⟩ := hrel
        obtain ⟨ss, xs, st, hp, hst, hsl⟩ := HT.out
        have HP := Lib.hid hp
        have HST := Lib.hid (show st ≤ 100 * t ∧ ss.length ≤ 40 * t ∧ 0 ≤ st from ⟨hst, hsl, hp.2.2.2⟩)
        obtain ⟨pv, cv, rfl⟩ := hp.form
        clear hp hst hsl HT
        by_cases hlt : t < n
        · obtain ⟨pb, off, rfl, hcell⟩ := HC.out.resolve_left (by omega)
          have hbw : Below W.heap.size W wr := bthen HBW.out HP.out.1.below
          have q0 := keepc hbw (hcell t hlt 0 (by decide)).1
          have q1 := keepc hbw (hcell t hlt 1 (by decide)).1
          have hw1 := (hcell t hlt 1 (by decide)).2
          simp only [Nat.add_zero] at q0
          have dj : decide ((0 : Int) ≤ (t : Int)) = true := decide_eq_true (by omega)
          generalize fld t 0 = a at q0
          generalize fld t 1 = b' at q1 hw1
          clear hcell hbw
          have hb2 : Below wr.heap.size wr (wr.alloc (.cells #[.int .i64 a, .int .i64 b'] 83)) := (Below.refl _ wr).alloc (Nat.le_refl _) _
          have HP2 : Hid (APs W1 (wr.alloc (.cells #[.int .i64 a, .int .i64 b'] 83)) ab q j k (.slice pv ss.length cv) ss xs st) := Lib.hid (HP.out.keep hb2)
          have HO2 := Lib.hid (obj_new wr (.cells #[.int .i64 a, .int .i64 b'] 83))
          clear hb2
          go_upto_region 17 with fail
          generalize wr.alloc (.cells #[.int .i64 a, .int .i64 b'] 83) = w5 at *
          generalize wr.heap.size = ob at *
          have o0 : w5.cell? ⟨ob, 0, none⟩ = some (.int .i64 a) := (obj_cell HO2.out 0).trans rfl
          have o1 : w5.cell? ⟨ob, 1, none⟩ = some (.int .i64 b') := (obj_cell HO2.out 1).trans rfl
          by_cases ha : a < 0 ∨ 4611686018427387904 < a
          · have HSH := Lib.hid (show_bad ab q a b' w5 ha)
            rcases ha with ha | ha
            · as_aux_lemma =>
                go_wp2_with (first
                  | (go_at_call 49; refine HSH.out.mono ?_; rintro e w6 ⟨E, rfl, hr⟩; have hch := hr.hold (Below.refl _ _); have p0 := keepc hr.below o0; have p1 := keepc hr.below o1; have HP6 := Lib.hid (show APs W1 w6 ab q j k (.slice pv ss.length cv) ss xs st from HP2.out.keep hr.below); clear hr o0 o1)
                  | (go_at_call 16; refine (isN_chain 5 _ 1 5 (by assumption) (by decide)).mono ?_; rintro e yy ⟨rfl, rfl⟩))
                exact ⟨⟨t + 1, by omega, by go_num, Lib.hid ⟨ss, xs, st, HP6.out, by have := HST.out; omega, by have := HST.out; omega⟩⟩, by simp [intOf]; omega⟩
            · have ha' : ¬ a < 0 := by omega
              as_aux_lemma =>
                go_wp2_with (first
                  | (go_at_call 49; refine HSH.out.mono ?_; rintro e w6 ⟨E, rfl, hr⟩; have hch := hr.hold (Below.refl _ _); have p0 := keepc hr.below o0; have p1 := keepc hr.below o1; have HP6 := Lib.hid (show APs W1 w6 ab q j k (.slice pv ss.length cv) ss xs st from HP2.out.keep hr.below); clear hr o0 o1)
                  | (go_at_call 16; refine (isN_chain 5 _ 1 5 (by assumption) (by decide)).mono ?_; rintro e yy ⟨rfl, rfl⟩))
                exact ⟨⟨t + 1, by omega, by go_num, Lib.hid ⟨ss, xs, st, HP6.out, by have := HST.out; omega, by have := HST.out; omega⟩⟩, by simp [intOf]; omega⟩
          · have a0 : 0 ≤ a := by omega
            have a1 : a ≤ 4611686018427387904 := by omega
            clear ha
            by_cases hb : b' < a ∨ 4611686018427387904 < b' ∨ two k ≤ b' - a
            · have HSH := Lib.hid (show_arg ab q j k a b' w5 HP2.out.1.bf a0 a1 hw1 hb)
              obtain ⟨hw10, hw11⟩ := hw1
              by_cases hb1 : b' < a
              · clear hb
                as_aux_lemma =>
                  go_wp2_with (first
                    | (go_at_call 49; refine HSH.out.mono ?_; rintro e w6 ⟨E, rfl, hr⟩; have hch := hr.hold (Below.refl _ _); have p0 := keepc hr.below o0; have p1 := keepc hr.below o1; have HP6 := Lib.hid (show APs W1 w6 ab q j k (.slice pv ss.length cv) ss xs st from HP2.out.keep hr.below); clear hr o0 o1)
                    | (go_at_call 16; refine (isN_chain 1 _ 1 1 (by assumption) (by decide)).mono ?_; rintro e yy ⟨rfl, rfl⟩))
                  exact ⟨⟨t + 1, by omega, by go_num, Lib.hid ⟨ss, xs, st, HP6.out, by have := HST.out; omega, by have := HST.out; omega⟩⟩, by simp [intOf]; omega⟩
              · by_cases hb2 : 4611686018427387904 < b'
                · clear hb
                  as_aux_lemma =>
                    go_wp2_with (first
                      | (go_at_call 49; refine HSH.out.mono ?_; rintro e w6 ⟨E, rfl, hr⟩; have hch := hr.hold (Below.refl _ _); have p0 := keepc hr.below o0; have p1 := keepc hr.below o1; have HP6 := Lib.hid (show APs W1 w6 ab q j k (.slice pv ss.length cv) ss xs st from HP2.out.keep hr.below); clear hr o0 o1)
                      | (go_at_call 16; refine (isN_chain 1 _ 1 1 (by assumption) (by decide)).mono ?_; rintro e yy ⟨rfl, rfl⟩))
                    exact ⟨⟨t + 1, by omega, by go_num, Lib.hid ⟨ss, xs, st, HP6.out, by have := HST.out; omega, by have := HST.out; omega⟩⟩, by simp [intOf]; omega⟩
                · have hb3 : two k ≤ b' - a := by omega
                  clear hb
                  as_aux_lemma =>
                    go_wp2_with (first
                      | (go_at_call 49; refine HSH.out.mono ?_; rintro e w6 ⟨E, rfl, hr⟩; have hch := hr.hold (Below.refl _ _); have p0 := keepc hr.below o0; have p1 := keepc hr.below o1; have HP6 := Lib.hid (show APs W1 w6 ab q j k (.slice pv ss.length cv) ss xs st from HP2.out.keep hr.below); clear hr o0 o1)
                      | (go_at_call 16; refine (isN_chain 1 _ 1 1 (by assumption) (by decide)).mono ?_; rintro e yy ⟨rfl, rfl⟩))
                    exact ⟨⟨t + 1, by omega, by go_num, Lib.hid ⟨ss, xs, st, HP6.out, by have := HST.out; omega, by have := HST.out; omega⟩⟩, by simp [intOf]; omega⟩
            · have b0 : a ≤ b' := by omega
              have b1 : b' ≤ 4611686018427387904 := by omega
              have b2 : b' - a < two k := by omega
              obtain ⟨m, hm⟩ : ∃ m : Nat, b' - a + 1 = (m : Int) := ⟨(b' - a + 1).toNat, by omega⟩
              have hmk : (m : Int) ≤ two k := by omega
              have HMM := Lib.hid hm
              have HA := Lib.hid (HP2.out.1.know (restB ob a b' .nilIface []).ok HO2.out)
              have HLEN := Lib.hid HP2.out.2.1.2.2
              have hstl : 0 ≤ st ∧ st ≤ 3000 := by have := HST.out; omega
              obtain ⟨hst0, hst1⟩ := hstl
              have da1 : decide (a < 0) = false := decide_eq_false (by omega)
              have da2 : decide (4611686018427387904 < a) = false := decide_eq_false (by omega)
              have db1 : decide (b' < a) = false := decide_eq_false (by omega)
              have db2 : decide (4611686018427387904 < b') = false := decide_eq_false (by omega)
              have db3 : decide (two k ≤ b' - a) = false := decide_eq_false (by omega)
              obtain ⟨i0, hi0, hz0, hz1, hz2⟩ := info_parts infoI64
              clear hb hm hw1
              as_aux_lemma =>
                go_wp2_with (go_at_call 49; refine (show_ok HA.out a b' a0 b0 b1 b2 m HMM.out HLEN.out hst0 (by omega)).mono ?_; rintro e w6 ⟨rfl, hh⟩; have HA6 := Lib.hid (show Av (restB ob a b' (.slice pv ss.length cv) ss) W1 w6 ab q j k (showN xs j k a m) (st + m) from hh); obtain ⟨p0, p1⟩ := HA6.out.box; clear hh o0 o1)
                have HS3 : Hid (Av (restB ob a b' (.slice pv ss.length cv) (ss ++ spanS a 0)) W1 w6 ab q j k (showN xs j k a m) (st + m)) := by simpa [spanS] using HA6
                clear p0 p1 HA6
                go_loopw [17, 21] (fun v i wl => ∃ u : Nat, u ≤ m ∧ i = .int .i64 (a + u) ∧ Hid (Av (restB ob a b' v (ss ++ spanS a u)) W1 wl ab q j k (showN xs j k a m) (st + m))) (fun _ i _ => (b' + 1 - intOf i).toNat)
                case atStart => exact ⟨0, Nat.zero_le _, by simp, HS3⟩
                case round =>
                  clear HS3
                  obtain ⟨u, hu, rfl, HU⟩ := hrel
                  obtain ⟨p0, p1⟩ := HU.out.box
                  obtain ⟨pu, cu, hvu⟩ := HU.out.form
                  obtain rfl := (show _ = Value.slice pu (ss ++ spanS a u).length cu from hvu)
                  have HL := Lib.hid (show (ss ++ spanS a u).length ≤ 1300 by have := HST.out; simp [spanS_len]; omega)
                  clear hvu
                  by_cases hltu : u < m
                  · have hle : a + (u : Int) ≤ b' := by have := HMM.out; omega
                    have HROW := Lib.hid (HU.out.rowA (.cells #[.int .i64 (a + u)] 2))
                    go_wp2_with (at_builtin; refine wpList_append_row rfl _ _ 46 rfl 2 i0 (.int .i64 0) 1 8 Try.underlying46 hi0 hz0 hz1 hz2 rfl (by decide) (.slice pu (ss ++ spanS a u).length cu) (ss ++ spanS a u).length _ rfl HROW.out ⟨wr.heap.size, 0, none⟩ 1 1 [.int .i64 (a + u)] rfl rfl (one_cell _ _ _) (fun x hx => by simp at hx; subst hx; rfl) (by have := HL.out; unfold maxLen; omega) (by have := HL.out; omega) ?_; intro v7 w7 hown7 hf7 hv7; have hap := HU.out.app (Below.refl _ _) hown7 hf7 hv7; rw [List.append_assoc, ← spanS_succ] at hap; have HA7 := Lib.hid (show Av (restB ob a b' v7 (ss ++ spanS a (u + 1))) W1 w7 ab q j k (showN xs j k a m) (st + m) from hap); clear hown7 hf7 hv7 hap)
                    exact ⟨⟨u + 1, by omega, by go_num, HA7⟩, by simp [intOf]; omega⟩
                  · obtain rfl : u = m := by omega
                    have hgt : ¬ a + (u : Int) ≤ b' := by have := HMM.out; omega
                    have HE : Hid (APs W1 wr ab q j k (.slice pu (ss ++ spanS a u).length cu) (ss ++ spanS a u) (showN xs j k a u) (st + u)) := Lib.hid ⟨HU.out.know (rest .nilIface []).ok trivial, HP2.out.2.1.span a u, fun s hs => (List.mem_append.1 hs).elim (HP2.out.2.2.1 s) (spanS_in a u a0 (by have := HMM.out; omega) s), by omega⟩
                    go_wp2
                    exact ⟨⟨t + 1, by omega, by go_num, Lib.hid ⟨_, _, _, HE.out, by have := HST.out; omega, by have := HST.out; simp [spanS_len]; omega⟩⟩, by simp [intOf]; omega⟩
        · obtain rfl : t = n := by omega
          have HST2 := Lib.hid (show 0 ≤ st ∧ st ≤ 3000 ∧ ss.length ≤ 1300 by have := HST.out; omega)
          have hP := HP.out
          have HS4 : Hid (∃ st', APs W1 wr ab q j k (.slice pv ss.length cv) ss xs st' ∧ st' ≤ 3000 + (0 : Nat)) := Lib.hid ⟨st, hP, by have := HST2.out; omega⟩
          have HLEN := Lib.hid hP.2.1.2.2
          have HPR := Lib.hid hP.2.1
          clear hlt HST HST2 HC hP HP
          go_wp2_with fail
          go_loopw [151] (fun i wl => ∃ u : Nat, u ≤ ns ∧ i = .int .i64 u ∧ Hid (∃ st', APs W1 wl ab q j k (.slice pv ss.length cv) ss xs st' ∧ st' ≤ 3000 + u)) (fun i _ => ns - (intOf i).toNat)
          case atStart => exact ⟨0, Nat.zero_le _, rfl, HS4⟩
          case round =>
            clear HS4
            obtain ⟨u, hu, rfl, HU⟩ := hrel
            obtain ⟨st', hp', hst'⟩ := HU.out
            have HP := Lib.hid hp'
            have HST := Lib.hid (show 0 ≤ st' ∧ st' ≤ 3000 + u from ⟨hp'.2.2.2, hst'⟩)
            clear hp' hst' HU
            by_cases hltu : u < ns
            · obtain ⟨pb, off, rfl, hcell⟩ := HCP.out.resolve_left (by omega)
              have q0 := keepc (bthen HBW.out HP.out.1.below) (hcell u hltu).1
              have dj : decide ((0 : Int) ≤ (u : Int)) = true := decide_eq_true (by omega)
              generalize z u = s at q0
              clear hcell
              by_cases hs0 : s < 0 ∨ 4611686018427387904 < s
              · have HIS := Lib.hid (is_bad ab q s wr hs0)
                rcases hs0 with hs0 | hs0
                · as_aux_lemma =>
                    go_wp2_with (first
                      | (go_at_call 50; refine HIS.out.mono ?_; rintro e w6 ⟨E, rfl, hr⟩; have hch := hr.hold (Below.refl _ _); have HP6 := Lib.hid (HP.out.keep hr.below); clear hr)
                      | (go_at_call 16; refine (isN_chain 5 _ 1 5 (by assumption) (by decide)).mono ?_; rintro e yy ⟨rfl, rfl⟩))
                    exact ⟨⟨u + 1, by omega, by go_num, Lib.hid ⟨st', HP6.out, by have := HST.out; omega⟩⟩, by simp [intOf]; omega⟩
                · have hs0' : ¬ s < 0 := by omega
                  as_aux_lemma =>
                    go_wp2_with (first
                      | (go_at_call 50; refine HIS.out.mono ?_; rintro e w6 ⟨E, rfl, hr⟩; have hch := hr.hold (Below.refl _ _); have HP6 := Lib.hid (HP.out.keep hr.below); clear hr)
                      | (go_at_call 16; refine (isN_chain 5 _ 1 5 (by assumption) (by decide)).mono ?_; rintro e yy ⟨rfl, rfl⟩))
                    exact ⟨⟨u + 1, by omega, by go_num, Lib.hid ⟨st', HP6.out, by have := HST.out; omega⟩⟩, by simp [intOf]; omega⟩
              · have h0 : 0 ≤ s := by omega
                have h1 : s ≤ 4611686018427387904 := by omega
                clear hs0
                have HIS := Lib.hid (is_ok HP.out.1 s h0 h1 HLEN.out HST.out.1 (by have := HST.out; omega))
                have HE := Lib.hid (shown_eq HPR.out s h0)
                have HRF : Hid (∀ w st2, APs W1 w ab q j k (.slice pv ss.length cv) ss xs st2 → Calls Try.prog 51 #[.slice pv ss.length cv, .int .i64 (two k), .int .i64 s] w fun e w' => e = .returned (.bool (isL ss (two k) s)) ∧ Below w.heap.size w w') := Lib.hid fun w st2 h => refIs_any w _ ss h.srow (two k) s (by omega) (by omega) h0 h1
                as_aux_lemma =>
                  go_wp2_with (first
                    | (go_at_call 50; refine HIS.out.mono ?_; rintro e w6 ⟨rfl, hh⟩; rw [HE.out]; have HP6 := Lib.hid (show APs W1 w6 ab q j k (.slice pv ss.length cv) ss xs (st' + 1) from ⟨hh, HP.out.2.1, HP.out.2.2.1, by have := HST.out; omega⟩); clear hh)
                    | (go_at_call 51; refine (HRF.out _ _ HP6.out).mono ?_; rintro e w7 ⟨rfl, hb⟩; have HP7 := Lib.hid (HP6.out.keep hb); clear hb))
                  exact ⟨⟨u + 1, by omega, by go_num, Lib.hid ⟨st' + 1, HP7.out, by have := HST.out; omega⟩⟩, by simp [intOf]; omega⟩
            · obtain rfl : u = ns := by omega
              clear hltu HCP
              have HS5 : Hid (∃ st2, APs W1 wr ab q j k (.slice pv ss.length cv) ss xs st2 ∧ st2 ≤ 4000 + (0 : Nat)) := Lib.hid ⟨st', HP.out, by have := HST.out; omega⟩
              clear HST HP
              go_wp2_with fail
              go_loopw [188] (fun i wl => ∃ u : Nat, u ≤ j ∧ i = .int .i64 u ∧ Hid (∃ st2, APs W1 wl ab q j k (.slice pv ss.length cv) ss xs st2 ∧ st2 ≤ 4000 + u)) (fun i _ => j - (intOf i).toNat)
              case atStart => exact ⟨0, Nat.zero_le _, rfl, HS5⟩
              case round =>
                clear HS5
                obtain ⟨r, hr, rfl, HU⟩ := hrel
                obtain ⟨st2, hp', hst'⟩ := HU.out
                have HP := Lib.hid hp'
                have HST := Lib.hid (show 0 ≤ st2 ∧ st2 ≤ 4000 + r from ⟨hp'.2.2.2, hst'⟩)
                clear hp' hst' HU
                by_cases hlr : r < j
                · have HLD := Lib.hid (load_v HP.out.1 r (-5) (HPR.out.2.1 r hlr) HST.out.1 (by have := HST.out; omega))
                  as_aux_lemma =>
                    go_wp2_with (go_at_call 33; refine HLD.out.mono ?_; rintro e w6 ⟨rfl, hh⟩; have HP6 := Lib.hid (show APs W1 w6 ab q j k (.slice pv ss.length cv) ss xs (st2 + 1) from ⟨hh, HP.out.2.1, HP.out.2.2.1, by have := HST.out; omega⟩); clear hh)
                    exact ⟨⟨r + 1, by omega, by go_num, Lib.hid ⟨st2 + 1, HP6.out, by have := HST.out; omega⟩⟩, by simp [intOf]; omega⟩
                · obtain rfl : r = j := by omega
                  clear hlr
                  have hb1 := HP.out.1.below
                  have x0 := keepc hb1 ((obj_cell HO1.out 0).trans rfl)
                  have x1 := keepc hb1 ((obj_cell HO1.out 1).trans rfl)
                  have HBE := Lib.hid (bthen HBW.out hb1)
                  clear hb1
                  by_cases hx : x < 0 ∨ 4611686018427387904 < x
                  · have HHI := Lib.hid (hi_bad ab q x y wr hx)
                    rcases hx with hx | hx
                    · skip
                      as_aux_lemma =>
                        go_wp2_with (first
                          | (go_at_call 52; refine HHI.out.mono ?_; rintro e w6 ⟨E, rfl, hr⟩; have p0 := keepc hr.below x0; have p1 := keepc hr.below x1; have HR6 := Lib.hid hr; clear hr x0 x1)
                          | (go_at_call 47; refine (awake7 _).mono ?_; rintro e w7 ⟨rfl, hb7⟩; have hch := HR6.out.hold hb7; have HB7 := Lib.hid (bthen HBE.out (bthen HR6.out.below hb7)); clear hb7)
                          | (go_at_call 16; refine (isN_chain 5 _ 1 5 (by assumption) (by decide)).mono ?_; rintro e yy ⟨rfl, rfl⟩))
                        go_ret
                        exact ⟨rfl, HB7.out⟩
                    · have hx' : ¬ x < 0 := by omega
                      as_aux_lemma =>
                        go_wp2_with (first
                          | (go_at_call 52; refine HHI.out.mono ?_; rintro e w6 ⟨E, rfl, hr⟩; have p0 := keepc hr.below x0; have p1 := keepc hr.below x1; have HR6 := Lib.hid hr; clear hr x0 x1)
                          | (go_at_call 47; refine (awake7 _).mono ?_; rintro e w7 ⟨rfl, hb7⟩; have hch := HR6.out.hold hb7; have HB7 := Lib.hid (bthen HBE.out (bthen HR6.out.below hb7)); clear hb7)
                          | (go_at_call 16; refine (isN_chain 5 _ 1 5 (by assumption) (by decide)).mono ?_; rintro e yy ⟨rfl, rfl⟩))
                        go_ret
                        exact ⟨rfl, HB7.out⟩
                  · have hx0 : 0 ≤ x := by omega
                    have hx1 : x ≤ 4611686018427387904 := by omega
                    have dx0 : decide (x < 0) = false := decide_eq_false (by omega)
                    have dx1 : decide (4611686018427387904 < x) = false := decide_eq_false (by omega)
                    clear hx
                    by_cases hyy : 4611686018427387904 < y
                    · have HHI := Lib.hid (hi_arg ab q x y wr hx0 hx1 hyy)
                      as_aux_lemma =>
                        go_wp2_with (first
                          | (go_at_call 52; refine HHI.out.mono ?_; rintro e w6 ⟨E, rfl, hr⟩; have p0 := keepc hr.below x0; have p1 := keepc hr.below x1; have HR6 := Lib.hid hr; clear hr x0 x1)
                          | (go_at_call 47; refine (awake7 _).mono ?_; rintro e w7 ⟨rfl, hb7⟩; have hch := HR6.out.hold hb7; have HB7 := Lib.hid (bthen HBE.out (bthen HR6.out.below hb7)); clear hb7)
                          | (go_at_call 16; refine (isN_chain 1 _ 1 1 (by assumption) (by decide)).mono ?_; rintro e yy ⟨rfl, rfl⟩))
                        go_ret
                        exact ⟨rfl, HB7.out⟩
                    · have hy1 : y ≤ 4611686018427387904 := by omega
                      have hy0 : -9223372036854775808 ≤ y := HY.out.1
                      have dy1 : decide (4611686018427387904 < y) = false := decide_eq_false (by omega)
                      have HHI := Lib.hid (hi_ok HP.out.1 x y hx0 hx1 hy0 hy1 HLEN.out HST.out.1 (by have := HST.out; omega))
                      have HRF : Hid (∀ w st3, APs W1 w ab q r k (.slice pv ss.length cv) ss xs st3 → Calls Try.prog 53 #[.slice pv ss.length cv, .int .i64 (two k), .int .i64 x, .int .i64 y] w fun e w' => ∃ i : Nat, RunTo (isL ss (two k)) x y i ∧ e = .returned (.int .i64 (x + i - 1)) ∧ Below w.heap.size w w') := Lib.hid fun w st3 h => refHi_any w _ ss h.srow (two k) x y (by omega) (by omega) hx0 hx1 hy0 hy1
                      as_aux_lemma =>
                        go_wp2_with (first
                          | (go_at_call 52; refine HHI.out.mono ?_; rintro e w6 ⟨J, st3, hrun, rfl, hav, hs1, hs2⟩; have HP6 := Lib.hid (show APs W1 w6 ab q r k (.slice pv ss.length cv) ss xs st3 from ⟨hav, HP.out.2.1, HP.out.2.2.1, by have := HST.out; omega⟩); have HRUN := Lib.hid hrun; have p0 := keepc HP6.out.1.below ((obj_cell HO1.out 0).trans rfl); have p1 := keepc HP6.out.1.below ((obj_cell HO1.out 1).trans rfl); clear hrun hav hs1 hs2 x0 x1)
                          | (go_at_call 47; refine (awake7 _).mono ?_; rintro e w7 ⟨rfl, hb7⟩; have HP7 := Lib.hid (HP6.out.keep hb7); have z0 := keepc hb7 p0; have z1 := keepc hb7 p1; clear hb7 p0 p1)
                          | (go_at_call 53; refine (HRF.out _ _ HP7.out).mono ?_; rintro e w8 ⟨J2, hrun2, rfl, hb8⟩; obtain rfl : J = J2 := told_ref HP7.out hx0 HRUN.out hrun2; have HB8 := Lib.hid (bthen HBW.out (HP7.out.keep hb8).1.below); clear hb8 hrun2))
                        go_ret
                        exact ⟨rfl, HB8.out⟩
end Go.Proofs.Ytnimmkgdgdhkfaa
