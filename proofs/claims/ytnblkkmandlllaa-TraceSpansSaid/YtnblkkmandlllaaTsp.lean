/-
  TraceSpans, walked. Conditions: as the statement has them.
-/
import Derived.Test.YtnblkkmandlllaaTin
import Derived.Test.YtnblkkmandlllaaTe
import Derived.Test.YtnblkkmandlllaaLater
import Derived.Deep.DeepCutAuto
import Derived.Deep.RegionLawGrows
namespace Go.Proofs.Ytnblkkmandlllaa
open Go.RowKit Go.Shelf Go.Maps
set_option linter.unusedVariables false
set_option linter.unusedSimpArgs false

theorem infoLo : (Try.prog.info? 2).map (fun i => (i.zero, i.size, i.bytes)) = some (some (.int .i64 0), 1, 8) := by kernel_rfl
/-- What is asked of beside the list that came. -/
def asksN (l : List Nt) : List Int := l.flatMap fun x => [x.lo, x.seq]
theorem asksN_snoc (l : List Nt) (x : Nt) : asksN (l ++ [x]) = asksN l ++ [x.lo, x.seq] := by unfold asksN; rw [List.flatMap_append]; rfl
theorem asksN_len (l : List Nt) : (asksN l).length = 2 * l.length := by
  unfold asksN
  induction l with
  | nil => rfl
  | cons x r ih => rw [List.flatMap_cons, List.length_append, ih]; simp; omega

theorem any_inS (out : List Sp) (y : Int) : out.any (inS y) = true ↔ InP out y := by
  unfold InP
  rw [List.any_eq_true]
  constructor
  · rintro ⟨x, hx, h⟩
    unfold inS at h
    simp only [Bool.and_eq_true, decide_eq_true_eq] at h
    exact ⟨x, hx, h.1, h.2⟩
  · rintro ⟨x, hx, h1, h2⟩
    exact ⟨x, hx, by unfold inS; simp only [Bool.and_eq_true, decide_eq_true_eq]; exact ⟨h1, h2⟩⟩
theorem any_shown {l : List Nt} {ring : Int} {out : List Sp} (h : ShownP l ring out) (y : Int) : out.any (inS y) = inP l ring y := by
  rw [Bool.eq_iff_iff, any_inS, inP_iff]
  exact h.canon.cov y
theorem len_in {l : List Nt} {ring y : Int} {out : List Sp} (h : ShownP l ring out) (hp : inP l ring y = true) : ∃ s ∈ out, s.1 ≤ y ∧ y ≤ s.2 ∧ lenP y out = s.2 - y + 1 := by
  have ha := (any_shown h y).trans hp
  cases hf : out.find? (inS y) with
  | none =>
    obtain ⟨x, hx, hi⟩ := List.any_eq_true.1 ha
    exact absurd hi (List.find?_eq_none.1 hf x hx)
  | some s =>
    have hi := List.find?_some hf
    unfold inS at hi
    simp only [Bool.and_eq_true, decide_eq_true_eq] at hi
    exact ⟨s, List.mem_of_find?_eq_some hf, hi.1, hi.2, by unfold lenP; rw [hf]⟩
theorem len_out {l : List Nt} {ring y : Int} {out : List Sp} (h : ShownP l ring out) (hp : inP l ring y = false) : lenP y out = 0 := by
  have ha := (any_shown h y).trans hp
  have hf : out.find? (inS y) = none := List.find?_eq_none.2 fun x hx hi => by
    have := List.any_eq_false.1 ha x hx
    exact this hi
  unfold lenP
  rw [hf]

set_option maxRecDepth 100000 in
set_option maxHeartbeats 8000000 in
theorem spans_walk {W : World} {v vd : Value} {l : List Nt} {ring : Int} {ds : List Int} (hl : NtsAt W v l) (hd : IntsR W vd ds) :
    Calls Try.prog 4 #[v, .int .i64 ring, vd] W fun e w' => e = .returned (.bool true) ∧ Below W.heap.size W w' := by
  have HL := Lib.hid hl
  have HD := Lib.hid hd
  obtain ⟨p, c, rfl, hc, hm⟩ := hl.form
  obtain ⟨pd, cd, rfl, hcd, hmd⟩ := hd.form
  clear hl hd
  by_cases h120 : l.length ≤ 120
  · have HS : Hid (decide (l.length ≤ 120) = true) := Lib.hid (by simpa using h120)
    by_cases h60 : ds.length ≤ 60
    · have HC := Lib.hid (tshown (ring := ring) HL.out (by omega))
      go_enter Try.func4, Try.ntmps4
      go_wp2_with (first
        | (go_at_call 10; refine (tsmall HL.out).mono ?_; rintro e w1 ⟨rfl, rfl⟩; rw [HS.out])
        | (go_at_call 16; refine HC.out.mono ?_; rintro e w1 ⟨v1, out, rfl, hat, hs, hol, hb⟩; have HA := Lib.hid hat; have HSH := Lib.hid hs; have HB1 := Lib.hid hb; obtain ⟨p1, cq, rfl, -⟩ := hat.form; clear hat hs hb))
      clear HC
      have HIN := Lib.hid fun w (hw : Below W.heap.size W w) (i : Int) => rin (ring := ring) (i := i) (HL.out.keep hw) (by omega)
      have HEN := Lib.hid fun w (hw : Below W.heap.size W w) (s : Sp) (hs : s ∈ out) (i : Int) (a : s.1 ≤ i) (b : i ≤ s.2) => rend (HL.out.keep hw) (by omega) HSH.out.canon hs (HSH.out.bnd s hs).1 (HSH.out.bnd s hs).2 a b
      go_loopw [32] (fun iv wl => ∃ k : Nat, k ≤ out.length ∧ iv = .int .i64 k ∧ Hid (Below w1.heap.size w1 wl)) (fun iv _ => out.length - (intOf iv).toNat)
      case atStart => exact ⟨0, Nat.zero_le _, rfl, Lib.hid (Below.refl _ _)⟩
      case round =>
        obtain ⟨k, hk, rfl, HJ⟩ := hrel
        by_cases hlt : k < out.length
        · have hNA := HA.out.keep HJ.out
          obtain ⟨b, off, s, rfl, hx, hb, c0, c1⟩ := hNA.at_ hlt
          have hsm : s ∈ out := List.mem_of_getElem? hx
          have hbd := HSH.out.bnd s hsm
          have hne := HSH.out.canon.ne s hsm
          have HP : Hid (inP l ring s.1 = true) := Lib.hid ((inP_iff _ _ _).2 ((HSH.out.canon.cov _).1 ⟨s, hsm, Int.le_refl _, hne⟩))
          have HE := Lib.hid fun w (hw : Below W.heap.size W w) => HEN.out w hw s hsm s.1 (Int.le_refl _) hne
          have HBW := Lib.hid (bthen HB1.out HJ.out)
          have HAL : Hid (∀ cs : Array Value, Below w1.heap.size w1 (wr.alloc (.cells cs 43))) := Lib.hid fun cs => HJ.out.alloc HJ.out.size _
          obtain ⟨s0, s1⟩ := s
          simp only at hbd hne HP HE c0 c1
          obtain ⟨hs0, hsM⟩ := hbd
          have g1 : decide (s1 < s0) = false := by simp; omega
          have g2 : decide (s0 < 0) = false := by simp; omega
          have g3 : decide (4611686018427387904 < s1) = false := by simp; omega
          have HX := Lib.hid hx
          clear hx hb
          go_upto_region 7 with (fail)
          have d0 : (wr.alloc (.cells #[.int .i64 s0, .int .i64 s1] 43)).cell? ⟨wr.heap.size, 0, none⟩ = some (.int .i64 s0) := by simp
          have d1 : (wr.alloc (.cells #[.int .i64 s0, .int .i64 s1] 43)).cell? ⟨wr.heap.size, 1, none⟩ = some (.int .i64 s1) := by simp
          have HA2 := Lib.hid (HAL.out #[.int .i64 s0, .int .i64 s1])
          have HBA := Lib.hid (bthen HB1.out (HAL.out #[.int .i64 s0, .int .i64 s1]))
          have HBX := Lib.hid ((Below.refl wr.heap.size wr).alloc (Nat.le_refl _) (.cells #[.int .i64 s0, .int .i64 s1] 43))
          obtain ⟨ab, hab⟩ : ∃ ab, wr.heap.size = ab := ⟨_, rfl⟩
          rw [hab] at d0 d1
          rw [hab]
          by_cases hk0 : k = 0
          · have g4 : decide ((0 : Int) < (k : Int)) = false := by simp; omega
            have g5 : decide (0 < k) = false := by simp; omega
            clear hk0
            generalize wr.alloc (.cells #[.int .i64 s0, .int .i64 s1] 43) = wa at *
            clear c0 c1 hab HBX hNA
            have n0 : ∀ x : Later wa, x.to.cell? ⟨ab, 0, none⟩ = some (.int .i64 s0) := fun x => keepc x.below d0
            have n1 : ∀ x : Later wa, x.to.cell? ⟨ab, 1, none⟩ = some (.int .i64 s1) := fun x => keepc x.below d1
            have HI1 : Hid (∀ x : Later wa, Calls Try.prog 17 #[.slice p l.length c, .int .i64 ring, .int .i64 s0] x.to fun e w'' => e = .returned (.bool true) ∧ ∃ y : Later wa, w'' = y.to) := fun x => (HIN.out x.to (bthen HBA.out x.below) s0).mono fun e w h => ⟨by rw [h.1, HP.out], ⟨w, bthen x.below h.2⟩, rfl⟩
            have HE1 : Hid (∀ x : Later wa, Calls Try.prog 18 #[.slice p l.length c, .int .i64 ring, .int .i64 s0] x.to fun e w'' => e = .returned (.int .i64 s1) ∧ ∃ y : Later wa, w'' = y.to) := fun x => (HE.out x.to (bthen HBA.out x.below)).mono fun e w h => ⟨h.1, ⟨w, bthen x.below h.2⟩, rfl⟩
            clear d0 d1
            refine wp_region_later (by kernel_rfl) (by kernel_rfl) ?_
            repeat (go_big_quiet_step (first | (go_at_call 17; exact HI1.out _) | (go_at_call 18; exact HE1.out _)))
            refine wpQuiet_nil ?_
            intro _ hw'
            obtain ⟨nq, rfl⟩ := hw'
            clear n0 n1 HI1 HE1 g1 g2 g3 g4 g5
            have HN := Lib.hid (HA2.out.trans (nq.below.mono HA2.out.size))
            generalize nq.to = wz at *
            go_wp2
            exact ⟨⟨k + 1, by omega, by go_num, HN⟩, by simp [intOf]; omega⟩
          · have g4 : decide ((0 : Int) < (k : Int)) = true := by simp; omega
            have g5 : decide (0 < k) = true := by simp; omega
            obtain ⟨M, hM⟩ : ∃ M, k = M + 1 := ⟨k - 1, by omega⟩
            have hsub : (k : Int) - 1 = (M : Int) := by omega
            have hMl : M < out.length := by omega
            obtain ⟨b', off', y, hbo, hy, -, -, e1⟩ := hNA.at_ hMl
            simp only [Option.some.injEq, Addr.mk.injEq, and_true] at hbo
            obtain ⟨rfl, rfl⟩ := hbo
            have hgap : y.2 + 1 < s0 := by
              obtain ⟨a1, a2⟩ := List.getElem?_eq_some_iff.1 hy
              obtain ⟨b1, b2⟩ := List.getElem?_eq_some_iff.1 HX.out
              have := (List.pairwise_iff_getElem.1 HSH.out.canon.gap) M k a1 b1 (by omega)
              rw [a2, b2] at this
              exact this
            have e1' := keepc HBX.out e1
            obtain ⟨y0, pv⟩ := y
            simp only at e1' hgap
            have g6 : decide (s0 - 1 ≤ pv) = false := by simp; omega
            clear hk0 hM hy e1
            generalize wr.alloc (.cells #[.int .i64 s0, .int .i64 s1] 43) = wa at *
            clear c0 c1 hab HBX hNA
            have n0 : ∀ x : Later wa, x.to.cell? ⟨ab, 0, none⟩ = some (.int .i64 s0) := fun x => keepc x.below d0
            have n2 : ∀ x : Later wa, x.to.cell? ⟨b, off + M * 2 + 1, none⟩ = some (.int .i64 pv) := fun x => keepc x.below e1'
            have n1 : ∀ x : Later wa, x.to.cell? ⟨ab, 1, none⟩ = some (.int .i64 s1) := fun x => keepc x.below d1
            have HI1 : Hid (∀ x : Later wa, Calls Try.prog 17 #[.slice p l.length c, .int .i64 ring, .int .i64 s0] x.to fun e w'' => e = .returned (.bool true) ∧ ∃ y : Later wa, w'' = y.to) := fun x => (HIN.out x.to (bthen HBA.out x.below) s0).mono fun e w h => ⟨by rw [h.1, HP.out], ⟨w, bthen x.below h.2⟩, rfl⟩
            have HE1 : Hid (∀ x : Later wa, Calls Try.prog 18 #[.slice p l.length c, .int .i64 ring, .int .i64 s0] x.to fun e w'' => e = .returned (.int .i64 s1) ∧ ∃ y : Later wa, w'' = y.to) := fun x => (HE.out x.to (bthen HBA.out x.below)).mono fun e w h => ⟨h.1, ⟨w, bthen x.below h.2⟩, rfl⟩
            clear d0 d1 e1'
            refine wp_region_later (by kernel_rfl) (by kernel_rfl) ?_
            repeat (go_big_quiet_step (first | (go_at_call 17; exact HI1.out _) | (go_at_call 18; exact HE1.out _)))
            refine wpQuiet_nil ?_
            intro _ hw'
            obtain ⟨nq, rfl⟩ := hw'
            clear n0 n1 n2 HI1 HE1 g1 g2 g3 g4 g5 g6
            have HN := Lib.hid (HA2.out.trans (nq.below.mono HA2.out.size))
            generalize nq.to = wz at *
            go_wp2
            exact ⟨⟨k + 1, by omega, by go_num, HN⟩, by simp [intOf]; omega⟩
        · obtain rfl : k = out.length := by omega
          have HBW := Lib.hid (bthen HB1.out HJ.out)
          have HA2 := Lib.hid (HA.out.keep HJ.out)
          obtain ⟨w2, hw2⟩ : ∃ w2, w2 = wr := ⟨_, rfl⟩
          rw [← hw2] at HBW HA2 ⊢
          clear HJ hw2 hlt hk HA HB1
          obtain ⟨i0, hi, hz0, hz1, hz2⟩ := info_parts infoLo
          go_wp2_with fail
          go_loopw [2, 89] (fun av iv wl => ∃ k : Nat, k ≤ l.length ∧ iv = .int .i64 k ∧ Hid (IntsR wl av (ds ++ asksN (l.take k)) ∧ Below w2.heap.size w2 wl)) (fun _ iv _ => l.length - (intOf iv).toNat)
          case atStart => exact ⟨0, Nat.zero_le _, rfl, Lib.hid ⟨by rw [List.take_zero]; unfold asksN; rw [List.flatMap_nil, List.append_nil]; exact HD.out.keep HBW.out, Below.refl _ _⟩⟩
          case round =>
            obtain ⟨k, hk, rfl, HJ⟩ := hrel
            by_cases hlt : k < l.length
            · obtain ⟨b, off, x, rfl, hx, hb, hwf, ⟨c0, c1, c2, c3, c4, c5, c6, c7⟩⟩ := (HL.out.keep (bthen HBW.out HJ.out.2)).at_ hlt
              have HW := Lib.hid hwf
              have HT : Hid (ds ++ asksN (l.take (k + 1)) = (ds ++ asksN (l.take k)) ++ [x.lo, x.seq]) := Lib.hid (by rw [take_snocN hx, asksN_snoc, List.append_assoc])
              have hal : (ds ++ asksN (l.take k)).length ≤ 1000 := by rw [List.length_append, asksN_len, List.length_take]; omega
              clear hx hb hwf
              generalize ds ++ asksN (l.take k) = qs at *
              obtain ⟨pa, ca, rfl, hca, hcm⟩ := HJ.out.1.form
              have HA1 := Lib.hid (HJ.out.2.alloc HJ.out.2.size (.cells #[.int .i64 x.who, .int .i64 x.ring, .int .i64 x.deed, .int .i64 x.lo, .int .i64 x.seq, .int .i64 x.key, .int .i64 x.val, .int .i64 x.code] 33))
              have HI1 := Lib.hid (HJ.out.1.keep ((Below.refl wr.heap.size wr).alloc (Nat.le_refl _) (.cells #[.int .i64 x.who, .int .i64 x.ring, .int .i64 x.deed, .int .i64 x.lo, .int .i64 x.seq, .int .i64 x.key, .int .i64 x.val, .int .i64 x.code] 33)))
              have d3 : (wr.alloc (.cells #[.int .i64 x.who, .int .i64 x.ring, .int .i64 x.deed, .int .i64 x.lo, .int .i64 x.seq, .int .i64 x.key, .int .i64 x.val, .int .i64 x.code] 33)).cell? ⟨wr.heap.size, 3, none⟩ = some (.int .i64 x.lo) := by simp
              have d4 : (wr.alloc (.cells #[.int .i64 x.who, .int .i64 x.ring, .int .i64 x.deed, .int .i64 x.lo, .int .i64 x.seq, .int .i64 x.key, .int .i64 x.val, .int .i64 x.code] 33)).cell? ⟨wr.heap.size, 4, none⟩ = some (.int .i64 x.seq) := by simp
              go_upto_region 13 with (fail)
              generalize wr.alloc (.cells #[.int .i64 x.who, .int .i64 x.ring, .int .i64 x.deed, .int .i64 x.lo, .int .i64 x.seq, .int .i64 x.key, .int .i64 x.val, .int .i64 x.code] 33) = wa at *
              generalize wr.heap.size = ab at *
              clear c0 c1 c2 c3 c4 c5 c6 c7
              have HN0 : Hid (pa = none → qs.length = 0 ∧ qs.length = 0) := Lib.hid fun e => by
                subst e
                obtain ⟨p', c', hv, -, -, -, h3⟩ := HI1.out
                simp only [Value.slice.injEq] at hv
                rcases h3 with h3 | ⟨b', o', h3, -⟩
                · exact ⟨h3, h3⟩
                · rw [← hv.1] at h3; simp at h3
              have HH : Hid (∀ w, Below wa.heap.size wa w → ∀ b, pa = some b → ∀ j u, (flatI qs)[j]? = some u → w.cell? (b.add j) = some u) := Lib.hid fun w hw b hb j u hj => by
                have hjl : j < qs.length := by have := (List.getElem?_eq_some_iff.1 hj).1; simpa [flatI] using this
                subst hb
                obtain ⟨b', off', y, hbo, hy, -, -, hc⟩ := (HI1.out.keep hw).at_ hjl
                simp only [Option.some.injEq] at hbo
                subst hbo
                rw [Addr.add_lit, hc]
                simpa [flatI, hy] using hj
              have HI2 : Hid (∀ x ∈ qs, i64Ok x) := Lib.hid (by obtain ⟨-, -, -, -, -, hw, -⟩ := HI1.out; exact hw)
              go_region_law (first | (refine step_append_grows rfl (.tmp 98) (.tmp 103) 39 rfl 2 i0 (.int .i64 0) 1 8 Try.underlying39 hi hz0 hz1 hz2 rfl (by decide) pa qs.length qs.length (flatI qs) (by rfl) HN0.out (by simp [flatI]) (HH.out _ (by repeat (first | exact Below.refl _ _ | refine Below.drew ?_ | refine Below.alloc ?_ (by simp) _))) ⟨_, 0, none⟩ 2 2 (encS (x.lo, x.seq)) (by rfl) rfl (sp_cell _ (x.lo, x.seq) _) (encS_one _) (by omega) (by unfold maxLen; omega) (by omega) ?_; intro v4 w4 hown hgrow; have HO4 : Hid (IntsR w4 v4 (qs ++ [x.lo, x.seq])) := Lib.hid (IntsR.of_own (l := qs ++ [x.lo, x.seq]) (by rw [List.length_append]; unfold flatI; rw [List.map_append]; exact hown) (fun y hy => by (rcases List.mem_append.1 hy with h | h; exact HI2.out y h; simp at h; rcases h with rfl | rfl; exact HW.out.lo; exact HW.out.seq))); have HG4 : Hid (Below wa.heap.size wa w4) := Lib.hid (Below.grown (by repeat (first | exact Below.refl _ _ | refine Below.drew ?_ | refine Below.alloc ?_ (by simp) _)) hgrow (by simp) (fun k hk => by simp at hk)); clear hown hgrow))
              all_goals (try go_wp2)
              all_goals exact ⟨⟨k + 1, by omega, by go_num, Lib.hid ⟨by rw [HT.out]; exact HO4.out, HA1.out.trans (HG4.out.mono HA1.out.size)⟩⟩, by simp [intOf]; omega⟩
            · obtain rfl : k = l.length := by omega
              rw [List.take_length] at HJ
              have hal : (ds ++ asksN l).length ≤ 1000 := by rw [List.length_append, asksN_len]; omega
              have HLN := Lib.hid fun w (hw : Below W.heap.size W w) (y : Int) => tlength (ring := ring) (from_ := y) (HL.out.keep hw) (by omega)
              have HBW3 := Lib.hid (bthen HBW.out HJ.out.2)
              have HA3 := Lib.hid (HA2.out.keep HJ.out.2)
              have HQ3 := Lib.hid HJ.out.1
              obtain ⟨w3, hw3⟩ : ∃ w3, w3 = wr := ⟨_, rfl⟩
              rw [← hw3] at HBW3 HA3 HQ3 ⊢
              clear HJ HBW HA2 hw3 hlt hk
              generalize ds ++ asksN l = qs at *
              obtain ⟨pa, ca, rfl, hca, hcm⟩ := HQ3.out.form
              go_wp2_with fail
              go_loopw [108] (fun iv wl => ∃ k : Nat, k ≤ qs.length ∧ iv = .int .i64 k ∧ Hid (Below w3.heap.size w3 wl)) (fun iv _ => qs.length - (intOf iv).toNat)
              case atStart => exact ⟨0, Nat.zero_le _, rfl, Lib.hid (Below.refl _ _)⟩
              case round =>
                obtain ⟨k, hk, rfl, HJ⟩ := hrel
                by_cases hlt : k < qs.length
                · obtain ⟨b, off, y, rfl, hy, hb, hyw, c0⟩ := (HQ3.out.keep HJ.out).at_ hlt
                  have HA4 := Lib.hid (HA3.out.keep HJ.out)
                  have HEQ : Hid (out.any (inS y) = inP l ring y) := Lib.hid (any_shown HSH.out y)
                  have hy1 := hyw.1
                  have hy2 := hyw.2
                  clear hy hb hyw
                  go_wp2_with fail
                  obtain ⟨w4, hw4⟩ : ∃ w4, w4 = wr := ⟨_, rfl⟩
                  rw [← hw4] at HJ HA4 ⊢
                  clear c0 hw4
                  go_loopw [14, 114] (fun bv jv wl => ∃ j : Nat, j ≤ out.length ∧ jv = .int .i64 j ∧ bv = .bool ((out.take j).any (inS y)) ∧ Hid (Below w4.heap.size w4 wl)) (fun _ jv _ => out.length - (intOf jv).toNat)
                  case atStart => exact ⟨0, Nat.zero_le _, rfl, rfl, Lib.hid (Below.refl _ _)⟩
                  case round =>
                    obtain ⟨j, hj, rfl, rfl, HI⟩ := hrel
                    by_cases hjl : j < out.length
                    · obtain ⟨b', off', s, rfl, hx, hb, e0, e1⟩ := (HA4.out.keep HI.out).at_ hjl
                      have HNX : Hid ((out.take (j + 1)).any (inS y) = ((out.take j).any (inS y) || (decide (s.1 ≤ y) && decide (y ≤ s.2)))) := Lib.hid (by rw [take_snocN hx, any_snoc]; rfl)
                      have HAL : Hid (∀ cs : Array Value, Below w4.heap.size w4 (wr.alloc (.cells cs 43))) := Lib.hid fun cs => HI.out.alloc HI.out.size _
                      obtain ⟨s0, s1⟩ := s
                      simp only at e0 e1 HNX
                      clear hx hb
                      generalize (out.take j).any (inS y) = ib at *
                      cases ib with
                      | true =>
                        go_wp2
                        exact ⟨⟨j + 1, by omega, by go_num, by rw [HNX.out]; rfl, Lib.hid (HAL.out _)⟩, by simp [intOf]; omega⟩
                      | false =>
                        rcases Bool.eq_false_or_eq_true (decide (s0 ≤ y)) with h1 | h1
                        · rcases Bool.eq_false_or_eq_true (decide (y ≤ s1)) with h2 | h2
                          · go_wp2
                            exact ⟨⟨j + 1, by omega, by go_num, by rw [HNX.out, h1, h2]; rfl, Lib.hid (HAL.out _)⟩, by simp [intOf]; omega⟩
                          · go_wp2
                            exact ⟨⟨j + 1, by omega, by go_num, by rw [HNX.out, h1, h2]; rfl, Lib.hid (HAL.out _)⟩, by simp [intOf]; omega⟩
                        · go_wp2
                          exact ⟨⟨j + 1, by omega, by go_num, by rw [HNX.out, h1]; rfl, Lib.hid (HAL.out _)⟩, by simp [intOf]; omega⟩
                    · obtain rfl : j = out.length := by omega
                      rw [List.take_length, HEQ.out]
                      have HD3 := Lib.hid (bthen HJ.out HI.out)
                      rcases Bool.eq_false_or_eq_true (inP l ring y) with hp | hp
                      · obtain ⟨s, hs, hs1, hs2, hsl⟩ := len_in HSH.out hp
                        have hs0 := (HSH.out.bnd s hs).1
                        have hsM := (HSH.out.bnd s hs).2
                        have HLL : Hid (∀ out2, ShownP l ring out2 → lenP y out2 = s.2 - y + 1) := Lib.hid fun o2 h2 => by rw [canon_unique _ _ _ h2.canon HSH.out.canon]; exact hsl
                        have HEE := Lib.hid fun w (hw : Below W.heap.size W w) => HEN.out w hw s hs y hs1 hs2
                        obtain ⟨s0, s1⟩ := s
                        simp only at hs1 hs2 hs0 hsM HLL HEE
                        clear hs hsl
                        rw [hp]
                        go_wp2_with (first
                          | (go_at_call 17; refine (HIN.out _ (bthen HBW3.out HD3.out) y).mono ?_; rintro e w5 ⟨rfl, hb⟩; rw [hp]; replace HD3 := Lib.hid (bthen HD3.out hb); clear hb)
                          | (go_at_call 18; refine (HEE.out _ (bthen HBW3.out HD3.out)).mono ?_; rintro e w6 ⟨rfl, hb⟩; replace HD3 := Lib.hid (bthen HD3.out hb); clear hb)
                          | (go_at_call 19; refine (HLN.out _ (bthen HBW3.out HD3.out) y).mono ?_; rintro e w7 ⟨o2, rfl, ho2, hb⟩; rw [HLL.out o2 ho2]; replace HD3 := Lib.hid (bthen HD3.out hb); clear hb ho2))
                        exact ⟨⟨k + 1, by omega, by go_num, HD3⟩, by simp [intOf]; omega⟩
                      · have HLL : Hid (∀ out2, ShownP l ring out2 → lenP y out2 = 0) := Lib.hid fun o2 h2 => len_out h2 hp
                        rw [hp]
                        go_wp2_with (first
                          | (go_at_call 17; refine (HIN.out _ (bthen HBW3.out HD3.out) y).mono ?_; rintro e w5 ⟨rfl, hb⟩; rw [hp]; replace HD3 := Lib.hid (bthen HD3.out hb); clear hb)
                          | (go_at_call 19; refine (HLN.out _ (bthen HBW3.out HD3.out) y).mono ?_; rintro e w7 ⟨o2, rfl, ho2, hb⟩; rw [HLL.out o2 ho2]; replace HD3 := Lib.hid (bthen HD3.out hb); clear hb ho2))
                        exact ⟨⟨k + 1, by omega, by go_num, HD3⟩, by simp [intOf]; omega⟩
                · obtain rfl : k = qs.length := by omega
                  go_wp2_with (go_at_call 11; refine (awake22 _).mono ?_; rintro e w9 ⟨rfl, hb⟩; have HE := Lib.hid (bthen (bthen HBW3.out HJ.out) hb); clear hb)
                  go_ret
                  exact ⟨rfl, HE.out⟩
    · go_enter Try.func4, Try.ntmps4
      go_wp2_with (first
        | (go_at_call 10; refine (tsmall HL.out).mono ?_; rintro e w1 ⟨rfl, rfl⟩; rw [HS.out])
        | (go_at_call 11; refine (awake22 _).mono ?_; rintro e w2 ⟨rfl, hb⟩; have HB := Lib.hid hb; clear hb))
      go_ret
      exact ⟨rfl, HB.out⟩
  · have HS : Hid (decide (l.length ≤ 120) = false) := Lib.hid (by simpa using h120)
    go_enter Try.func4, Try.ntmps4
    go_wp2_with (first
      | (go_at_call 10; refine (tsmall HL.out).mono ?_; rintro e w1 ⟨rfl, rfl⟩; rw [HS.out])
      | (go_at_call 11; refine (awake22 _).mono ?_; rintro e w2 ⟨rfl, hb⟩; have HB := Lib.hid hb; clear hb))
    go_ret
    exact ⟨rfl, HB.out⟩
end Go.Proofs.Ytnblkkmandlllaa
