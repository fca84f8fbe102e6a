/-
  TraceActors, walked. Conditions: as the statement has them.
-/
import Derived.Test.YtnblkkmandlllaaTe
import Derived.Laws.StructEq
import Derived.Deep.DeepCutAuto
namespace Go.Proofs.Ytnblkkmandlllaa
open Go.RowKit Go.Shelf Go.Maps
set_option linter.unusedVariables false
set_option linter.unusedSimpArgs false

theorem eqEv (a b c d : Int) (w : World) : (Op.equalIn 10000 30 (.agg #[.int .i64 a, .int .i64 b]) (.agg #[.int .i64 c, .int .i64 d])).run Try.prog w = .ok (a == c && b == d) w := by
  have u3 := Try.underlying2
  rw [show (10000 : Nat) = 9999 + 1 from rfl, run_equalIn_agg w 9999 30 _ _ (by kernel_rfl) (by kernel_rfl)]
  simp only [Program.fieldsOf, Try.underlying30]
  go_simp
  by_cases h1 : a = c <;> by_cases h2 : b = d <;> simp [h1, h2]
theorem neqEv_same (a b : Int) (w : World) : (binOp .neq 30 (.agg #[.int .i64 a, .int .i64 b]) (.agg #[.int .i64 a, .int .i64 b])).run Try.prog w = .ok (.bool false) w := by
  rw [run_neq_struct, eqEv]; simp

def lstep (s : Bool × Int) (x : Nt) : Bool × Int := (s.1 && (x.seq == s.2 && decide (s.2 ≤ 4611686018427387904)), min s.2 4611686018427387904 + 1)
theorem fold_false : ∀ (h : List Nt) (a : Int), (h.foldl lstep (false, a)).1 = false
  | [], _ => rfl
  | x :: r, a => by rw [List.foldl_cons]; exact fold_false r _
theorem fold_ris : ∀ (h : List Nt) (a : Int), (h.foldl lstep (true, a)).1 = risP h a
  | [], _ => rfl
  | x :: r, a => by
    rw [List.foldl_cons]
    unfold lstep risP
    simp only [Bool.true_and]
    by_cases h1 : x.seq = a
    · by_cases h2 : a ≤ 4611686018427387904
      · rw [show min a 4611686018427387904 = a by omega]
        simp only [h1, h2, beq_self_eq_true, decide_true, Bool.and_true, Bool.true_and]
        exact fold_ris r (a + 1)
      · simp only [h1, h2, beq_self_eq_true, decide_false, Bool.and_false, Bool.false_and]
        exact fold_false r _
    · have e : (x.seq == a) = false := by simpa using h1
      simp only [e, Bool.false_and]
      exact fold_false r _
def risF (h : List Nt) (a : Int) : Bool × Int := h.foldl lstep (true, a)
theorem risF_snoc (h : List Nt) (x : Nt) (a : Int) : risF (h ++ [x]) a = lstep (risF h a) x := by simp [risF, List.foldl_append]
theorem risF_at (h : List Nt) (a : Int) (ha : i64Ok a) : i64Ok (risF h a).2 := by
  have : ∀ (h : List Nt) (s : Bool × Int), i64Ok s.2 → i64Ok (h.foldl lstep s).2 := by
    intro h
    induction h with
    | nil => intro s hs; exact hs
    | cons x r ih =>
      intro s hs
      rw [List.foldl_cons]
      refine ih _ ?_
      obtain ⟨h1, h2⟩ := hs
      unfold lstep i64Ok
      simp only
      omega
  exact this h _ ha
theorem hnd_did {who : Int} (hw : 0 ≤ who) (ring d : Int) : hndB who ring d = didB d who ring := by
  funext x
  unfold hndB didB
  rw [show decide (who < 0) = false by simp; omega]
  cases (x.who == who) <;> cases (x.ring == ring) <;> cases (x.deed == d) <;> rfl

set_option maxRecDepth 100000 in
set_option maxHeartbeats 8000000 in
theorem actors_walk {W : World} {v : Value} {l : List Nt} {who ring from_ : Int} (hl : NtsAt W v l) (hfr : i64Ok from_) :
    Calls Try.prog 5 #[v, .int .i64 who, .int .i64 ring, .int .i64 from_] W fun e w' => e = .returned (.bool true) ∧ Below W.heap.size W w' := by
  have HL := Lib.hid hl
  have HFR := Lib.hid hfr
  obtain ⟨p, c, rfl, hc, hm⟩ := hl.form
  clear hl hfr
  by_cases h120 : l.length ≤ 120
  · have HS : Hid (decide (l.length ≤ 120) = true) := Lib.hid (by simpa using h120)
    by_cases hwho : who < 0
    · go_enter Try.func5, Try.ntmps5
      go_wp2_with (first
        | (go_at_call 10; refine (tsmall HL.out).mono ?_; rintro e w1 ⟨rfl, rfl⟩; rw [HS.out])
        | (go_at_call 11; refine (awake22 _).mono ?_; rintro e w2 ⟨rfl, hb⟩; have HB := Lib.hid hb; clear hb))
      go_ret
      exact ⟨rfl, HB.out⟩
    · have HH2 := Lib.hid (rhandled (who := who) (ring := ring) (deed := 2) HL.out (by omega))
      rw [hnd_did (by omega)] at HH2
      go_enter Try.func5, Try.ntmps5
      go_wp2_with (go_at_call 10; refine (tsmall HL.out).mono ?_; rintro e w1 ⟨rfl, rfl⟩; rw [HS.out])
      refine HH2.out.mono ?_
      rintro e w1 ⟨v1, rfl, ho1, hb1⟩
      obtain ⟨p1, c1, rfl, -⟩ := row_form ho1.own
      have HO1 := Lib.hid ho1
      have HB1 := Lib.hid hb1
      have hh3 := rhandled (who := who) (ring := ring) (deed := 3) (hl := HL.out.keep hb1) (by omega)
      rw [hnd_did (by omega)] at hh3
      have HH3 := Lib.hid hh3
      clear hh3 ho1 hb1 HH2
      go_wp2_with fail
      refine HH3.out.mono ?_
      rintro e w2 ⟨v2, rfl, ho2, hb2⟩
      obtain ⟨p2, c2, rfl, -⟩ := row_form ho2.own
      have HO2 := Lib.hid ho2
      have HB2 := Lib.hid (bthen HB1.out hb2)
      have HR1 := Lib.hid (HO1.out.read.keep hb2)
      have HE := Lib.hid (tevents (who := who) (ring := ring) (HL.out.keep HB2.out) (by omega))
      clear HH3 ho2 hb2 HO1 HB1
      go_wp2_with fail
      refine HE.out.mono ?_
      rintro e w3 ⟨v3, rfl, hat, hb3⟩
      obtain ⟨p3, c3, rfl, -⟩ := hat.form
      have HX := Lib.hid hat
      have HB3 := Lib.hid (bthen HB2.out hb3)
      have HR1b := Lib.hid (HR1.out.keep hb3)
      have HR2 := Lib.hid (HO2.out.read.keep hb3)
      clear HE hat hb3 HR1 HO2 HB2
      rw [List.length_map] at HX
      rw [List.length_map]
      have HL1 : Hid ((l.filter (didB 2 who ring)).length ≤ 1000) := Lib.hid (Nat.le_trans (List.length_filter_le _ _) (by omega))
      have HL2 : Hid ((l.filter (didB 3 who ring)).length ≤ 1000) := Lib.hid (Nat.le_trans (List.length_filter_le _ _) (by omega))
      obtain ⟨h, hh⟩ : ∃ h, l.filter (didB 2 who ring) = h := ⟨_, rfl⟩
      obtain ⟨m, hmq⟩ : ∃ m, l.filter (didB 3 who ring) = m := ⟨_, rfl⟩
      have HHQ := Lib.hid hh
      have HMQ := Lib.hid hmq
      rw [hh] at HX HR1b HL1
      rw [hmq] at HR2 HL2
      rw [hh, hmq]
      clear hh hmq
      have hl1 := HL1.out
      have hl2 := HL2.out
      have hneq := neqEv_same
      go_wp2_with fail
      go_loopw [12, 13, 49] (fun rv av iv wl => ∃ k : Nat, k ≤ h.length ∧ iv = .int .i64 k ∧ rv = .bool (risF (h.take k) from_).1 ∧ av = .int .i64 (risF (h.take k) from_).2 ∧ Hid (Below w3.heap.size w3 wl)) (fun _ _ iv _ => h.length - (intOf iv).toNat)
      case atStart => exact ⟨0, Nat.zero_le _, rfl, rfl, rfl, Lib.hid (Below.refl _ _)⟩
      case round =>
        obtain ⟨k, hk, rfl, rfl, rfl, HJ⟩ := hrel
        by_cases hlt : k < h.length
        · obtain ⟨b, off, x, rfl, hx, hb, hwf, ⟨c0, c1, c2, c3, c4, c5, c6, c7⟩⟩ := (HR1b.out.keep HJ.out).at_ hlt
          obtain ⟨b', off', y, rfl, hy, hb', e0, e1⟩ := (HX.out.keep HJ.out).at_ (k := k) (by rw [List.length_map]; exact hlt)
          obtain rfl : evN x = y := by rw [List.getElem?_map, hx] at hy; simpa using hy
          simp only [evN] at e0 e1
          have HF : Hid (risF (h.take (k + 1)) from_ = lstep (risF (h.take k) from_) x) := Lib.hid (by rw [take_snocN hx, risF_snoc])
          have hst := risF_at (h.take k) from_ HFR.out
          have HB4 : Hid (∀ n, Below w3.heap.size w3 (wr.drewN n)) := Lib.hid fun n => bdrewN HJ.out n
          clear hx hy hb hb' hwf c0 c1 c2 c3 c7
          generalize risF (h.take k) from_ = st at *
          obtain ⟨rr, aa⟩ := st
          simp only at hst ⊢
          have ha1 := hst.1
          have ha2 := hst.2
          clear hst
          go_upto_region 11 with (fail)
          go_quiet (fail)
          have e4 : (wr.drewN nq).cell? ⟨b, off + k * 8 + 4, none⟩ = some (.int .i64 x.seq) := c4
          have HB5 := Lib.hid (HB4.out nq)
          clear c4 c5 c6 e0 e1 hneq
          generalize wr.drewN nq = w4 at e4 HB5 ⊢
          have HLS : Hid (lstep (rr, aa) x = (rr && (x.seq == aa && decide (aa ≤ 4611686018427387904)), min aa 4611686018427387904 + 1)) := Lib.hid rfl
          cases rr with
          | false =>
            have HF2 : Hid (risF (h.take (k + 1)) from_ = (false, min aa 4611686018427387904 + 1)) := Lib.hid (by rw [HF.out, HLS.out]; rfl)
            go_wp2
            all_goals exact ⟨⟨k + 1, by omega, by go_num, by rw [HF2.out], by rw [HF2.out], HB5⟩, by simp [intOf]; omega⟩
          | true =>
            rcases Bool.eq_false_or_eq_true (x.seq == aa) with h1 | h1
            · have HF2 : Hid (risF (h.take (k + 1)) from_ = (decide (aa ≤ 4611686018427387904), min aa 4611686018427387904 + 1)) := Lib.hid (by rw [HF.out, HLS.out, h1]; rfl)
              go_wp2
              all_goals exact ⟨⟨k + 1, by omega, by go_num, by rw [HF2.out], by rw [HF2.out], HB5⟩, by simp [intOf]; omega⟩
            · have HF2 : Hid (risF (h.take (k + 1)) from_ = (false, min aa 4611686018427387904 + 1)) := Lib.hid (by rw [HF.out, HLS.out, h1]; rfl)
              go_wp2
              all_goals exact ⟨⟨k + 1, by omega, by go_num, by rw [HF2.out], by rw [HF2.out], HB5⟩, by simp [intOf]; omega⟩
        · obtain rfl : k = h.length := by omega
          rw [List.take_length]
          have HRF : Hid ((risF h from_).1 = risP h from_) := Lib.hid (fold_ris h from_)
          rw [HRF.out]
          have HBW : Hid (Below W.heap.size W wr) := Lib.hid (bthen HB3.out HJ.out)
          have HM4 := Lib.hid (HR2.out.keep HJ.out)
          clear HR1b HX HR2 HB3 HJ hlt hneq HRF
          generalize (risF h from_).2 = atv
          go_upto_if 82 with (fail)
          go_cut [15] (fun cv wx => cv = .int .i64 (curP m) ∧ Hid (wr = wx))
          case first =>
            rcases Nat.eq_zero_or_pos m.length with h0 | hpos
            · have hm0 : m = [] := List.eq_nil_of_length_eq_zero h0
              have HCU : Hid (curP m = -1) := Lib.hid (by rw [hm0]; rfl)
              have hd1 : decide (0 < m.length) = false := decide_eq_false (by omega)
              rw [hd1]
              clear hm0 h0 hd1
              go_wp2_with fail
              go_meet
              exact ⟨by rw [HCU.out], Lib.hid rfl⟩
            · obtain ⟨M, hM⟩ : ∃ M, M + 1 = m.length := ⟨m.length - 1, by omega⟩
              obtain ⟨b, off, x, rfl, hx, hb, hwf, ⟨c0, c1, c2', c3, c4, c5, c6, c7⟩⟩ := HM4.out.at_ (k := M) (by omega)
              have HCU : Hid (curP m = x.seq) := Lib.hid (by
                have : m = m.take M ++ [x] := by rw [← take_snocN hx, List.take_of_length_le (by omega)]
                rw [this, curP_snoc])
              have hd1 : decide (0 < m.length) = true := decide_eq_true (by omega)
              rw [hd1]
              clear hd1
              have hsub : (m.length : Int) - 1 = (M : Int) := by omega
              have hge : (0 : Int) ≤ (M : Int) := by omega
              have hMl : M < m.length := by omega
              clear hx hb hwf hM hpos
              go_wp2_with fail
              go_meet
              exact ⟨by rw [HCU.out], Lib.hid rfl⟩
          case rest =>
            obtain ⟨rfl, HWX⟩ := hcut
            obtain rfl := HWX.out
            obtain ⟨i0, hi, hz0, hz1, hz2⟩ := info_parts infoEr
            have HBW2 := HBW
            clear HBW HM4
            obtain ⟨w4, hw4⟩ : ∃ w4, w4 = wr := ⟨_, rfl⟩
            rw [← hw4] at HBW2 ⊢
            clear hw4
            have HL4 := Lib.hid (HL.out.keep HBW2.out)
            go_wp2_with fail
            go_loopw [16, 92] (fun ov iv wl => ∃ k : Nat, k ≤ l.length ∧ iv = .int .i64 k ∧ Hid (wl.ownsRow w4.heap.size 31 1 ov (codesN (l.take k) who).length (flatI (codesN (l.take k) who)) ∧ Below w4.heap.size w4 wl)) (fun _ iv _ => l.length - (intOf iv).toNat)
            case atStart => exact ⟨0, Nat.zero_le _, rfl, Lib.hid ⟨World.ownsRow_nil _ _ _ _, Below.refl _ _⟩⟩
            case round =>
              obtain ⟨k, hk, rfl, HJ⟩ := hrel
              by_cases hlt : k < l.length
              · obtain ⟨b, off, x, rfl, hx, hb, hwf, ⟨c0, c1, c2, c3, c4, c5, c6, c7⟩⟩ := (HL4.out.keep HJ.out.2).at_ hlt
                have HT : Hid (l.take (k + 1) = l.take k ++ [x]) := Lib.hid (take_snocN hx)
                have HLK : Hid ((codesN (l.take k) who).length ≤ 1000) := Lib.hid (Nat.le_trans (codesN_len _ _) (by rw [List.length_take]; omega))
                have HB0 : Hid (callB who x = (x.who == who && x.deed == 4)) := Lib.hid rfl
                have HTT := Lib.hid fun h => codesN_snocT (l := l.take k) (who := who) (x := x) h
                have HFF := Lib.hid fun h => codesN_snocF (l := l.take k) (who := who) (x := x) h
                rw [← HT.out] at HTT HFF
                have HA1 : Hid ((wr.alloc (.cells #[.int .i64 x.who, .int .i64 x.ring, .int .i64 x.deed, .int .i64 x.lo, .int .i64 x.seq, .int .i64 x.key, .int .i64 x.val, .int .i64 x.code] 33)).ownsRow w4.heap.size 31 1 u16 (codesN (l.take k) who).length (flatI (codesN (l.take k) who)) ∧ Below w4.heap.size w4 (wr.alloc (.cells #[.int .i64 x.who, .int .i64 x.ring, .int .i64 x.deed, .int .i64 x.lo, .int .i64 x.seq, .int .i64 x.key, .int .i64 x.val, .int .i64 x.code] 33))) := Lib.hid ⟨HJ.out.1.alloc _, HJ.out.2.alloc HJ.out.2.size _⟩
                have d0 : (wr.alloc (.cells #[.int .i64 x.who, .int .i64 x.ring, .int .i64 x.deed, .int .i64 x.lo, .int .i64 x.seq, .int .i64 x.key, .int .i64 x.val, .int .i64 x.code] 33)).cell? ⟨wr.heap.size, 0, none⟩ = some (.int .i64 x.who) := by simp
                have d2 : (wr.alloc (.cells #[.int .i64 x.who, .int .i64 x.ring, .int .i64 x.deed, .int .i64 x.lo, .int .i64 x.seq, .int .i64 x.key, .int .i64 x.val, .int .i64 x.code] 33)).cell? ⟨wr.heap.size, 2, none⟩ = some (.int .i64 x.deed) := by simp
                have d7 : (wr.alloc (.cells #[.int .i64 x.who, .int .i64 x.ring, .int .i64 x.deed, .int .i64 x.lo, .int .i64 x.seq, .int .i64 x.key, .int .i64 x.val, .int .i64 x.code] 33)).cell? ⟨wr.heap.size, 7, none⟩ = some (.int .i64 x.code) := by simp
                clear hx hb hwf
                go_upto_region 23 with (fail)
                clear c0 c1 c2 c3 c4 c5 c6 c7
                generalize wr.alloc (.cells #[.int .i64 x.who, .int .i64 x.ring, .int .i64 x.deed, .int .i64 x.lo, .int .i64 x.seq, .int .i64 x.key, .int .i64 x.val, .int .i64 x.code] 33) = wa at *
                generalize codesN (l.take k) who = ss at *
                have hlk := HLK.out
                rcases Bool.eq_false_or_eq_true (x.who == who) with h1 | h1
                · rcases Bool.eq_false_or_eq_true (x.deed == 4) with h2 | h2
                  · have HQ := Lib.hid (HTT.out (by rw [HB0.out, h1, h2]; rfl))
                    go_wp2_with (at_builtin; refine wpList_append_own _ rfl _ _ 50 rfl w4.heap.size 31 i0 _ 1 8 Try.underlying50 hi hz0 hz1 hz2 rfl (by decide) u16 ss.length _ rfl (HA1.out.1.alloc _) ⟨wa.heap.size, 0, none⟩ 1 1 [.int .i64 x.code] rfl rfl (one_cellI _ _ _) (fun u hu => by simp at hu; subst hu; rfl) (by unfold maxLen; omega) (by omega) (by have := HA1.out.2.size; simp at this ⊢; omega) ?_; intro v' w6 hown hg hnil; have HO3 := Lib.hid hown; have HG := Lib.hid hg; clear hown hg hnil)
                    exact ⟨⟨k + 1, by omega, by go_num, Lib.hid ⟨by rw [HQ.out, List.length_append]; unfold flatI at *; rw [List.map_append]; exact HO3.out, Below.app HA1.out.2 HA1.out.2.size HA1.out.1 HG.out⟩⟩, by simp [intOf]; omega⟩
                  · have HQ := Lib.hid (HFF.out (by rw [HB0.out, h1, h2]; rfl))
                    go_wp2
                    exact ⟨⟨k + 1, by omega, by go_num, Lib.hid ⟨by rw [HQ.out]; exact HA1.out.1, HA1.out.2⟩⟩, by simp [intOf]; omega⟩
                · have HQ := Lib.hid (HFF.out (by rw [HB0.out, h1]; rfl))
                  go_wp2
                  exact ⟨⟨k + 1, by omega, by go_num, Lib.hid ⟨by rw [HQ.out]; exact HA1.out.1, HA1.out.2⟩⟩, by simp [intOf]; omega⟩
              · obtain rfl : k = l.length := by omega
                rw [List.take_length] at HJ
                have HCO := Lib.hid (IntsR.of_own HJ.out.1 (codesN_wf HL.out.wf who))
                have HLC : Hid ((codesN l who).length ≤ 1000) := Lib.hid (Nat.le_trans (codesN_len _ _) (by omega))
                obtain ⟨pc, cc, rfl, -⟩ := row_form HJ.out.1
                have HBW5 := Lib.hid (bthen HBW2.out HJ.out.2)
                have HCA := Lib.hid (tcalls (who := who) (HL.out.keep HBW5.out) (by omega))
                clear HJ HL4 HBW2 hlt
                go_wp2_with fail
                refine HCA.out.mono ?_
                rintro e w7 ⟨v7, rfl, hat7, hb7⟩
                obtain ⟨p7, c7, rfl, -⟩ := hat7.form
                have HX7 := Lib.hid hat7
                have HC7 := Lib.hid (HCO.out.keep hb7)
                have HB7 := Lib.hid (bthen HBW5.out hb7)
                clear HCA HCO HBW5 hat7 hb7
                generalize codesN l who = cs at *
                have hcs := HLC.out
                go_wp2_with fail
                go_loopw [121] (fun iv wl => ∃ k : Nat, k ≤ cs.length ∧ iv = .int .i64 k ∧ Hid (Below w7.heap.size w7 wl)) (fun iv _ => cs.length - (intOf iv).toNat)
                case atStart => exact ⟨0, Nat.zero_le _, rfl, Lib.hid (Below.refl _ _)⟩
                case round =>
                  obtain ⟨k, hk, rfl, HJ⟩ := hrel
                  by_cases hlt : k < cs.length
                  · obtain ⟨b, off, x, rfl, hx, hb, hwf, c0⟩ := (HX7.out.keep HJ.out).at_ hlt
                    obtain ⟨b', off', y, rfl, hy, hb', hwf', e0⟩ := (HC7.out.keep HJ.out).at_ hlt
                    obtain rfl : x = y := by rw [hx] at hy; simpa using hy
                    have HB8 := Lib.hid fun n => bdrewN HJ.out n
                    clear hx hy hb hb' hwf hwf'
                    go_upto_region 32 with (fail)
                    go_quiet (fail)
                    have HB9 := Lib.hid (HB8.out nq)
                    clear c0 e0
                    generalize wr.drewN nq = w9 at HB9 ⊢
                    go_wp2
                    exact ⟨⟨k + 1, by omega, by go_num, HB9⟩, by simp [intOf]; omega⟩
                  · obtain rfl : k = cs.length := by omega
                    have HB10 := Lib.hid (bthen HB7.out HJ.out)
                    have HCU := Lib.hid fun w (hw : Below W.heap.size W w) => tcursor (who := who) (ring := ring) (HL.out.keep hw) (by omega)
                    have HRI := Lib.hid fun w (hw : Below W.heap.size W w) => trising (who := who) (ring := ring) (from_ := from_) (HL.out.keep hw) (by omega) HFR.out
                    rw [HMQ.out] at HCU
                    rw [HHQ.out] at HRI
                    clear HJ HX7 HC7 HB7
                    generalize curP m = cu at *
                    generalize risP h from_ = ri at *
                    go_wp2_with (first
                      | (go_at_call 11; refine (awake22 _).mono ?_; rintro e wA ⟨rfl, hb⟩; have HBA := Lib.hid (bthen HB10.out hb); clear hb)
                      | (go_at_call 23; refine (HCU.out _ HBA.out).mono ?_; rintro e wB ⟨rfl, hb⟩; have HBB := Lib.hid (bthen HBA.out hb); clear hb)
                      | (go_at_call 24; refine (HRI.out _ HBB.out).mono ?_; rintro e wC ⟨rfl, hb⟩; have HBC := Lib.hid (bthen HBB.out hb); clear hb))
                    go_ret
                    exact ⟨by simp, HBC.out⟩
  · have HS : Hid (decide (l.length ≤ 120) = false) := Lib.hid (by simpa using h120)
    go_enter Try.func5, Try.ntmps5
    go_wp2_with (first
      | (go_at_call 10; refine (tsmall HL.out).mono ?_; rintro e w1 ⟨rfl, rfl⟩; rw [HS.out])
      | (go_at_call 11; refine (awake22 _).mono ?_; rintro e w2 ⟨rfl, hb⟩; have HB := Lib.hid hb; clear hb))
    go_ret
    exact ⟨rfl, HB.out⟩
end Go.Proofs.Ytnblkkmandlllaa
