/-
  Claim of package multi, where its number may be, by contract. Conditions: the arena has the sequencer's cells and those of who holds it back; fewer than 2^60 steps.
-/
import Derived.Test.YteinfkcnengmeaaMe
namespace Go.Proofs.Yteinfkcnengmeaa
open Go.RowKit

def farN (m : Nat) (stg : Int) (seen : Nat) : Nat := if stg = 1 then m + 5 else if stg = 2 then m + 4 else if stg = 3 then m - seen + 3 else if stg = 4 then 2 else if stg = 5 then 1 else 0
/-- How far the claim in a block is from its end. -/
def farW (m b : Nat) (w : World) : Nat := farN m (intOf ((w.cell? ⟨b, 2, none⟩).getD undef)) (intOf ((w.cell? ⟨b, 38, none⟩).getD undef)).toNat
theorem farW_is {m b : Nat} {w : World} {ts : Array Value} {p : Nat} {t : Tr} (hb : Blk w b ts 116) (h : TyF ts p t) : farW m b w = farT m t := by
  have h2 := (obj_cell hb 2).trans h.c2
  have h38 : w.cell? ⟨b, 38, none⟩ = some (.int .i64 t.seen) := by
    rw [obj_cell hb 38]
    have := h.sc.seen
    have hs := h.size
    rw [Array.getElem?_extract] at this
    simpa [hs] using this
  unfold farW
  rw [h2, h38]
  rfl

/-- Where the loop stands. -/
def ClI (R : Rest) (W0 : World) (s : Sh) (c sn : Int) (sh gv : List Int) (n sw st : Int) (b : Nat) (w : World) : Prop :=
  ∃ ts t xs sw' st', TyF ts s.p t ∧ CI (two s.k) c sn sh gv n sw xs sw' t ∧ M1 R W0 w s (idsN sh.length gv.length) sw' xs st' b ts ∧ st ≤ st' ∧ st' + farT gv.length t ≤ st + gv.length + 5

/-- What a claim leaves: its last index, or that it is full. -/
def Claimed (R : Rest) (W0 : World) (s : Sh) (c sn : Int) (sh gv : List Int) (n sw st : Int) (e : Ending) (w : World) : Prop :=
  (okP (two s.k) c sn n gv ∧ e = .returned (.tuple #[.int .i64 (c + n), .nilIface]) ∧ ∃ st', st ≤ st' ∧ st' ≤ st + 40 ∧ Lv R W0 w s (c + n) (snP (two s.k) c sn n gv) sh gv (c + n) st') ∨
  (¬ okP (two s.k) c sn n gv ∧ ∃ q, e = .returned (.tuple #[.int .i64 0, .iface 164 (.pointer (some ⟨q, 0, none⟩))]) ∧ Chain w (.iface 164 (.pointer (some ⟨q, 0, none⟩))) 1 10 ∧ ∃ st', st ≤ st' ∧ st' ≤ st + 40 ∧ Lv R W0 w s c sn sh gv sw st')

set_option maxHeartbeats 2000000 in
set_option maxRecDepth 100000 in
theorem mclaim_run {R : Rest} {W0 W : World} {s : Sh} {c sn sw st : Int} {sh gv : List Int} (h : Lv R W0 W s c sn sh gv sw st) (hc2 : c ≤ 2305843009213693952) (n : Int) (hn1 : 1 ≤ n) (hn2 : n ≤ two s.k) (h0 : 0 ≤ st) (h1 : st < 1152921504606846976) :
    Calls Try.prog 100 #[.pointer (some ⟨s.p, 0, none⟩), .int .i64 n] W fun e w' => Claimed R W0 s c sn sh gv n sw st e w' := by
  have hk := h.ms.k20
  have hn3 : n ≤ 1048576 := by have := two_le hk; omega
  have hg := h.g32
  have HCI := Lib.hid (CI.start (N := two s.k) (sn := sn) (sh := sh) (gv := gv) sw h.c1 hn1)
  have HL := Lib.hid h
  have HM := Lib.hid h.ms
  have hc1 := h.c1
  have HMT := Lib.hid (mtry_ok h.ms.c hk n hn1 hn2)
  clear h
  go_enter Try.func100, Try.ntmps100
  go_wp2_with (first
    | (go_at_call 66; refine HMT.out.mono ?_; rintro e w1 ⟨ts, rfl, hf, hb⟩; have HF := Lib.hid hf; have HFI := Lib.hid hf.info; have H1 := Lib.hid (HM.out.keep hb); clear hf hb)
    | (refine wpList_alloc_try rfl rfl ?_; intro zs hz; have H2 := Lib.hid (M1.start H1.out zs); generalize w1.heap.size = nb at *; generalize w1.alloc (.cells zs 116) = w2 at *)
    | (refine wpList_store_row rfl 116 (.tmp 6) (.tmp 12) rfl nb _ rfl rfl 116 _ H2.out.t HFI.out (by rw [HF.out.size]; exact hz) HF.out.one ?_; have H3 := Lib.hid (H2.out.store ts); generalize w2.setRow nb ts = w3 at *))
  have HI : Hid (ClI R W0 s c sn sh gv n sw st nb w3) := Lib.hid ⟨ts, _, _, _, _, HF.out, HCI.out, H3.out, by omega, by simp [farT, tr0]; omega⟩
  clear H1 H2 H3 HF HFI HMT HCI hz
  go_loopw [7] (fun e wl => e = .nilIface ∧ Hid (ClI R W0 s c sn sh gv n sw st nb wl)) (fun _ wl => farW gv.length nb wl)
  case atStart => exact ⟨rfl, HI⟩
  case round =>
    obtain ⟨rfl, HJ⟩ := hrel
    obtain ⟨ts1, t, xs, sw', st', hf, hci, hm1, g1, g2⟩ := HJ.out
    have HF := Lib.hid hf
    have HFI := Lib.hid hf.info
    have HC := Lib.hid hci
    have H1 := Lib.hid hm1
    have HFW := Lib.hid (farW_is (m := gv.length) hm1.t hf)
    clear HJ hf hci hm1
    by_cases hs : t.stg = 6 ∨ t.stg = 7
    · by_cases h7 : t.stg = 7
      · have hb : (t.stg == 0 || t.stg == 6 || t.stg == 7) = true := by rw [h7]; rfl
        have hb7 : (t.stg == 7) = true := by rw [h7]; rfl
        have HB := Lib.hid hb
        have HB7 := Lib.hid hb7
        have c4 := (obj_cell H1.out.t 4).trans HF.out.c4
        have HE : Hid (xs = mk c sn sh gv ∧ sw' = sw ∧ ¬ okP (two s.k) c sn n gv) := Lib.hid (by
          obtain ⟨_, _, _, k | k | k | k | k | k | k⟩ := HC.out <;> first | exact ⟨k.2.1, k.2.2.1, k.2.2.2⟩ | (have := k.1; omega))
        have g3 : st' ≤ st + 40 := by omega
        clear hb hb7 h7 hs
        go_wp2_with (first
          | (refine wpList_load_row_g rfl 116 (.tmp 6) rfl nb rfl 116 _ (0, 0) _ H1.out.t Try.underlying116 rfl HFI.out ?_)
          | (go_at_call 67; refine (tdone HF.out.c2 _).mono ?_; rintro e w4 ⟨rfl, hb4⟩; rw [HB.out]; have H4 := Lib.hid (H1.out.keep hb4); clear hb4)
          | (refine wpList_load_row rfl 116 (.tmp 6) rfl nb rfl 116 _ (0, 0) _ H4.out.t Try.underlying116 rfl HFI.out ?_)
          | (go_at_call 71; refine (tfull HF.out.c2 _).mono ?_; rintro e w5 ⟨rfl, hb5⟩; rw [HB7.out]; have H5 := Lib.hid (H4.out.keep hb5); have c4 := (obj_cell H5.out.t 4).trans HF.out.c4; clear hb5)
          | (go_at_call 77; refine (wrap_q _ _ _).mono ?_; rintro e w6 ⟨q, rfl, hr⟩; have H6 := Lib.hid (H5.out.keep hr.below); have HR := Lib.hid hr; clear hr))
        go_ret2
        refine .inr ⟨HE.out.2.2, q, rfl, ?_, st', g1, g3, ?_⟩
        · obtain ⟨q2, hq2, hch, _⟩ := HR.out
          cases hq2
          exact hch
        · obtain ⟨rfl, rfl, _⟩ := HE.out
          exact ⟨H6.out.done, HL.out.n, HL.out.cur, HL.out.cch, HL.out.f, HL.out.c1, HL.out.swc⟩
      · have h6 : t.stg = 6 := by omega
        have hb : (t.stg == 0 || t.stg == 6 || t.stg == 7) = true := by rw [h6]; rfl
        have hb7 : (t.stg == 7) = false := by rw [h6]; rfl
        have HB := Lib.hid hb
        have HB7 := Lib.hid hb7
        have HE : Hid (xs = mk (c + n) (snP (two s.k) c sn n gv) sh gv ∧ sw' = c + n ∧ t.last = c + n ∧ okP (two s.k) c sn n gv) := Lib.hid (by
          obtain ⟨_, _, _, k | k | k | k | k | k | k⟩ := HC.out <;> first | exact ⟨k.2.1, k.2.2.1, k.2.2.2.1, k.2.2.2.2⟩ | (have := k.1; omega))
        have c4 := ((obj_cell H1.out.t 4).trans HF.out.c4).trans (by rw [HE.out.2.2.1])
        have g3 : st' ≤ st + 40 := by omega
        clear hb hb7 h7 hs h6
        go_wp2_with (first
          | (refine wpList_load_row_g rfl 116 (.tmp 6) rfl nb rfl 116 _ (0, 0) _ H1.out.t Try.underlying116 rfl HFI.out ?_)
          | (go_at_call 67; refine (tdone HF.out.c2 _).mono ?_; rintro e w4 ⟨rfl, hb4⟩; rw [HB.out]; have H4 := Lib.hid (H1.out.keep hb4); clear hb4)
          | (refine wpList_load_row rfl 116 (.tmp 6) rfl nb rfl 116 _ (0, 0) _ H4.out.t Try.underlying116 rfl HFI.out ?_)
          | (go_at_call 71; refine (tfull HF.out.c2 _).mono ?_; rintro e w5 ⟨rfl, hb5⟩; rw [HB7.out]; have H5 := Lib.hid (H4.out.keep hb5); have c4 := ((obj_cell H5.out.t 4).trans HF.out.c4).trans (by rw [HE.out.2.2.1]); clear hb5))
        go_ret2
        refine .inl ⟨HE.out.2.2.2, rfl, st', g1, g3, ?_⟩
        obtain ⟨rfl, rfl, _⟩ := HE.out
        exact ⟨H5.out.done, HL.out.n, HL.out.cur, HL.out.cch, HL.out.f, by omega, Int.le_refl _⟩
    · have hb : (t.stg == 0 || t.stg == 6 || t.stg == 7) = false := by
        have := (HC.out.ok hc1 hc2 hn1 hn3 hg hs).s1
        simp only [Bool.or_eq_false_iff, beq_eq_false_iff_ne]
        omega
      have HB := Lib.hid hb
      have HSTEP := Lib.hid (HC.out.step hc1 hn1)
      have HFAR := Lib.hid (HC.out.far hs)
      have HOK := Lib.hid (HC.out.ok hc1 hc2 hn1 hn3 hg hs)
      have g5 : 0 ≤ st' := by omega
      have g6 : st' < 4611686018427387904 := by omega
      clear hb hs
      go_wp2_with (first
        | (refine wpList_load_row_g rfl 116 (.tmp 6) rfl nb rfl 116 _ (0, 0) _ H1.out.t Try.underlying116 rfl HFI.out ?_)
        | (go_at_call 67; refine (tdone HF.out.c2 _).mono ?_; rintro e w4 ⟨rfl, hb4⟩; rw [HB.out]; have H4 := Lib.hid (H1.out.keep hb4); clear hb4)
        | (refine wpList_load_row rfl 116 (.tmp 6) rfl nb rfl 116 _ (0, 0) _ H4.out.t Try.underlying116 rfl HFI.out ?_)
        | (go_at_call 69; refine (tstep_any HF.out H4.out.ms HOK.out HL.out.cur HL.out.cch g5 g6).mono ?_; rintro e w5 ⟨st2, a1, a2, ts2, rfl, hf2, hm2⟩; have H5 := Lib.hid (M1.mk hm2 H4.out.low H4.out.np); have HF2 := Lib.hid hf2; have HFI2 := Lib.hid hf2.info; clear hm2 hf2)
        | (refine wpList_store_row rfl 116 (.tmp 6) (.tmp 24) rfl nb _ rfl rfl 116 _ H5.out.t HFI2.out (by rw [HF2.out.size, HF.out.size]) HF2.out.one ?_; have H6 := Lib.hid (H5.out.store ts2); generalize w5.setRow nb ts2 = w6 at *))
      have HFW2 := farW_is (m := gv.length) H6.out.t HF2.out
      refine ⟨⟨rfl, Lib.hid ⟨ts2, _, _, _, st2, HF2.out, HSTEP.out, H6.out, by omega, ?_⟩⟩, ?_⟩
      · have := HFAR.out
        omega
      · rw [HFW2, HFW.out]
        exact HFAR.out
end Go.Proofs.Yteinfkcnengmeaa
