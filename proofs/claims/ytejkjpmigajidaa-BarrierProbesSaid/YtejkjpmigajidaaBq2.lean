/-
  BarrierProbes: a probe tells of nothing till it is settled, then what a look tells. Condition: the input is read as data.
-/
import Derived.Test.YtejkjpmigajidaaBq1
namespace Go.Proofs.Ytejkjpmigajidaa
open Go.RowKit
set_option linter.unusedVariables false

/-- What holds between two steps. -/
def PrI (R : Rest) (w1 : World) (a bb qb : Nat) (xs ids : List Int) (cur alc : Nat) (sh : Sho) (q : Pr) (st al next : Int) (k : Nat) (m : Nat) (w : World) : Prop :=
  ∃ ts p, PrF ts (some ⟨bb, 0, none⟩) ids p ∧ Ends (yOf xs alc) (valsOf xs ids) (cOf xs cur) (sbOf xs sh) p q m ∧ (p.stg = 1 ∨ p.sign = al) ∧ p.next = next ∧ Mv (R.box w1.heap.size qb ts 134) w1 w a xs (st + k + k - m)
section
variable {W : World} {cu al sf next : Int} {n m ca cb : Nat} {pa ps : Option Addr} {z y : Nat → Int} {bf : Bool}
set_option maxHeartbeats 2000000 in
set_option maxRecDepth 100000 in
theorem probes_bad (ha : LongsAt W (.slice pa n ca) n z) (hs : ByteRow W (.slice ps m cb) m y) (hg : ¬ PlanOk cu al n m z) :
    Calls Try.prog 12 #[.agg #[.int .i64 cu, .slice pa n ca, .bool bf, .slice ps m cb, .int .i64 al, .int .u8 sf], .int .i64 next] W fun e w' => e = .returned (.bool true) ∧ Below W.heap.size W w' := by
  have HBG : Hid (∀ w1, Below W.heap.size W w1 → Calls Try.prog 74 #[.agg #[.int .i64 cu, .slice pa n ca, .bool bf, .slice ps m cb, .int .i64 al, .int .u8 sf]] w1 fun e w' => e = .returned (.tuple #[.pointer none, .pointer none, .slice none 0 0, .bool false]) ∧ Below w1.heap.size w1 w') := Lib.hid fun w1 hb => begun_bad (ha.keep hb) (hs.keep hb) hg
  have HB0 := Lib.hid (balloc (Below.refl _ W) (.cells #[.int .i64 cu, .slice pa n ca, .bool bf, .slice ps m cb, .int .i64 al, .int .u8 sf] 125))
  clear ha hs hg
  go_enter Try.func12, Try.ntmps12
  go_wp2_with (first
    | (go_at_call 74; refine (HBG.out _ HB0.out).mono ?_; rintro e w2 ⟨rfl, hb⟩; have HB2 := Lib.hid (bthen HB0.out hb); clear hb)
    | (go_at_call 75; refine (awake12 _).mono ?_; rintro e w3 ⟨rfl, hb⟩; have HB3 := Lib.hid (bthen HB2.out hb); clear hb))
  go_ret
  exact ⟨rfl, HB3.out⟩
set_option maxHeartbeats 2000000 in
set_option maxRecDepth 100000 in
theorem probes_far (ha : LongsAt W (.slice pa n ca) n z) (hs : ByteRow W (.slice ps m cb) m y) (hg : PlanOk cu al n m z) (hsf : 0 ≤ sf) (hn : next < 0 ∨ 1000 < next) :
    Calls Try.prog 12 #[.agg #[.int .i64 cu, .slice pa n ca, .bool bf, .slice ps m cb, .int .i64 al, .int .u8 sf], .int .i64 next] W fun e w' => e = .returned (.bool true) ∧ Below W.heap.size W w' := by
  have HBG : Hid (∀ w1, Below W.heap.size W w1 → Calls Try.prog 74 #[.agg #[.int .i64 cu, .slice pa n ca, .bool bf, .slice ps m cb, .int .i64 al, .int .u8 sf]] w1 fun e w' => ∃ a bb vl, e = .returned (.tuple #[.pointer (some ⟨a, 0, none⟩), .pointer (some ⟨bb, 0, none⟩), vl, .bool true]) ∧ Below w1.heap.size w1 w') := Lib.hid fun w1 hb => (begun_ok (ha.keep hb) (hs.keep hb) hg hsf).mono fun e w' ⟨R, a, bb, cs, xs, alc, sh, st, left, vl, h1, h2⟩ => ⟨a, bb, vl, h1, h2.mv.below⟩
  have HB0 := Lib.hid (balloc (Below.refl _ W) (.cells #[.int .i64 cu, .slice pa n ca, .bool bf, .slice ps m cb, .int .i64 al, .int .u8 sf] 125))
  clear ha hs hg hsf
  by_cases h1 : next < 0
  · have d1 : decide (next < 0) = true := decide_eq_true h1
    clear hn h1
    go_enter Try.func12, Try.ntmps12
    go_wp2_with (first
      | (go_at_call 74; refine (HBG.out _ HB0.out).mono ?_; rintro e w2 ⟨a, bb, vl, rfl, hb⟩; have HB2 := Lib.hid (bthen HB0.out hb); clear hb)
      | (go_at_call 75; refine (awake12 _).mono ?_; rintro e w3 ⟨rfl, hb⟩; have HB3 := Lib.hid (bthen HB2.out hb); clear hb))
    go_ret
    exact ⟨rfl, HB3.out⟩
  · have d1 : decide (next < 0) = false := decide_eq_false h1
    have d2 : decide (1000 < next) = true := decide_eq_true (by omega)
    clear hn h1
    go_enter Try.func12, Try.ntmps12
    go_wp2_with (first
      | (go_at_call 74; refine (HBG.out _ HB0.out).mono ?_; rintro e w2 ⟨a, bb, vl, rfl, hb⟩; have HB2 := Lib.hid (bthen HB0.out hb); clear hb)
      | (go_at_call 75; refine (awake12 _).mono ?_; rintro e w3 ⟨rfl, hb⟩; have HB3 := Lib.hid (bthen HB2.out hb); clear hb))
    go_ret
    exact ⟨rfl, HB3.out⟩
set_option maxHeartbeats 8000000 in
set_option maxRecDepth 100000 in
theorem probes_ok (ha : LongsAt W (.slice pa n ca) n z) (hs : ByteRow W (.slice ps m cb) m y) (hg : PlanOk cu al n m z) (hsf : 0 ≤ sf) (hn : 0 ≤ next ∧ next ≤ 1000) :
    Calls Try.prog 12 #[.agg #[.int .i64 cu, .slice pa n ca, .bool bf, .slice ps m cb, .int .i64 al, .int .u8 sf], .int .i64 next] W fun e w' => e = .returned (.bool true) ∧ Below W.heap.size W w' := by
  have HBG : Hid (∀ w1, Below W.heap.size W w1 → Calls Try.prog 74 #[.agg #[.int .i64 cu, .slice pa n ca, .bool bf, .slice ps m cb, .int .i64 al, .int .u8 sf]] w1 fun e w' => ∃ R a bb cs xs alc sh st left vl, e = .returned (.tuple #[.pointer (some ⟨a, 0, none⟩), .pointer (some ⟨bb, 0, none⟩), vl, .bool true]) ∧ BgF R w1 w' a bb cs xs alc sh st left vl cu al n z bf) := Lib.hid fun w1 hb => begun_ok (ha.keep hb) (hs.keep hb) hg hsf
  have HB0 := Lib.hid (balloc (Below.refl _ W) (.cells #[.int .i64 cu, .slice pa n ca, .bool bf, .slice ps m cb, .int .i64 al, .int .u8 sf] 125))
  have HG := Lib.hid hg
  have d1 : decide (next < 0) = false := decide_eq_false (by omega)
  have d2 : decide (1000 < next) = false := decide_eq_false (by omega)
  have HPC : Hid (∀ w i, Below (W.alloc (.cells #[.int .i64 cu, .slice pa n ca, .bool bf, .slice ps m cb, .int .i64 al, .int .u8 sf] 125)).heap.size (W.alloc (.cells #[.int .i64 cu, .slice pa n ca, .bool bf, .slice ps m cb, .int .i64 al, .int .u8 sf] 125)) w → w.cell? ⟨W.heap.size, i, none⟩ = (#[.int .i64 cu, .slice pa n ca, .bool bf, .slice ps m cb, .int .i64 al, .int .u8 sf] : Array Value)[i]?) := Lib.hid fun w i hb => plan_cells hb i
  clear ha hs hg hsf
  go_enter Try.func12, Try.ntmps12
  go_upto_region 1 with fail
  generalize W.alloc (.cells #[.int .i64 cu, .slice pa n ca, .bool bf, .slice ps m cb, .int .i64 al, .int .u8 sf] 125) = w1 at *
  have q0 : w1.cell? ⟨W.heap.size, 0, none⟩ = some (.int .i64 cu) := HPC.out w1 0 (Below.refl _ _)
  have q1 : w1.cell? ⟨W.heap.size, 1, none⟩ = some (.slice pa n ca) := HPC.out w1 1 (Below.refl _ _)
  have q2 : w1.cell? ⟨W.heap.size, 2, none⟩ = some (.bool bf) := HPC.out w1 2 (Below.refl _ _)
  have q3 : w1.cell? ⟨W.heap.size, 3, none⟩ = some (.slice ps m cb) := HPC.out w1 3 (Below.refl _ _)
  have q4 : w1.cell? ⟨W.heap.size, 4, none⟩ = some (.int .i64 al) := HPC.out w1 4 (Below.refl _ _)
  have q5 : w1.cell? ⟨W.heap.size, 5, none⟩ = some (.int .u8 sf) := HPC.out w1 5 (Below.refl _ _)
  go_upto_region 4 with (go_at_call 74; refine (HBG.out _ HB0.out).mono ?_; rintro e w2 ⟨R, a, bb, cs, xs, alc, sh, st, left, vl, rfl, hf⟩; have HF := Lib.hid hf; clear hf)
  clear q0 q1 q2 q3 q4 q5 d1 d2
  obtain ⟨q, k, hE, hqn, hqs, hqf, hqk, hf1, hf2, hk2⟩ := HF.out.ends HG.out hn
  have HE := Lib.hid hE
  have HK2 := Lib.hid hk2
  have HST := Lib.hid HF.out.st0
  have HAV : Hid (availP q.stg q.next q.found = q.found) := Lib.hid (by unfold availP; rw [if_pos hE.stg])
  have HAH : Hid (aheadP next = next - 1) := Lib.hid (by unfold aheadP; omega)
  have HQ0 : Hid (q.stg = 0) := Lib.hid hE.stg
  have HLK : Hid (Calls Try.prog 78 #[.pointer (some ⟨bb, 0, none⟩), .pointer (some ⟨a, 0, none⟩), .int .i64 next] w2 fun e w' => ∃ E, e = .returned (.tuple #[.int .i64 q.found, E]) ∧ Mv R w1 w' a xs (st + k)) := Lib.hid (by
    have hst := HF.out.st0
    by_cases h1 : al = 1
    · exact (plook_alert HF.out.bw HF.out.inb HF.out.mv (by omega) hE (hqs.trans h1) hqn (by omega) (by omega)).mono fun e w' ⟨E, h1, _, h2⟩ => ⟨E, h1, h2⟩
    · exact (plook_ok HF.out.bw HF.out.inb HF.out.mv (by omega) hE (by rw [hqs]; exact h1) hqn (by omega) (by omega)).mono fun e w' ⟨h1, h2⟩ => ⟨_, h1, h2⟩)
  have HQN := Lib.hid hqn
  clear hE hqs hqf hqk hk2 hqn
  generalize hfq : q.found = fq at *
  have HFQ := Lib.hid hfq
  clear hfq
  go_upto_region 6 with (first
    | (go_at_call 78; refine HLK.out.mono ?_; rintro e w3 ⟨E3, rfl, hm⟩; have H3 := Lib.hid hm; clear hm)
    | (go_at_call 79; refine (pprobe_some bb next (by omega) (idsB n) _).mono ?_; rintro e w4 ⟨ts0, rfl, hf, hb⟩; have HP0 := Lib.hid hf; have HI0 := Lib.hid (pb_info hf.f.size); have H4 := Lib.hid (H3.out.keep hb); clear hf hb)
    | (refine wpList_alloc_pb rfl rfl ?_; intro zs hz; have H5 := Lib.hid (H4.out.boxNew zs 134); generalize w4.alloc (.cells zs 134) = w5 at *; generalize w4.heap.size = qb at *)
    | (refine wpList_store_row rfl 134 (.tmp 11) (.tmp 48) rfl qb ts0 rfl rfl 134 _ H5.out.boxIs HI0.out (by rw [HP0.out.q.1]; exact hz) HP0.out.q.2 ?_; have H6 := Lib.hid (H5.out.boxRow ts0); generalize World.setRow _ qb ts0 = w6 at *))
  go_upto_region 8 with (first
    | (refine wpList_load_row rfl 134 (.tmp 11) rfl qb rfl 134 _ (0, 0) _ H6.out.boxIs Try.underlying134 rfl HI0.out ?_)
    | (go_at_call 80; refine (psign HP0.out.f.c3 _).mono ?_; rintro e w7 ⟨rfl, hb⟩; have H7 := Lib.hid (H6.out.keep hb); clear hb))
  have HPI : Hid (PrI R w1 a bb qb xs (idsB n) 0 alc sh q st al next k k w7) := Lib.hid ⟨ts0, pr0 next, HP0.out, HE.out, .inl rfl, rfl, by rw [show st + (k : Int) + k - k = st + k by omega]; exact H7.out⟩
  clear H3 H4 H5 H6 H7 HP0 HI0 HE HLK hz
  go_wp2_with fail
  go_loopw [12] (fun i wl => ∃ j : Nat, j ≤ k ∧ i = .int .i64 ((k : Int) - j) ∧ Hid (PrI R w1 a bb qb xs (idsB n) 0 alc sh q st al next k j wl)) (fun i _ => (k - intOf i).toNat)
  case atStart => exact ⟨k, Nat.le_refl _, by simp, HPI⟩
  case round =>
    clear HPI
    obtain ⟨j, hj, rfl, HJ⟩ := hrel
    obtain ⟨us, p, hpf, he, hps, hpn, hmv⟩ := HJ.out
    have HP := Lib.hid hpf
    have HPI := Lib.hid (pb_info hpf.f.size)
    have HM := Lib.hid hmv
    by_cases hs : p.stg = 0
    · as_aux_lemma =>
      have hb : (p.stg == 0) = true := by simpa using hs
      have HB := Lib.hid hb
      obtain ⟨e1, e2⟩ : p = q ∧ j = 0 := by
        cases he with
        | done _ => exact ⟨rfl, rfl⟩
        | step ok _ => exact absurd hs ok.ne
      subst e1 e2
      have HS0 : Hid (Step0C 83 w1 a xs (st + k + k) us) := Lib.hid (pstep0 (by have h := hpf.f; rw [hs] at h; exact h))
      have HM0 : Hid (Mv (R.box w1.heap.size qb us 134) w1 wr a xs (st + k + k)) := Lib.hid (by rw [show st + (k : Int) + k - ((0 : Nat) : Int) = st + k + k by omega] at hmv; exact hmv)
      clear hb hs he hps hpf hmv HJ HM hpn
      go_upto_region 20 with (first
        | (refine wpList_load_row rfl 134 (.tmp 11) rfl qb rfl 134 _ (0, 0) _ HM0.out.boxIs Try.underlying134 rfl HPI.out ?_)
        | (go_at_call 81; refine (pdone HP.out.f.c1 _).mono ?_; rintro e w2' ⟨rfl, hb⟩; rw [HB.out]; have HM1 := Lib.hid (HM0.out.keep hb); clear hb))
      go_upto_region 21 with (go_at_call 28; refine (steps_mv HM1.out).mono ?_; rintro e w3 ⟨rfl, rfl⟩)
      go_upto_region 22 with (first
        | (refine wpList_load_row rfl 134 (.tmp 11) rfl qb rfl 134 _ (0, 0) _ HM1.out.boxIs Try.underlying134 rfl HPI.out ?_)
        | (go_at_call 83; refine (HS0.out _ _ HM1.out).mono ?_; rintro e w4 ⟨rfl, hm⟩; have HM2 := Lib.hid hm; clear hm)
        | (refine wpList_alloc_pb rfl rfl ?_; intro zs hz; have HM3 := Lib.hid (HM2.out.boxNew zs 134); generalize w4.alloc (.cells zs 134) = w5 at *; generalize w4.heap.size = nb at *)
        | (refine wpList_store_row rfl 134 (.tmp 17) (.tmp 95) rfl nb us rfl rfl 134 _ HM3.out.boxIs HPI.out (by rw [HP.out.q.1]; exact hz) HP.out.q.2 ?_; have HM4 := Lib.hid (HM3.out.boxRow us); generalize World.setRow _ nb us = w6 at *))
      clear hz
      go_upto_region 23 with (first
        | (go_at_call 79; refine (pprobe_some bb next (by omega) (idsB n) _).mono ?_; rintro e w7 ⟨vs, rfl, hf, hb⟩; have HV := Lib.hid hf; have HVI := Lib.hid (pb_info hf.f.size); have HM5 := Lib.hid (HM4.out.keep hb); clear hf hb)
        | (go_at_call 83; refine (pstep_nil HV.out.f).mono ?_; rintro e w8 ⟨E8, rfl, he, hb⟩; have HEA := Lib.hid he; have HM6 := Lib.hid (HM5.out.keep hb); clear he hb)
        | (refine wpList_alloc_pb rfl rfl ?_; intro zs hz; have HM7 := Lib.hid (HM6.out.boxNew zs 134); have HEA2 := Lib.hid (HEA.out.keep (balloc (Below.refl _ w8) (.cells zs 134))); generalize w8.alloc (.cells zs 134) = w9 at *; generalize w8.heap.size = nc at *)
        | (refine wpList_store_row rfl 134 (.tmp 19) (.tmp 102) rfl nc vs rfl rfl 134 _ HM7.out.boxIs HVI.out (by rw [HV.out.q.1]; exact hz) HV.out.q.2 ?_; have HM8 := Lib.hid (HM7.out.boxRow vs); have HEA3 : Hid (ErrAt (World.setRow _ nc vs) E8 2) := Lib.hid (HEA2.out.row (cs' := vs) HM7.out.boxIs (by decide)); generalize World.setRow _ nc vs = wA at *))
      clear hz
      go_wp2_with (first
        | (go_at_call 75; refine (awake12 _).mono ?_; rintro e wB ⟨rfl, hb⟩; have HM9 := Lib.hid (HM8.out.keep hb); have HEB := Lib.hid (HEA3.out.keep hb); clear hb)
        | (refine wpList_load_row_g (by first | rfl | kernel_rfl) 134 (.tmp 11) rfl qb rfl 134 us (0, 0) _ HM9.out.inv.1.1.2.1 Try.underlying134 rfl HPI.out ?_)
        | (go_at_call 82; refine (pavail HP.out.f (by rw [HQN.out]; omega) _).mono ?_; rintro e wC ⟨rfl, hb⟩; rw [HFQ.out, HAV.out]; replace HM9 := Lib.hid (HM9.out.keep hb); replace HEB := Lib.hid (HEB.out.keep hb); clear hb)
        | (refine wpList_load_row_g (by first | rfl | kernel_rfl) 134 (.tmp 17) rfl nb rfl 134 us (0, 0) _ HM9.out.inv.1.2.1 Try.underlying134 rfl HPI.out ?_)
        | (go_at_call 81; refine (pdone HP.out.f.c1 _).mono ?_; rintro e wD ⟨rfl, hb⟩; rw [HB.out]; replace HM9 := Lib.hid (HM9.out.keep hb); replace HEB := Lib.hid (HEB.out.keep hb); clear hb)
        | (go_at_call 28; refine (steps_mv HM9.out).mono ?_; rintro e wE ⟨rfl, rfl⟩)
        | (go_at_call 17; refine (is_at HEB.out 2).mono ?_; rintro e wF ⟨rfl, rfl⟩))
      go_ret
      exact ⟨rfl, bthen HB0.out HM9.out.below⟩
    · as_aux_lemma =>
      have hb : (p.stg == 0) = false := by simpa using hs
      have HB := Lib.hid hb
      obtain ⟨j', e1, hok, he'⟩ : ∃ j', j = j' + 1 ∧ POk (valsOf xs (idsB n)) (sbOf xs sh) p ∧ Ends (yOf xs alc) (valsOf xs (idsB n)) (cOf xs 0) (sbOf xs sh) (stepB xs 0 alc sh (idsB n) p) q j' := by
        cases he with
        | done h => exact absurd h hs
        | step ok e => exact ⟨_, rfl, ok, e⟩
      subst e1
      have HE := Lib.hid he'
      have HA1 : Hid (availP p.stg p.next p.found = next - 1) := Lib.hid (by unfold availP; rw [if_neg hs, hpn]; exact HAH.out)
      have HPN := Lib.hid hpn
      have hst := HST.out
      have hk2 := HK2.out
      have HNX : Hid ((stepB xs 0 alc sh (idsB n) p).next = next) := Lib.hid (stepP_next.trans hpn)
      have HSG : Hid ((stepB xs 0 alc sh (idsB n) p).sign = al) := Lib.hid ((stepP_sign (y := yOf xs alc) (hps.imp id fun h => h.trans HF.out.al.symm)).trans HF.out.al)
      have HC : Hid (StepC 83 R w1 a xs (st + k + k - ((j' + 1 : Nat) : Int)) us (fun ts' => PrF ts' (some ⟨bb, 0, none⟩) (idsB n) (stepB xs 0 alc sh (idsB n) p))) := Lib.hid (pstep_any HP.out HF.out.bw HF.out.inb hok (by omega) (by omega))
      have e2 : decide (2000 < (k : Int) - ((j' + 1 : Nat) : Int)) = false := decide_eq_false (by omega)
      have e3 : decide (2000 < (k : Int) - ((j' : Int) + 1)) = false := decide_eq_false (by omega)
      have hTb : 0 ≤ st + (k : Int) + k - ((j' + 1 : Nat) : Int) ∧ st + (k : Int) + k - ((j' + 1 : Nat) : Int) ≤ 100000 := by omega
      obtain ⟨hT1, hT2⟩ := hTb
      clear hb hs he he' hok hps hpf hmv HJ hst hk2 hpn
      generalize hT : st + (k : Int) + k - ((j' + 1 : Nat) : Int) = T at *
      have HTT := Lib.hid hT
      clear hT
      go_upto_region 18 with (first
        | (refine wpList_load_row rfl 134 (.tmp 11) rfl qb rfl 134 _ (0, 0) _ HM.out.boxIs Try.underlying134 rfl HPI.out ?_)
        | (go_at_call 81; refine (pdone HP.out.f.c1 _).mono ?_; rintro e wD ⟨rfl, hb⟩; rw [HB.out]; replace HM := Lib.hid (HM.out.keep hb); clear hb)
        | (go_at_call 82; refine (pavail HP.out.f (by rw [HPN.out]; omega) _).mono ?_; rintro e wC ⟨rfl, hb⟩; rw [HA1.out]; replace HM := Lib.hid (HM.out.keep hb); clear hb)
        | (go_at_call 83; refine (HC.out (R.box w1.heap.size qb us 134) (fun w h => h.1) _ HM.out).mono ?_; rintro e w4 ⟨vs, rfl, hq, hm⟩; have HV := Lib.hid hq; have HVI := Lib.hid (pb_info hq.f.size); have H4 := Lib.hid hm; clear hq hm)
        | (refine wpList_alloc_pb rfl rfl ?_; intro zs hz; have H5 := Lib.hid (H4.out.boxNew zs 134); generalize w4.alloc (.cells zs 134) = w5 at *; generalize w4.heap.size = nb at *)
        | (refine wpList_store_row rfl 134 (.tmp 14) (.tmp 72) rfl nb vs rfl rfl 134 _ H5.out.boxIs HVI.out (by rw [HV.out.q.1]; exact hz) HV.out.q.2 ?_; have H6 := Lib.hid (H5.out.boxRow vs); generalize World.setRow _ nb vs = w6 at *)
        | (go_at_call_of 28 (Value.pointer (some ⟨a, 0, none⟩)); first | (refine (steps_mv H6.out).mono ?_; rintro e wS ⟨rfl, rfl⟩) | (refine (steps_mv HM.out).mono ?_; rintro e wS ⟨rfl, rfl⟩))
        | (refine wpList_load_row rfl 134 (.tmp 14) rfl nb rfl 134 _ (0, 0) _ H6.out.boxIs Try.underlying134 rfl HVI.out ?_)
        | (refine wpList_store_row rfl 134 (.tmp 11) (.tmp 83) rfl qb vs rfl rfl 134 _ H6.out.inv.1.2.1 HVI.out (by rw [HV.out.q.1]; exact HP.out.q.1) HV.out.q.2 ?_; have H7 := Lib.hid ((((H6.out.le Rest.bb).boxRow vs).le Rest.bb).boxDrop); generalize World.setRow _ qb vs = w7 at *))
      have HLA : Hid (∀ w', (∃ x : Later w7, w' = x.to) → w'.heap[qb]? = some (.cells vs 134 (0, 0))) := by
        rintro _ ⟨x, rfl⟩
        exact (H7.out.keep x.below).boxIs
      have n4 : ∀ x : Later w7, x.to.cell? ⟨W.heap.size, 4, none⟩ = some (.int .i64 al) := fun x => HPC.out _ 4 (H7.out.keep x.below).below
      have HSI : Hid (∀ x : Later w7, Calls Try.prog 80 #[.agg vs] x.to fun e w'' => e = .returned (.int .i64 al) ∧ ∃ y : Later w7, w'' = y.to) := fun x => (psign (by rw [← HSG.out]; exact HV.out.f.c3) _).mono fun e w h => ⟨h.1, ⟨w, bthen x.below h.2⟩, rfl⟩
      clear HM H4 H5 H6 hz e2 e3
      try simp only [Act.put, List.setIfInBounds_toArray, List.set_cons_zero, List.set_cons_succ]
      refine wp_region_later (by kernel_rfl) (by kernel_rfl) ?_
      repeat (first
        | (go_big_quiet_want; refine quiet_load_row 134 (.tmp 11) rfl qb rfl 134 vs (0, 0) _ HLA.out Try.underlying134 rfl HVI.out ?_; go_big_quiet_on; go_frame)
        | go_big_quiet_step ((go_at_call 80; exact HSI.out _)))
      refine wpQuiet_nil ?_
      intro w8 hw'
      obtain ⟨⟨w8', hb8⟩, hw8⟩ := hw'
      obtain rfl : w8 = w8' := hw8
      have HJ2 : Hid (PrI R w1 a bb qb xs (idsB n) 0 alc sh q st al next k j' w8) := Lib.hid ⟨vs, _, HV.out, HE.out, .inr HSG.out, HNX.out, by have h := H7.out.keep hb8; rw [← HTT.out, show st + (k : Int) + k - ((j' + 1 : Nat) : Int) + 1 = st + k + k - j' by omega] at h; exact h⟩
      clear hb8 n4 hT1 hT2
      have hk3 : (k : Int) ≤ 2000 := by have := HK2.out; omega
      have hj3 : (j' : Int) + 1 ≤ k := by omega
      go_wp2_with fail
      refine ⟨⟨_, _, _, _, _, _, _, _, _, _, _, _, _, _, _, _, _, _, _, _, _, _, _, _, _, _, _, _, _, _, _, _, _, _, _, _, _, _, _, _, _, _, ⟨j', by omega, ?e, HJ2⟩, rfl⟩, ?m⟩
      case e => go_num
      case m => simp [intOf]; omega
end
end Go.Proofs.Ytejkjpmigajidaa
