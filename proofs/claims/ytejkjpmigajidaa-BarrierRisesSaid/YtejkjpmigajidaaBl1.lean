/-
  BarrierLooks: what a plan's look tells. Condition: the input is read as data.
  BarrierLooks: what a plan's look tells. Condition: the input is read as data.
-/
import Derived.Test.YtejkjpmigajidaaBg1
namespace Go.Proofs.Ytejkjpmigajidaa
open Go.RowKit
set_option linter.unusedVariables false

theorem LongsAt.keep {W w : World} {v : Value} {n : Nat} {z : Nat → Int} (h : LongsAt W v n z) (hb : Below W.heap.size W w) : LongsAt w v n z := by
  obtain ⟨p, c, rfl, hm, h⟩ := h
  refine ⟨p, c, rfl, hm, h.imp id ?_⟩
  rintro ⟨b, off, rfl, hc⟩
  exact ⟨b, off, rfl, fun j hj => ⟨keepc hb (hc j hj).1, (hc j hj).2⟩⟩
theorem ByteRow.keep {W w : World} {v : Value} {n : Nat} {z : Nat → Int} (h : ByteRow W v n z) (hb : Below W.heap.size W w) : ByteRow w v n z := by
  obtain ⟨p, c, rfl, hm, h⟩ := h
  refine ⟨p, c, rfl, hm, h.imp id ?_⟩
  rintro ⟨b, off, rfl, hc⟩
  exact ⟨b, off, rfl, fun j hj => ⟨keepc hb (hc j hj).1, (hc j hj).2⟩⟩
theorem LongsAt.lng {W : World} {p : Option Addr} {n c : Nat} {z : Nat → Int} (h : LongsAt W (.slice p n c) n z) : LngAt W (.slice p n c) (zsB z n) := by
  obtain ⟨p', c', he, hm, h⟩ := h
  cases he
  refine ⟨p, c, by rw [zsB_len], ?_⟩
  rw [zsB_len]
  refine h.imp id ?_
  rintro ⟨b, off, rfl, hc⟩
  exact ⟨b, off, rfl, fun j hj => by rw [(hc j hj).1, List.getD_eq_getElem?_getD, zsB_at z hj]; rfl⟩
theorem steps_mv {R : Rest} {W0 W : World} {b : Nat} {xs : List Int} {st : Int} (h : Mv R W0 W b xs st) :
    Calls Try.prog 28 #[.pointer (some ⟨b, 0, none⟩)] W fun e w' => e = .returned (.int .i64 st) ∧ W = w' := by
  obtain ⟨v, ha, _⟩ := h
  exact steps_some W b v xs st ha
section
variable {R : Rest} {W w : World} {a bb alc n : Nat} {cs : Array Value} {xs left : List Int} {sh : Sho} {st cu al next : Int} {vl : Value} {z : Nat → Int} {bf : Bool}
/-- What a look comes to, whatever the alert has. -/
theorem BgF.endsY (h : BgF R W w a bb cs xs alc sh st left vl cu al n z bf) {m : Nat} (hg : PlanOk cu al n m z) (hn : 0 ≤ next ∧ next ≤ 1000) (y : Int) :
    ∃ q k, Ends y (valsOf xs (idsB n)) (cOf xs 0) (sbOf xs sh) (pr0 next) q k ∧ q.next = next ∧ q.sign = y ∧ (q.found = if y = 1 then next - 1 else lookP next cu (zsB z n) bf left) ∧ ((k : Int) = if y = 1 then 1 else stepsP next cu n bf (lookP next cu (zsB z n) bf left)) ∧ -1 ≤ q.found ∧ q.found ≤ 1000 ∧ k ≤ 2000 := by
  have hv := vals_pre h.pre
  have hc : cOf xs 0 = cu := by
    have := h.pre 0 (by omega)
    unfold cOf
    simp [List.getD_eq_getElem?_getD, this]
  have hs : (sbOf xs sh).isSome = bf := by rw [← h.isb]; unfold sbOf; cases sh <;> rfl
  have := ends_look (y := y) (vs := valsOf xs (idsB n)) (c := cOf xs 0) (next := next) (sb := sbOf xs sh) (sh := left) hn (by rw [hc]; exact hg.cu) (by
    rw [hv]
    intro x hx
    unfold zsB at hx
    rw [List.mem_map] at hx
    obtain ⟨i, hi, rfl⟩ := hx
    rw [List.mem_range] at hi
    exact hg.z i hi) (by rw [vals_len, idsB_len]; exact hg.n8) (fun f hf s h0 _ => h.sf f hf s h0)
  rw [hs, hc, hv, zsB_len] at this
  rw [hc, hv]
  exact this
theorem BgF.ends (h : BgF R W w a bb cs xs alc sh st left vl cu al n z bf) {m : Nat} (hg : PlanOk cu al n m z) (hn : 0 ≤ next ∧ next ≤ 1000) :
    ∃ q k, Ends (yOf xs alc) (valsOf xs (idsB n)) (cOf xs 0) (sbOf xs sh) (pr0 next) q k ∧ q.next = next ∧ q.sign = al ∧ (q.found = if al = 1 then next - 1 else lookP next cu (zsB z n) bf left) ∧ ((k : Int) = if al = 1 then 1 else stepsP next cu n bf (lookP next cu (zsB z n) bf left)) ∧ -1 ≤ q.found ∧ q.found ≤ 1000 ∧ k ≤ 2000 := by
  rw [h.al]
  exact h.endsY hg hn al
theorem BgF.lookIn (h : BgF R W w a bb cs xs alc sh st left vl cu al n z bf) {m : Nat} (hg : PlanOk cu al n m z) (hn : 0 ≤ next ∧ next ≤ 1000) : -1 ≤ lookP next cu (zsB z n) bf left ∧ lookP next cu (zsB z n) bf left ≤ 1000 := by
  obtain ⟨q, k, _, _, _, h1, _, h2, h3, _⟩ := h.endsY hg hn 0
  rw [if_neg (by decide)] at h1
  rw [← h1]
  exact ⟨h2, h3⟩
end
section
variable {W : World} {cu al sf : Int} {n m ca cb : Nat} {pa ps : Option Addr} {z y : Nat → Int} {bf : Bool}
/-- A plan's beginning. -/
theorem begun_ok (ha : LongsAt W (.slice pa n ca) n z) (hs : ByteRow W (.slice ps m cb) m y) (hg : PlanOk cu al n m z) (hsf : 0 ≤ sf) :
    Calls Try.prog 74 #[.agg #[.int .i64 cu, .slice pa n ca, .bool bf, .slice ps m cb, .int .i64 al, .int .u8 sf]] W fun e w' => ∃ R a bb cs xs alc sh st left vl, e = .returned (.tuple #[.pointer (some ⟨a, 0, none⟩), .pointer (some ⟨bb, 0, none⟩), vl, .bool true]) ∧ BgF R W w' a bb cs xs alc sh st left vl cu al n z bf := by
  cases bf with
  | false => exact begun_no ha hs hg
  | true =>
    obtain ⟨k, hk⟩ : ∃ k : Nat, sf % 7 = k := ⟨(sf % 7).toNat, by omega⟩
    exact begun_yes ha hs hg hsf k hk (by omega)
end
end Go.Proofs.Ytejkjpmigajidaa
namespace Go.Proofs.Ytejkjpmigajidaa
open Go.RowKit
set_option linter.unusedVariables false

section
variable {W : World} {cu al sf next : Int} {n m ca cb : Nat} {pa ps : Option Addr} {z y : Nat → Int} {bf : Bool}
set_option maxHeartbeats 2000000 in
set_option maxRecDepth 100000 in
theorem looks_bad (ha : LongsAt W (.slice pa n ca) n z) (hs : ByteRow W (.slice ps m cb) m y) (hg : ¬ PlanOk cu al n m z) :
    Calls Try.prog 11 #[.agg #[.int .i64 cu, .slice pa n ca, .bool bf, .slice ps m cb, .int .i64 al, .int .u8 sf], .int .i64 next] W fun e w' => e = .returned (.bool true) ∧ Below W.heap.size W w' := by
  have HBG : Hid (∀ w1, Below W.heap.size W w1 → Calls Try.prog 74 #[.agg #[.int .i64 cu, .slice pa n ca, .bool bf, .slice ps m cb, .int .i64 al, .int .u8 sf]] w1 fun e w' => e = .returned (.tuple #[.pointer none, .pointer none, .slice none 0 0, .bool false]) ∧ Below w1.heap.size w1 w') := Lib.hid fun w1 hb => begun_bad (ha.keep hb) (hs.keep hb) hg
  have HB0 := Lib.hid (balloc (Below.refl _ W) (.cells #[.int .i64 cu, .slice pa n ca, .bool bf, .slice ps m cb, .int .i64 al, .int .u8 sf] 125))
  clear ha hs hg
  go_enter Try.func11, Try.ntmps11
  go_wp2_with (first
    | (go_at_call 74; refine (HBG.out _ HB0.out).mono ?_; rintro e w2 ⟨rfl, hb⟩; have HB2 := Lib.hid (bthen HB0.out hb); clear hb)
    | (go_at_call 75; refine (awake12 _).mono ?_; rintro e w3 ⟨rfl, hb⟩; have HB3 := Lib.hid (bthen HB2.out hb); clear hb))
  go_ret
  exact ⟨rfl, HB3.out⟩
set_option maxHeartbeats 2000000 in
set_option maxRecDepth 100000 in
theorem looks_far (ha : LongsAt W (.slice pa n ca) n z) (hs : ByteRow W (.slice ps m cb) m y) (hg : PlanOk cu al n m z) (hsf : 0 ≤ sf) (hn : next < 0 ∨ 1000 < next) :
    Calls Try.prog 11 #[.agg #[.int .i64 cu, .slice pa n ca, .bool bf, .slice ps m cb, .int .i64 al, .int .u8 sf], .int .i64 next] W fun e w' => e = .returned (.bool true) ∧ Below W.heap.size W w' := by
  have HBG : Hid (∀ w1, Below W.heap.size W w1 → Calls Try.prog 74 #[.agg #[.int .i64 cu, .slice pa n ca, .bool bf, .slice ps m cb, .int .i64 al, .int .u8 sf]] w1 fun e w' => ∃ a bb vl, e = .returned (.tuple #[.pointer (some ⟨a, 0, none⟩), .pointer (some ⟨bb, 0, none⟩), vl, .bool true]) ∧ Below w1.heap.size w1 w') := Lib.hid fun w1 hb => (begun_ok (ha.keep hb) (hs.keep hb) hg hsf).mono fun e w' ⟨R, a, bb, cs, xs, alc, sh, st, left, vl, h1, h2⟩ => ⟨a, bb, vl, h1, h2.mv.below⟩
  have HB0 := Lib.hid (balloc (Below.refl _ W) (.cells #[.int .i64 cu, .slice pa n ca, .bool bf, .slice ps m cb, .int .i64 al, .int .u8 sf] 125))
  clear ha hs hg hsf
  by_cases h1 : next < 0
  · have d1 : decide (next < 0) = true := decide_eq_true h1
    clear hn h1
    go_enter Try.func11, Try.ntmps11
    go_wp2_with (first
      | (go_at_call 74; refine (HBG.out _ HB0.out).mono ?_; rintro e w2 ⟨a, bb, vl, rfl, hb⟩; have HB2 := Lib.hid (bthen HB0.out hb); clear hb)
      | (go_at_call 75; refine (awake12 _).mono ?_; rintro e w3 ⟨rfl, hb⟩; have HB3 := Lib.hid (bthen HB2.out hb); clear hb))
    go_ret
    exact ⟨rfl, HB3.out⟩
  · have d1 : decide (next < 0) = false := decide_eq_false h1
    have d2 : decide (1000 < next) = true := decide_eq_true (by omega)
    clear hn h1
    go_enter Try.func11, Try.ntmps11
    go_wp2_with (first
      | (go_at_call 74; refine (HBG.out _ HB0.out).mono ?_; rintro e w2 ⟨a, bb, vl, rfl, hb⟩; have HB2 := Lib.hid (bthen HB0.out hb); clear hb)
      | (go_at_call 75; refine (awake12 _).mono ?_; rintro e w3 ⟨rfl, hb⟩; have HB3 := Lib.hid (bthen HB2.out hb); clear hb))
    go_ret
    exact ⟨rfl, HB3.out⟩
/-- The law's own plan stays. -/
theorem plan_cells {W w : World} {pl : Array Value} {T : TypeId} (hb : Below (W.alloc (.cells pl T)).heap.size (W.alloc (.cells pl T)) w) (i : Nat) : w.cell? ⟨W.heap.size, i, none⟩ = pl[i]? := by
  have h := (hb.block _ (lt_of_block (obj_new W (.cells pl T)))).trans (obj_new W (.cells pl T))
  exact obj_cell h i
set_option maxHeartbeats 4000000 in
set_option maxRecDepth 100000 in
theorem looks_ok (ha : LongsAt W (.slice pa n ca) n z) (hs : ByteRow W (.slice ps m cb) m y) (hg : PlanOk cu al n m z) (hsf : 0 ≤ sf) (hn : 0 ≤ next ∧ next ≤ 1000) :
    Calls Try.prog 11 #[.agg #[.int .i64 cu, .slice pa n ca, .bool bf, .slice ps m cb, .int .i64 al, .int .u8 sf], .int .i64 next] W fun e w' => e = .returned (.bool true) ∧ Below W.heap.size W w' := by
  have HA := Lib.hid ha
  have HBG : Hid (∀ w1, Below W.heap.size W w1 → Calls Try.prog 74 #[.agg #[.int .i64 cu, .slice pa n ca, .bool bf, .slice ps m cb, .int .i64 al, .int .u8 sf]] w1 fun e w' => ∃ R a bb cs xs alc sh st left vl, e = .returned (.tuple #[.pointer (some ⟨a, 0, none⟩), .pointer (some ⟨bb, 0, none⟩), vl, .bool true]) ∧ BgF R w1 w' a bb cs xs alc sh st left vl cu al n z bf) := Lib.hid fun w1 hb => begun_ok (ha.keep hb) (hs.keep hb) hg hsf
  have HB0 := Lib.hid (balloc (Below.refl _ W) (.cells #[.int .i64 cu, .slice pa n ca, .bool bf, .slice ps m cb, .int .i64 al, .int .u8 sf] 125))
  have HG := Lib.hid hg
  have d1 : decide (next < 0) = false := decide_eq_false (by omega)
  have d2 : decide (1000 < next) = false := decide_eq_false (by omega)
  have HPC : Hid (∀ w i, Below (W.alloc (.cells #[.int .i64 cu, .slice pa n ca, .bool bf, .slice ps m cb, .int .i64 al, .int .u8 sf] 125)).heap.size (W.alloc (.cells #[.int .i64 cu, .slice pa n ca, .bool bf, .slice ps m cb, .int .i64 al, .int .u8 sf] 125)) w → w.cell? ⟨W.heap.size, i, none⟩ = (#[.int .i64 cu, .slice pa n ca, .bool bf, .slice ps m cb, .int .i64 al, .int .u8 sf] : Array Value)[i]?) := Lib.hid fun w i hb => plan_cells hb i
  clear ha hs hg hsf
  go_enter Try.func11, Try.ntmps11
  go_upto_region 1 with fail
  generalize W.alloc (.cells #[.int .i64 cu, .slice pa n ca, .bool bf, .slice ps m cb, .int .i64 al, .int .u8 sf] 125) = w1 at *
  have q0 : w1.cell? ⟨W.heap.size, 0, none⟩ = some (.int .i64 cu) := HPC.out w1 0 (Below.refl _ _)
  have q1 : w1.cell? ⟨W.heap.size, 1, none⟩ = some (.slice pa n ca) := HPC.out w1 1 (Below.refl _ _)
  have q2 : w1.cell? ⟨W.heap.size, 2, none⟩ = some (.bool bf) := HPC.out w1 2 (Below.refl _ _)
  have q3 : w1.cell? ⟨W.heap.size, 3, none⟩ = some (.slice ps m cb) := HPC.out w1 3 (Below.refl _ _)
  have q4 : w1.cell? ⟨W.heap.size, 4, none⟩ = some (.int .i64 al) := HPC.out w1 4 (Below.refl _ _)
  have q5 : w1.cell? ⟨W.heap.size, 5, none⟩ = some (.int .u8 sf) := HPC.out w1 5 (Below.refl _ _)
  go_upto_region 4 with (go_at_call 74; refine (HBG.out _ HB0.out).mono ?_; rintro e w2 ⟨R, a, bb, cs, xs, alc, sh, st, left, vl, rfl, hf⟩; have HF := Lib.hid hf; clear hf)
  clear q0 q1 q2 q3 q4 q5 d1 d2
  obtain ⟨hl1, hl2⟩ := HF.out.lookIn HG.out hn
  obtain ⟨q, k, hE, hqn, hqs, hqf, hqk, _, _, hk2⟩ := HF.out.ends HG.out hn
  have HE := Lib.hid hE
  have HQN := Lib.hid hqn
  have HQS := Lib.hid hqs
  have HK2 := Lib.hid hk2
  have HLK : Hid (∀ w, Below w2.heap.size w2 w → Calls Try.prog 76 #[.int .i64 next, .int .i64 cu, .slice pa n ca, .bool bf, vl] w fun e w' => e = .returned (.int .i64 (lookP next cu (zsB z n) bf left)) ∧ w = w') := Lib.hid fun w hb => rlook12 ((HA.out.keep (bthen HB0.out (bthen HF.out.mv.below hb))).lng) ((HF.out.lng _ HF.out.mv.inv).keep hb) next cu bf hn HG.out.cu (by rw [zsB_len]; exact HG.out.n8) HF.out.l60
  have HSTP : Hid (∀ w, Calls Try.prog 77 #[.int .i64 next, .int .i64 cu, .int .i64 n, .bool bf, .int .i64 (lookP next cu (zsB z n) bf left)] w fun e w' => e = .returned (.int .i64 (stepsP next cu n bf (lookP next cu (zsB z n) bf left))) ∧ w = w') := Lib.hid fun w => rsteps12 next cu n bf _ hn HG.out.cu (by have := HG.out.n8; omega) ⟨hl1, hl2⟩
  have p0 : w2.cell? ⟨W.heap.size, 0, none⟩ = some (.int .i64 cu) := HPC.out w2 0 HF.out.mv.below
  have p1 : w2.cell? ⟨W.heap.size, 1, none⟩ = some (.slice pa n ca) := HPC.out w2 1 HF.out.mv.below
  have p2 : w2.cell? ⟨W.heap.size, 2, none⟩ = some (.bool bf) := HPC.out w2 2 HF.out.mv.below
  have p4 : w2.cell? ⟨W.heap.size, 4, none⟩ = some (.int .i64 al) := HPC.out w2 4 HF.out.mv.below
  clear hE hqn hqs hl1 hl2 hk2
  generalize lookP next cu (zsB z n) bf left = lk at *
  generalize stepsP next cu n bf lk = sk at *
  have hst := HF.out.st0
  by_cases h1 : al = 1
  · have HP : Hid (Calls Try.prog 78 #[.pointer (some ⟨bb, 0, none⟩), .pointer (some ⟨a, 0, none⟩), .int .i64 next] w2 fun e w' => ∃ E, e = .returned (.tuple #[.int .i64 (next - 1), E]) ∧ ErrAt w' E 13 ∧ Mv R w1 w' a xs (st + 1)) := Lib.hid (by
      rw [if_pos h1] at hqf hqk
      have h := plook_alert HF.out.bw HF.out.inb HF.out.mv (by omega) HE.out (by rw [HQS.out]; exact h1) HQN.out (by omega) (by have := HK2.out; omega)
      rw [hqf, hqk] at h
      exact h)
    have b1 : (al == 1) = true := by simpa using h1
    have b2 : (al != 1) = false := by simpa using h1
    have hss : (st + 1 - st == 1) = true := by rw [beq_iff_eq]; omega
    clear hqf hqk h1
    as_aux_lemma =>
      go_upto_region 12 with (first
        | (go_at_call 76; refine (HLK.out _ (Below.refl _ _)).mono ?_; rintro e w3 ⟨rfl, rfl⟩)
        | (go_at_call 77; refine (HSTP.out _).mono ?_; rintro e w3 ⟨rfl, rfl⟩)
        | (go_at_call 28; refine (steps_mv HF.out.mv).mono ?_; rintro e w3 ⟨rfl, rfl⟩)
        | (go_at_call 78; refine HP.out.mono ?_; rintro e w4 ⟨E, rfl, he, hm⟩; have HEA := Lib.hid he; have H4 := Lib.hid hm; have r4 : w4.cell? ⟨W.heap.size, 4, none⟩ = some (.int .i64 al) := HPC.out w4 4 hm.below; clear he hm)
        | (go_at_call 17; refine (is_at HEA.out 13).mono ?_; rintro e w5 ⟨rfl, rfl⟩))
      clear p0 p1 p2 p4 r4
      go_wp2_with (first
        | (go_at_call 75; refine (awake12 _).mono ?_; rintro e w6 ⟨rfl, hb⟩; have H6 := Lib.hid (H4.out.keep hb); clear hb)
        | (go_at_call 28; refine (steps_mv H6.out).mono ?_; rintro e w7 ⟨rfl, rfl⟩))
      go_ret
      exact ⟨rfl, bthen HB0.out H6.out.below⟩
  · have HP : Hid (Calls Try.prog 78 #[.pointer (some ⟨bb, 0, none⟩), .pointer (some ⟨a, 0, none⟩), .int .i64 next] w2 fun e w' => e = .returned (.tuple #[.int .i64 lk, .nilIface]) ∧ Mv R w1 w' a xs (st + sk) ∧ 0 ≤ sk ∧ sk ≤ 2000) := Lib.hid (by
      rw [if_neg h1] at hqf hqk
      have h := plook_ok HF.out.bw HF.out.inb HF.out.mv (by omega) HE.out (by rw [HQS.out]; exact h1) HQN.out (by omega) (by have := HK2.out; omega)
      rw [hqf, hqk] at h
      exact h.mono fun e w' h => ⟨h.1, h.2, by omega, by have := HK2.out; omega⟩)
    have b1 : (al == 1) = false := by simpa using h1
    have b2 : (al != 1) = true := by simpa using h1
    have hss : (st + sk - st == sk) = true := by rw [beq_iff_eq]; omega
    clear hqf hqk h1
    as_aux_lemma =>
      go_upto_region 12 with (first
        | (go_at_call 76; refine (HLK.out _ (Below.refl _ _)).mono ?_; rintro e w3 ⟨rfl, rfl⟩)
        | (go_at_call 77; refine (HSTP.out _).mono ?_; rintro e w3 ⟨rfl, rfl⟩)
        | (go_at_call 28; refine (steps_mv HF.out.mv).mono ?_; rintro e w3 ⟨rfl, rfl⟩)
        | (go_at_call 78; refine HP.out.mono ?_; rintro e w4 ⟨rfl, hm, hk0, hk1⟩; have H4 := Lib.hid hm; have r4 : w4.cell? ⟨W.heap.size, 4, none⟩ = some (.int .i64 al) := HPC.out w4 4 hm.below; clear hm))
      clear p0 p1 p2 p4 r4
      go_wp2_with (first
        | (go_at_call 75; refine (awake12 _).mono ?_; rintro e w6 ⟨rfl, hb⟩; have H6 := Lib.hid (H4.out.keep hb); clear hb)
        | (go_at_call 28; refine (steps_mv H6.out).mono ?_; rintro e w7 ⟨rfl, rfl⟩))
      go_ret
      exact ⟨rfl, bthen HB0.out H6.out.below⟩
end
end Go.Proofs.Ytejkjpmigajidaa
