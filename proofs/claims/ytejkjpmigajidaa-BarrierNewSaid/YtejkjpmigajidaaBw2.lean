/-
  BarrierNew: a new barrier's cells are the arena's; what is refused. Condition: the input is read as data.
-/
import Derived.Test.YtejkjpmigajidaaBw1
namespace Go.Proofs.Ytejkjpmigajidaa
open Go.RowKit
set_option linter.unusedVariables false

/-- A new row of two, read. -/
theorem lng2 (W : World) (x y : Int) (T : TypeId) : LngAt (W.alloc (.cells #[.int .i64 x, .int .i64 y] T)) (.slice (some ⟨W.heap.size, 0, none⟩) 2 2) [x, y] := by
  refine ⟨_, 2, rfl, .inr ⟨_, _, rfl, fun j hj => ?_⟩⟩
  have hj' : j < 2 := hj
  rcases (show j = 0 ∨ j = 1 by omega) with rfl | rfl
  · exact (obj_cell (obj_new W _) 0).trans rfl
  · exact (obj_cell (obj_new W _) 1).trans rfl
section
variable {W : World} {cu al sf next : Int} {n m ca cb : Nat} {pa ps : Option Addr} {z y : Nat → Int} {bf : Bool}
set_option maxHeartbeats 2000000 in
set_option maxRecDepth 100000 in
theorem new_bad (ha : LongsAt W (.slice pa n ca) n z) (hs : ByteRow W (.slice ps m cb) m y) (hg : ¬ PlanOk cu 0 n m z) :
    Calls Try.prog 14 #[.agg #[.int .i64 cu, .slice pa n ca, .bool bf, .slice ps m cb, .int .i64 al, .int .u8 sf], .int .i64 next] W fun e w' => e = .returned (.bool true) ∧ Below W.heap.size W w' := by
  have HBG : Hid (∀ w1, Below W.heap.size W w1 → Calls Try.prog 74 #[.agg #[.int .i64 cu, .slice pa n ca, .bool bf, .slice ps m cb, .int .i64 0, .int .u8 sf]] w1 fun e w' => e = .returned (.tuple #[.pointer none, .pointer none, .slice none 0 0, .bool false]) ∧ Below w1.heap.size w1 w') := Lib.hid fun w1 hb => begun_bad (ha.keep hb) (hs.keep hb) hg
  have HB0 := Lib.hid (balloc (Below.refl _ W) (.cells #[.int .i64 cu, .slice pa n ca, .bool bf, .slice ps m cb, .int .i64 0, .int .u8 sf] 125))
  clear ha hs hg
  go_enter Try.func14, Try.ntmps14
  go_wp2_with (first
    | (go_at_call 74; refine (HBG.out _ HB0.out).mono ?_; rintro e w2 ⟨rfl, hb⟩; have HB2 := Lib.hid (bthen HB0.out hb); clear hb)
    | (go_at_call 75; refine (awake12 _).mono ?_; rintro e w3 ⟨rfl, hb⟩; have HB3 := Lib.hid (bthen HB2.out hb); clear hb))
  go_ret
  exact ⟨rfl, HB3.out⟩
set_option maxHeartbeats 8000000 in
set_option maxRecDepth 100000 in
theorem new_ok (ha : LongsAt W (.slice pa n ca) n z) (hs : ByteRow W (.slice ps m cb) m y) (hg : PlanOk cu 0 n m z) (hsf : 0 ≤ sf) (hnx : -9223372036854775808 ≤ next ∧ next ≤ 9223372036854775807) :
    Calls Try.prog 14 #[.agg #[.int .i64 cu, .slice pa n ca, .bool bf, .slice ps m cb, .int .i64 al, .int .u8 sf], .int .i64 next] W fun e w' => e = .returned (.bool true) ∧ Below W.heap.size W w' := by
  have HBG : Hid (∀ w1, Below W.heap.size W w1 → Calls Try.prog 74 #[.agg #[.int .i64 cu, .slice pa n ca, .bool bf, .slice ps m cb, .int .i64 0, .int .u8 sf]] w1 fun e w' => ∃ R a bb cs xs alc sh st left vl, e = .returned (.tuple #[.pointer (some ⟨a, 0, none⟩), .pointer (some ⟨bb, 0, none⟩), vl, .bool true]) ∧ BgF R w1 w' a bb cs xs alc sh st left vl cu 0 n z bf) := Lib.hid fun w1 hb => begun_ok (ha.keep hb) (hs.keep hb) hg hsf
  have HB0 := Lib.hid (balloc (Below.refl _ W) (.cells #[.int .i64 cu, .slice pa n ca, .bool bf, .slice ps m cb, .int .i64 0, .int .u8 sf] 125))
  have HN8 := Lib.hid hg.n8
  have HNX := Lib.hid hnx
  have HCC : Hid (n = 0 ∨ ∃ b off, pa = some ⟨b, off, none⟩ ∧ ∀ j, j < n → W.cell? ⟨b, off + j, none⟩ = some (.int .i64 (z j))) := Lib.hid (by
    obtain ⟨p', c', he, _, h⟩ := ha
    cases he
    refine h.imp id ?_
    rintro ⟨b, off, rfl, hc⟩
    exact ⟨b, off, rfl, fun j hj => (hc j hj).1⟩)
  have HPC : Hid (∀ w i, Below (W.alloc (.cells #[.int .i64 cu, .slice pa n ca, .bool bf, .slice ps m cb, .int .i64 0, .int .u8 sf] 125)).heap.size (W.alloc (.cells #[.int .i64 cu, .slice pa n ca, .bool bf, .slice ps m cb, .int .i64 0, .int .u8 sf] 125)) w → w.cell? ⟨W.heap.size, i, none⟩ = (#[.int .i64 cu, .slice pa n ca, .bool bf, .slice ps m cb, .int .i64 0, .int .u8 sf] : Array Value)[i]?) := Lib.hid fun w i hb => plan_cells hb i
  clear ha hs hg hsf hnx
  go_enter Try.func14, Try.ntmps14
  go_upto_region 2 with fail
  generalize W.alloc (.cells #[.int .i64 cu, .slice pa n ca, .bool bf, .slice ps m cb, .int .i64 0, .int .u8 sf] 125) = w1 at *
  have q0 : w1.cell? ⟨W.heap.size, 0, none⟩ = some (.int .i64 cu) := HPC.out w1 0 (Below.refl _ _)
  have q1 : w1.cell? ⟨W.heap.size, 1, none⟩ = some (.slice pa n ca) := HPC.out w1 1 (Below.refl _ _)
  have q2 : w1.cell? ⟨W.heap.size, 2, none⟩ = some (.bool bf) := HPC.out w1 2 (Below.refl _ _)
  have q3 : w1.cell? ⟨W.heap.size, 3, none⟩ = some (.slice ps m cb) := HPC.out w1 3 (Below.refl _ _)
  have q4 : w1.cell? ⟨W.heap.size, 4, none⟩ = some (.int .i64 0) := HPC.out w1 4 (Below.refl _ _)
  have q5 : w1.cell? ⟨W.heap.size, 5, none⟩ = some (.int .u8 sf) := HPC.out w1 5 (Below.refl _ _)
  go_upto_region 5 with (go_at_call 74; refine (HBG.out _ HB0.out).mono ?_; rintro e w2 ⟨R, a, bb, cs, xs, alc, sh, st, left, vl, rfl, hf⟩; have HF := Lib.hid hf; clear hf)
  clear q0 q1 q2 q3 q4 q5
  have HST := Lib.hid HF.out.st0
  have halc : (alc : Int) ≤ 200 := by have := HF.out.len; have := HF.out.big; omega
  have hwr : IntKind.i64.wrap (alc : Int) = (alc : Int) := IntWalk.i64_in _ (by omega)
  have HX : Hid (xs[alc]? = some 0) := Lib.hid (by rw [HF.out.inb.y, HF.out.al])
  have HLN : Hid (∀ (R' : Rest) (w : World) (s : Int), Mv R' w1 w a xs s → Calls Try.prog 27 #[.pointer (some ⟨a, 0, none⟩)] w fun e w' => e = .returned (.int .i64 ((alc : Int) + 1)) ∧ w = w') := Lib.hid fun R' w s h => (len_mv h).mono fun e w' k => ⟨by rw [k.1, HF.out.len, show ((alc + 1 : Nat) : Int) = (alc : Int) + 1 by omega], k.2⟩
  have HAF : Hid (∀ w, R.inv w → Calls Try.prog 85 #[.pointer (some ⟨bb, 0, none⟩)] w fun e w' => ∃ p c, e = .returned (.slice p n c) ∧ w'.ownsRow w.heap.size 3 1 (.slice p n c) n ((idsB n).map (Value.int .i64)) ∧ Below w.heap.size w w') := Lib.hid fun w h => (bafter HF.out.bw h).mono fun e w' ⟨p, c, h1, h2⟩ => ⟨p, c, by rw [h1, idsB_len], by have h := h2.1; rw [idsB_len] at h; exact h, h2.2⟩
  go_upto_region 6 with (first
    | (go_at_call 84; refine (balert HF.out.bw HF.out.mv.inv).mono ?_; rintro e w3 ⟨rfl, rfl⟩)
    | (go_at_call 30; refine (load_mv HF.out.mv alc 0 HX.out (by have := HST.out; omega) (by have := HST.out; omega)).mono ?_; rintro e w3 ⟨rfl, hm⟩; have H3 := Lib.hid hm; clear hm))
  have k1 : w3.cell? ⟨W.heap.size, 1, none⟩ = some (.slice pa n ca) := HPC.out w3 1 H3.out.below
  go_region_held3 (fun w' => w'.cell? ⟨W.heap.size, 1, none⟩ = some (.slice pa n ca)) (first
      | assumption
      | go_simp) (first
      | (go_at_call 85; refine (HAF.out _ (H3.out.keep (Below.drew (Below.refl _ _))).inv).mono ?_; rintro e w4 ⟨p4, c4, rfl, -, hb⟩; have H4 := Lib.hid ((H3.out.keep (Below.drew (Below.refl _ _))).keep hb); have j1 : w4.cell? ⟨W.heap.size, 1, none⟩ = some (.slice pa n ca) := HPC.out w4 1 H4.out.below; clear hb)
      | (go_at_call 84; refine (balert HF.out.bw H4.out.inv).mono ?_; rintro e w5 ⟨rfl, rfl⟩)
      | (go_at_call 27; refine (HLN.out _ _ _ H4.out).mono ?_; rintro e w6 ⟨rfl, rfl⟩))
  clear k1 j1
  go_wp2_with (go_at_call 85; refine (HAF.out _ H4.out.inv).mono ?_; rintro e w7 ⟨p7, c7, rfl, hr, hb⟩; have H7 := Lib.hid (H4.out.more hb hr); clear hr hb)
  have HJ0 : Hid (Mv (R.row w1.heap.size 3 1 (.slice p7 n c7) n ((idsB n).map (Value.int .i64))) w1 w7 a xs (st + 1 + ((0 : Nat) : Int))) := Lib.hid (by rw [show st + 1 + ((0 : Nat) : Int) = st + 1 by omega]; exact H7.out)
  have hn8 : n ≤ 8 := HN8.out
  clear H7 H3 H4 hwr halc
  go_loopw [68] (fun i wl => ∃ j : Nat, j ≤ n ∧ i = .int .i64 j ∧ Hid (Mv (R.row w1.heap.size 3 1 (.slice p7 n c7) n ((idsB n).map (Value.int .i64))) w1 wl a xs (st + 1 + (j : Int)))) (fun i _ => n - (intOf i).toNat)
  case atStart => exact ⟨0, Nat.zero_le _, rfl, HJ0⟩
  case round =>
    clear HJ0
    obtain ⟨j, hj, rfl, HJ⟩ := hrel
    by_cases hlt : j < n
    · as_aux_lemma =>
      obtain ⟨g, cap, hsl, -, -⟩ := row_some HJ.out.rowIs (by omega)
      obtain ⟨e1, e2⟩ : p7 = some ⟨g, 0, none⟩ ∧ c7 = cap := by cases hsl; exact ⟨rfl, rfl⟩
      subst e1 e2
      obtain ⟨b, off, e3, hcc⟩ := HCC.out.resolve_left (by omega)
      subst e3
      have cr : wr.cell? ⟨g, j, none⟩ = some (.int .i64 ((j : Int) + 1)) := (HJ.out.rowIs.cellAt j (by simpa [idsB_len] using hlt)).trans (by
        rw [List.getElem?_map]
        have := idsB_at hlt
        rw [List.getD_eq_getElem?_getD, List.getElem?_eq_getElem (by rw [idsB_len]; exact hlt)] at this
        rw [List.getElem?_eq_getElem (by rw [idsB_len]; exact hlt)]
        show some (Value.int .i64 ((idsB n)[j]'(by rw [idsB_len]; exact hlt))) = _
        rw [show (idsB n)[j]'(by rw [idsB_len]; exact hlt) = ((j + 1 : Nat) : Int) from this]
        rfl)
      have hx1 : xs[j + 1]? = some (z j) := by rw [HF.out.pre (j + 1) (by omega), List.getElem?_cons_succ, zsB_at z hlt]
      have HLD : Hid (Calls Try.prog 30 #[.pointer (some ⟨a, 0, none⟩), .int .i64 ((j : Int) + 1)] wr fun e w' => e = .returned (.tuple #[.int .i64 (z j), .nilIface]) ∧ Mv (R.row w1.heap.size 3 1 (.slice (some ⟨g, 0, none⟩) n c7) n ((idsB n).map (Value.int .i64))) w1 w' a xs (st + 1 + (j : Int) + 1)) := Lib.hid (load_mv HJ.out (j + 1) (z j) hx1 (by have := HST.out; omega) (by have := HST.out; have := HN8.out; omega))
      have HEL : Hid (∀ w, Below w1.heap.size w1 w → w.cell? ⟨b, off + j, none⟩ = some (.int .i64 (z j)) ∧ w.cell? ⟨W.heap.size, 1, none⟩ = some (.slice (some ⟨b, off, none⟩) n ca)) := Lib.hid fun w hb => ⟨keepc (bthen HB0.out hb) (hcc j hlt), HPC.out w 1 hb⟩
      clear hsl hcc hx1
      generalize z j = zj at *
      go_upto_region 12 with (go_at_call 30; refine HLD.out.mono ?_; rintro e w8 ⟨rfl, hm⟩; have H8 := Lib.hid hm; clear hm)
      obtain ⟨x1, x2⟩ := HEL.out w8 H8.out.below
      clear cr
      go_wp2_with fail
      exact ⟨⟨j + 1, by omega, by go_num, by have h := H8.out; rw [show st + 1 + (j : Int) + 1 = st + 1 + ((j + 1 : Nat) : Int) by omega] at h; exact Lib.hid h⟩, by simp [intOf]; omega⟩
    · as_aux_lemma =>
      obtain rfl : n = j := by omega
      clear hlt hj
      have HFR : Hid (∀ w, Below wr.heap.size wr w → Calls Try.prog 86 #[.pointer (some ⟨a, 0, none⟩), .int .i64 ((alc : Int) + 1), .pointer none, .slice none 0 0] w fun e w' => ∃ E, e = .returned (.tuple #[.pointer none, E]) ∧ ErrAt w' E 3 ∧ Below w.heap.size w w') := Lib.hid fun w hb => by
        have h := bnew_far (HJ.out.keep hb) (by have := HF.out.big; omega)
        rw [HF.out.len, show ((alc + 1 : Nat) : Int) = (alc : Int) + 1 by omega] at h
        exact h
      have HTW : Hid (∀ w0 w, Below wr.heap.size wr w0 → w0.alloc (.cells #[.int .i64 1, .int .i64 1] 3) = w → Calls Try.prog 86 #[.pointer (some ⟨a, 0, none⟩), .int .i64 0, .pointer none, .slice (some ⟨w0.heap.size, 0, none⟩) 2 2] w fun e w' => ∃ E, e = .returned (.tuple #[.pointer none, E]) ∧ ErrAt w' E 4 ∧ Below w.heap.size w w') := Lib.hid fun w0 w hb hw => by
        subst hw
        exact bnew_twice (HJ.out.keep (balloc hb _)) (by have := HF.out.len; have := HF.out.lo; omega) (lng2 w0 1 1 _)
      go_upto_region 16 with (go_at_call 86; refine (bnew_nil _ _ _ _).mono ?_; rintro e w8 ⟨E15, rfl, he, hb⟩; have HE15 := Lib.hid he; have HB8 := Lib.hid hb; clear he hb)
      go_upto_region 17 with (first
        | (go_at_call 27; refine (HLN.out _ _ _ (HJ.out.keep HB8.out)).mono ?_; rintro e wL ⟨rfl, rfl⟩)
        | (go_at_call 86; refine (HFR.out _ HB8.out).mono ?_; rintro e w9 ⟨E16, rfl, he, hb⟩; have HE16 := Lib.hid he; have HE15a := Lib.hid (HE15.out.keep hb); have HB9 := Lib.hid (bthen HB8.out hb); clear he hb))
      clear HB8 HE15
      go_upto_region 18 with (go_at_call 86; refine (HTW.out _ _ HB9.out rfl).mono ?_; rintro e wA ⟨E17, rfl, he, hb⟩; have HE17 := Lib.hid he; have HE15b := Lib.hid ((HE15a.out.keep (balloc (Below.refl _ _) _)).keep hb); have HE16b := Lib.hid ((HE16.out.keep (balloc (Below.refl _ _) _)).keep hb); have HBA := Lib.hid (bthen (balloc HB9.out _) hb); clear he hb)
      clear HB9 HE15a HE16
      go_upto_region 20 with (go_at_call 78; refine (LookNil _ _ _).mono ?_; rintro e wB ⟨E23, rfl, he, hb⟩; have HE23 := Lib.hid he; have HE15c := Lib.hid (HE15b.out.keep hb); have HE16c := Lib.hid (HE16b.out.keep hb); have HE17c := Lib.hid (HE17.out.keep hb); have HBB := Lib.hid (bthen HBA.out hb); clear he hb)
      clear HBA HE15b HE16b HE17 HFR HTW HLN HAF
      go_wp2_with (first
        | (go_at_call 75; refine (awake12 _).mono ?_; rintro e wC ⟨rfl, hb⟩; have HF15 := Lib.hid (HE15c.out.keep hb); have HF16 := Lib.hid (HE16c.out.keep hb); have HF17 := Lib.hid (HE17c.out.keep hb); have HF23 := Lib.hid (HE23.out.keep hb); have HBC := Lib.hid (bthen HBB.out hb); clear hb)
        | (go_at_call_of 17 E15; refine (is_at HF15.out 2).mono ?_; rintro e wF ⟨rfl, rfl⟩)
        | (go_at_call_of 17 E16; refine (is_at HF16.out 3).mono ?_; rintro e wF ⟨rfl, rfl⟩)
        | (go_at_call_of 17 E17; refine (is_at HF17.out 4).mono ?_; rintro e wF ⟨rfl, rfl⟩)
        | (go_at_call_of 17 E23; refine (is_at HF23.out 2).mono ?_; rintro e wF ⟨rfl, rfl⟩)
        | (go_at_call 84; refine (balert_nil _).mono ?_; rintro e wF ⟨rfl, rfl⟩)
        | (go_at_call 85; refine (bafter_nil _).mono ?_; rintro e wF ⟨rfl, rfl⟩)
        | (go_at_call 79; refine (pprobe_nil next HNX.out _).mono ?_; rintro e wG ⟨ts, rfl, ht, hb⟩; have HTS := Lib.hid ht; have HBD := Lib.hid (bthen HBC.out hb); clear ht hb)
        | (go_at_call 81; refine (pdone HTS.out _).mono ?_; rintro e wH ⟨rfl, hb⟩; have HBE := Lib.hid (bthen HBD.out hb); clear hb))
      go_ret
      exact ⟨rfl, bthen HB0.out (bthen HJ.out.below HBE.out)⟩
end
end Go.Proofs.Ytejkjpmigajidaa
