/-
  MultiTries' walk, under way. Conditions: at most 120 acts.
-/
import Derived.Test.YtndmhnakfhofpaaMt0
import Derived.Test.YtndmhnakfhofpaaShut
import Derived.Deep.DeepCutAuto
import Derived.Deep.CutBlock
import Derived.Deep.RegionHeld3
import Derived.Deep.DrawnRows
import Derived.BigRegion
namespace Go.Proofs.Ytndmhnakfhofpaa
open Go.RowKit
set_option linter.unusedSimpArgs false
set_option linter.unusedVariables false
/-- The load of those who hold back, as the law's last statement of kind 3 has it. -/
def ldT : Op := .load 46 (.tmp 216)
attribute [local go_sem ↓] Go.wp_at_zero Go.wp_at_succ ldT

set_option maxRecDepth 100000 in
set_option maxHeartbeats 8000000 in
theorem mtries_walk (W : World) (sh0 : Int) (hsh : 0 ≤ sh0) (k : Nat) (hs : sh0 % 7 = k) (hk : k < 7) (v : Value) (n : Nat) (fld : Nat → Nat → Int) (hO : OpsAt W v n 3 fld) (hn : n ≤ 120) :
    Calls Try.prog 13 #[.int .u8 sh0, v] W fun e w' => e = .returned (.bool true) ∧ Below W.heap.size W w' := by
  obtain ⟨p, cap, rfl, hnm, hc⟩ := hO
  have HC := Lib.hid hc
  have ht : sh0.tmod 7 = (k : Int) := by rw [Int.tmod_eq_emod_of_nonneg hsh]; exact hs
  have wt := wrap_two k (by omega)
  have d1 : decide ((120 : Int) < (n : Int)) = false := decide_eq_false (by omega)
  obtain ⟨N, hN⟩ : ∃ N : Nat, (N : Int) = two k := ⟨(two k).toNat, by have := two_pos k; omega⟩
  have HN := Lib.hid hN
  have hn1 := two_pos k
  have hn2 := two64 hk
  clear hs hsh hc hnm hN
  go_enter Try.func13, Try.ntmps13
  go_upto_region 4 with (go_at_call 33; refine (new_m _).mono ?_; rintro e w1 ⟨rfl, hm⟩; have HM1 := Lib.hid hm; clear hm)
  go_upto_region 5 with fail
  rw [wt]
  clear wt ht
  go_upto_region 8 with (go_at_call 71; refine (mnew_ok (Mv.of_mine HM1.out) k N (by omega) HN.out).mono ?_; rintro e w2 ⟨s, rfl, hb, hsk, hl⟩; have L2 := Lib.hid hl; have HSB := Lib.hid hb; have HSK := Lib.hid hsk; clear hl hb hsk HM1)
  have HI0 := Lib.hid (s10_info (two k) (-1) (.slice none 0 0) (-1) (.slice none 0 0))
  have HE0 := Lib.hid (s10_one (N := two k) (c := -1) (sn := -1) (gv := .slice none 0 0) (sv := .slice none 0 0) rfl rfl)
  go_upto_region 9 with (first
    | (go_at_call 72; refine (rnew10 (two k) _).mono ?_; rintro e w3 ⟨rfl, hb⟩; have L3 := Lib.hid (L2.out.keep hb); clear hb L2)
    | (refine wpList_store_row rfl 125 (.tmp 9) (.tmp 53) rfl w3.heap.size (s10 (two k) (-1) (.slice none 0 0) (-1) (.slice none 0 0)) rfl rfl 125 _ (obj_new w3 _) HI0.out rfl HE0.out ?_))
  have L3r : Hid (Lv (RT W.heap.size (.slice none 0 0) (.slice none 0 0) []) W w3 s (-1) (-1) (List.replicate N (-1)) [] (-1) 0) := Lib.hid (L3.out.of_ms ((L3.out.ms.nil 165 40).nil 169 7))
  have L4 := Lib.hid (lp_row (lp_new L3r.out #[.int .i64 0, .int .i64 0, .int .i64 0, .slice none 0 0, .int .i64 0, .int .i64 0, .slice none 0 0]) (s10 (two k) (-1) (.slice none 0 0) (-1) (.slice none 0 0)))
  generalize World.setRow _ _ _ = w4 at *
  generalize w3.heap.size = mb at *
  clear HI0 HE0 L3 L3r
  have HS0 : Hid (MTs id W w4 s mb (1000 * (0 : Nat)) 0 (.slice none 0 0) (.slice none 0 0) (.slice none 0 0)) := Lib.hid (by
    have h := L4.out
    rw [← HSK.out] at h
    exact ⟨-1, -1, List.replicate N (-1), [], [], -1, 0, .slice none 0 0, h, by simp, by simp, by simp, by simp, by simp, by simp, by simp, by simp, by simp⟩)
  have H64 : Hid (1 ≤ two s.k ∧ two s.k ≤ 64) := Lib.hid (by rw [HSK.out]; omega)
  rw [← HSK.out]
  clear L4 hn1 hn2
  go_wp2_with fail
  go_loopw [10, 11, 12, 56] (fun vi vl vw i wl => ∃ t : Nat, t ≤ n ∧ i = .int .i64 t ∧ Hid (MTs id W wl s mb (1000 * t) t vi vl vw)) (fun _ _ _ i _ => n - (intOf i).toNat)
  case atStart => exact ⟨0, Nat.zero_le _, rfl, HS0⟩
  case round =>
    clear HS0
    obtain ⟨t, ht, rfl, HP⟩ := hrel
    obtain ⟨c, sn, sh, gv, L, sw, st, vg, hl, hI⟩ := HP.out
    have HL := Lib.hid hl
    have HI := Lib.hid hI
    obtain ⟨pi, ci, hvi, _⟩ := row_form (lp_i hl)
    rw [idsN_len] at hvi
    subst hvi
    obtain ⟨pg, cg, rfl, _⟩ := row_form (lp_g hl)
    obtain ⟨pl, cl, rfl, _⟩ := row_form (rt_l hl)
    obtain ⟨pw, cw, rfl, _⟩ := row_form (rt_w hl)
    clear hl hI
    by_cases hlt : t < n
    · obtain ⟨b, off, rfl, hcell⟩ := HC.out.resolve_left (by omega)
      have hk4 := hcell t hlt
      have q0 := keepc HL.out.below (hk4 0 (by decide)).1
      have q1 := keepc HL.out.below (hk4 1 (by decide)).1
      have q2 := keepc HL.out.below (hk4 2 (by decide)).1
      have HR1 := Lib.hid (hk4 1 (by decide)).2
      have HR2 := Lib.hid (hk4 2 (by decide)).2
      generalize fld t 0 = z0 at *
      generalize fld t 1 = z1 at *
      generalize fld t 2 = z2 at *
      simp only [Nat.add_zero] at q0
      clear hcell hk4
      go_upto_block 2 with fail
      have HL3 := Lib.hid ((HL.out.of_ms (HL.out.ms.boxNew #[.int .i64 z0, .int .i64 z1, .int .i64 z2] 162)).le RP.push)
      clear HL q0 q1 q2 HP
      generalize wr.alloc (.cells #[.int .i64 z0, .int .i64 z1, .int .i64 z2] 162) = w3 at *
      generalize wr.heap.size = ob at *
      have HB : Hid (-1 ≤ c ∧ c ≤ 7680 ∧ 0 ≤ st ∧ st ≤ 120000 ∧ gv.length ≤ 20 ∧ L.length ≤ 120 ∧ st ≤ 1000 * t) := Lib.hid ⟨HI.out.c0, by have := HI.out.c2; omega, HI.out.st0, by have := HI.out.st1; omega, HI.out.gl, by have := HI.out.ll; omega, HI.out.st1⟩
      go_cut [10, 11, 12] (fun vx vy vz wx => Hid (MTs id W wx s mb (1000 * t + 500) (t + 1) vx vy vz))
      case first =>
        by_cases e0 : z0 = 0
        · subst e0
          as_aux_lemma =>
          have o2 : w3.cell? ⟨ob, 2, none⟩ = some (.int .i64 z2) := (obj_cell (lp_ob HL3.out) 2).trans rfl
          by_cases hbad : z2 < 1 ∨ two s.k < z2
          · have HTRY := Lib.hid (mtry_arg HL3.out.ms.c HL3.out.ms.k20 z2 hbad)
            go_upto_region 18 with (first
              | (go_at_call 104; refine HTRY.out.mono ?_; rintro e w4 ⟨ts, E, rfl, htz, hr⟩; have HTZ := Lib.hid htz; have HR := Lib.hid hr; have HL4 := Lib.hid (HL3.out.keep hr.below); clear htz hr o2)
              | (refine wpList_alloc_try rfl rfl ?_; intro zs hzs; have HZS := Lib.hid hzs; clear hzs)
              | (refine wpList_store_row rfl 165 (.tmp 15) (.tmp 69) rfl w4.heap.size ts rfl rfl 165 _ (obj_new w4 _) HTZ.out.info (by rw [HTZ.out.size, HZS.out]) HTZ.out.one ?_))
            generalize hX : World.setRow _ _ _ = w5
            obtain ⟨hq, hb5⟩ := stored_new hX
            have HQ := Lib.hid hq
            have HL5 := Lib.hid (HL4.out.keep hb5)
            have HE := Lib.hid ((ErrAt.of HR.out (by decide)).keep hb5)
            have HC5 := Lib.hid (Below.refl w5.heap.size w5)
            have o2 : w5.cell? ⟨ob, 2, none⟩ = some (.int .i64 z2) := (obj_cell (lp_ob HL5.out) 2).trans rfl
            clear hX hq hb5
            have HX : Hid (∀ y, Below w5.heap.size w5 y → MTs id W y s mb (1000 * (t + 1 : Nat)) (t + 1) (.slice pi gv.length ci) (.slice pl L.length cl) (.slice pw L.length cw)) := Lib.hid fun y hy => ⟨c, sn, sh, gv, L, sw, st, .slice pg gv.length cg, (HL5.out.keep hy).le (RP.mono Rest.boxLe), HI.out.mono (by omega) (by omega)⟩
            have hsp : z2 < 1 ∨ (¬ z2 < 1 ∧ two s.k < z2) := by omega
            clear hbad
            rcases hsp with h1 | ⟨h1, h2⟩
            · have dz : decide (z2 < 1) = true := decide_eq_true h1
              as_aux_lemma =>
                go_wp2_with (first
                  | (go_at_call 27; refine (is_at HE.out 1).mono ?_; rintro e w6 ⟨rfl, rfl⟩)
                  | (go_at_call 105; refine (tdone HTZ.out.c2 _).mono ?_; rintro e w7 ⟨rfl, hb⟩; have HC7 := Lib.hid (bthen HC5.out hb); clear hb)
                  | (go_at_call 106; refine (tlast HTZ.out.c2 HTZ.out.c4 _).mono ?_; rintro e w8 ⟨rfl, hb⟩; have HC8 := Lib.hid (bthen HC7.out hb); rw [show lastOf 0 0 = -1 from rfl]; clear hb)
                  | (refine wpList_load_row_g rfl 165 (.tmp 15) rfl w4.heap.size rfl 165 ts (0, 0) _ HQ.out Try.underlying165 rfl HTZ.out.info ?_)
                  | (refine wpList_load_row_g rfl 165 (.tmp 15) rfl w4.heap.size rfl 165 ts (0, 0) _ ((HC7.out.block _ (lt_of_block HQ.out)).trans HQ.out) Try.underlying165 rfl HTZ.out.info ?_))
                exact ⟨⟨t + 1, by omega, by go_num, Lib.hid (HX.out _ HC8.out)⟩, by simp [intOf]; omega⟩
            · have dz : decide (z2 < 1) = false := decide_eq_false h1
              have dz2 : decide (two s.k < z2) = true := decide_eq_true h2
              as_aux_lemma =>
                go_wp2_with (first
                  | (go_at_call 27; refine (is_at HE.out 1).mono ?_; rintro e w6 ⟨rfl, rfl⟩)
                  | (go_at_call 105; refine (tdone HTZ.out.c2 _).mono ?_; rintro e w7 ⟨rfl, hb⟩; have HC7 := Lib.hid (bthen HC5.out hb); clear hb)
                  | (go_at_call 106; refine (tlast HTZ.out.c2 HTZ.out.c4 _).mono ?_; rintro e w8 ⟨rfl, hb⟩; have HC8 := Lib.hid (bthen HC7.out hb); rw [show lastOf 0 0 = -1 from rfl]; clear hb)
                  | (refine wpList_load_row_g rfl 165 (.tmp 15) rfl w4.heap.size rfl 165 ts (0, 0) _ HQ.out Try.underlying165 rfl HTZ.out.info ?_)
                  | (refine wpList_load_row_g rfl 165 (.tmp 15) rfl w4.heap.size rfl 165 ts (0, 0) _ ((HC7.out.block _ (lt_of_block HQ.out)).trans HQ.out) Try.underlying165 rfl HTZ.out.info ?_))
                exact ⟨⟨t + 1, by omega, by go_num, Lib.hid (HX.out _ HC8.out)⟩, by simp [intOf]; omega⟩
          · have hg : 1 ≤ z2 ∧ z2 ≤ two s.k := by omega
            have HTRY := Lib.hid (mtry_ok HL3.out.ms.c HL3.out.ms.k20 z2 hg.1 hg.2)
            have dz : decide (z2 < 1) = false := decide_eq_false (by omega)
            have dz2 : decide (two s.k < z2) = false := decide_eq_false (by omega)
            have HG := Lib.hid hg
            clear hbad hg
            go_upto_region 18 with (first
              | (go_at_call 104; refine HTRY.out.mono ?_; rintro e w4 ⟨ts, rfl, hty, hb⟩; have HTY := Lib.hid hty; have HL4 := Lib.hid (HL3.out.keep hb); clear hty hb o2)
              | (refine wpList_alloc_try rfl rfl ?_; intro zs hzs; have HZS := Lib.hid hzs; clear hzs)
              | (refine wpList_store_row rfl 165 (.tmp 15) (.tmp 69) rfl w4.heap.size ts rfl rfl 165 _ (obj_new w4 _) HTY.out.info (by rw [HTY.out.size, HZS.out]) HTY.out.one ?_))
            generalize hX : World.setRow _ _ _ = w5
            obtain ⟨hq, hb5⟩ := stored_new hX
            have HQ := Lib.hid hq
            have HL5 := Lib.hid (HL4.out.keep hb5)
            have o2 : w5.cell? ⟨ob, 2, none⟩ = some (.int .i64 z2) := (obj_cell (lp_ob HL5.out) 2).trans rfl
            clear hX hq hb5
            go_upto_region 23 with (first
              | (go_at_call 105; refine (tdone (show ts[2]? = some (.int .i64 1) from HTY.out.c2) _).mono ?_; rintro e w7 ⟨rfl, hb⟩; have HL7 := Lib.hid (HL5.out.keep hb); have HQ7 := Lib.hid ((hb.block _ (lt_of_block HQ.out)).trans HQ.out); clear hb o2)
              | (refine wpList_load_row_g rfl 165 (.tmp 15) rfl w4.heap.size rfl 165 ts (0, 0) _ HQ.out Try.underlying165 rfl HTY.out.info ?_))
            have o2 : w7.cell? ⟨ob, 2, none⟩ = some (.int .i64 z2) := (obj_cell (lp_ob HL7.out) 2).trans rfl
            have HLm : Hid (L.length + 1 ≤ maxLen ∧ (L.length + 1) * 320 ≤ 140737488355328 ∧ (L.length + 1) * 56 ≤ 140737488355328) := Lib.hid (by have := HB.out; unfold maxLen; omega)
            obtain ⟨i1, zz1, ji, jz0, jz1, jz2, jz3⟩ := info_parts3 ty_info
            obtain ⟨i2, zz2, ki, kz0, kz1, kz2, kz3⟩ := info_parts3 rt_info
            have hts : ts.size = 40 := HTY.out.size
            have HT1 : Hid (∀ x ∈ ts.toList, x.oneCell' = true) := Lib.hid fun x hx => (Array.all_eq_true_iff_forall_mem.1 HTY.out.one) x (by simpa using hx)
            have HTL : Hid (ts.toList.length = 1 * 40) := Lib.hid (by simpa using hts)
            have HTI := Lib.hid HTY.out.info
            have hfa : ∀ w : World, (Instr.fieldAt 162 (.pointer (some ⟨ob, 0, none⟩)) 2).run Try.prog w = .ok (.pointer (some ⟨ob, 2, none⟩)) w := fun w => by kernel_rfl
            have hl1 : ∀ w : World, w.cell? ⟨ob, 2, none⟩ = some (.int .i64 z2) → (Instr.loadAt 3 (.pointer (some ⟨ob, 2, none⟩))).run Try.prog w = .ok (.int .i64 z2) w := fun w hw => by go_simp
            have hl2 : ∀ w : World, w.heap[w4.heap.size]? = some (.cells ts 165 (0, 0)) → (Instr.loadAt 165 (.pointer (some ⟨w4.heap.size, 0, none⟩))).run Try.prog w = .ok (.agg ts) w := fun w hw => run_loadAt_row w _ _ _ ts (0, 0) _ hw Try.underlying165 rfl HTI.out
            have hbd : ∀ w : World, (Instr.build 169 #[(0, .int .i64 z2)]).run Try.prog w = .ok (.agg #[.int .i64 z2, .int .i64 0, .int .i64 0, .int .i64 0, .int .i64 0, .int .i64 0, .int .i64 0]) w := fun w => by kernel_rfl
            have hb1 := ty_lit ts hts
            have hb2 := rt_lit #[.int .i64 z2, .int .i64 0, .int .i64 0, .int .i64 0, .int .i64 0, .int .i64 0, .int .i64 0] rfl
            have HTBl : Hid (∀ g, (Value.slice pl L.length cl).ownBlock = some g → g < w4.heap.size) := Lib.hid fun g hg => ((Sr.l HL4.out).lt g hg).2
            have HT2 : Hid (∀ x ∈ (#[.int .i64 z2, .int .i64 0, .int .i64 0, .int .i64 0, .int .i64 0, .int .i64 0, .int .i64 0] : Array Value).toList, x.oneCell' = true) := Lib.hid fun x hx => by simp at hx; rcases hx with rfl | rfl <;> rfl
            have kq : w7.drew.heap[w4.heap.size]? = some (.cells ts 165 (0, 0)) := HQ7.out
            have ko : w7.drew.cell? ⟨ob, 2, none⟩ = some (.int .i64 z2) := o2
            have HS : Hid (Sr W w7.drew s mb (s10 (two s.k) c (.slice pg gv.length cg) sn (.slice none 0 0)) c sn sh gv sw _ (.slice pi gv.length ci) (idsN sh.length gv.length) (.slice pg gv.length cg) gv ob #[.int .i64 0, .int .i64 z1, .int .i64 z2] (.slice pl L.length cl) L.length (tsOf L) (.slice pw L.length cw) L.length (rfOf L)) := Lib.hid (HL7.out.keep (Below.drew (Below.refl _ _)))
            have HX : Hid (ClOk s.p sh.length gv.length ⟨ts, tr0 z2, z2, 0, 0, 0, 0, 0, 0⟩) := Lib.hid (cl_new HTY.out HG.out.1 (by have := HG.out; have := H64.out; omega))
            have HM := Lib.hid (HI.out.snoc HX.out (Nat.le_refl _) (show (1000 * t : Int) ≤ 1000 * t + 500 by omega))
            have HFIN : Hid (∀ y u1 u2, Sr W y s mb (s10 (two s.k) c (.slice pg gv.length cg) sn (.slice none 0 0)) c sn sh gv sw st (.slice pi gv.length ci) (idsN sh.length gv.length) (.slice pg gv.length cg) gv ob #[.int .i64 0, .int .i64 z1, .int .i64 z2] u1 (L.length + 1) (tsOf L ++ ts.toList) u2 (L.length + 1) (rfOf L ++ (#[.int .i64 z2, .int .i64 0, .int .i64 0, .int .i64 0, .int .i64 0, .int .i64 0, .int .i64 0] : Array Value).toList) → Hid (MTs id W y s mb (1000 * t + 500) (t + 1) (.slice pi gv.length ci) u1 u2)) := Lib.hid fun y u1 u2 h => Lib.hid ⟨c, sn, sh, gv, L ++ [⟨ts, tr0 z2, z2, 0, 0, 0, 0, 0, 0⟩], sw, st, .slice pg gv.length cg, by
              have h2 := Lv.le h (RP.mono Rest.boxLe)
              rw [rt_rt2, tsOf_snoc, rfOf_snoc, List.length_append, List.length_singleton]
              exact h2, HM.out⟩
            have HQ := Lib.hid kq
            generalize htb : w4.heap.size = tb at *
            clear htb hts o2 HL7
            refine wp_frame (fun a0 => a0.eval (.tmp 11) = .slice pl L.length cl ∧ a0.eval (.tmp 12) = .slice pw L.length cw ∧ a0.eval (.tmp 14) = .pointer (some ⟨ob, 0, none⟩) ∧ a0.eval (.tmp 15) = .pointer (some ⟨tb, 0, none⟩) ∧ a0.tmps.size = 278)
              (fun a0 a' y => ∃ u1 u2 n1 n2, (Sr W y s mb (s10 (two s.k) c (.slice pg gv.length cg) sn (.slice none 0 0)) c sn sh gv sw st (.slice pi gv.length ci) (idsN sh.length gv.length) (.slice pg gv.length cg) gv ob #[.int .i64 0, .int .i64 z1, .int .i64 z2] u1 (L.length + 1) (tsOf L ++ ts.toList) u2 (L.length + 1) (rfOf L ++ (#[.int .i64 z2, .int .i64 0, .int .i64 0, .int .i64 0, .int .i64 0, .int .i64 0, .int .i64 0] : Array Value).toList)) ∧ a' = ((((((((((((a0.put (some 99) (.slice pl L.length cl)).put (some 103) (.slice pw L.length cw)).put (some 104) (.pointer (some ⟨ob, 2, none⟩))).put (some 105) (.int .i64 z2)).put (some 106) (.agg #[.int .i64 z2, .int .i64 0, .int .i64 0, .int .i64 0, .int .i64 0, .int .i64 0, .int .i64 0])).put (some 100) (.agg ts)).put (some 101) (.slice (some ⟨n1, 0, none⟩) 1 1)).put (some 102) u1).put (some 107) (.slice (some ⟨n2, 0, none⟩) 1 1)).put (some 108) u2).put (some 11) u1).put (some 12) u2)) ⟨rfl, rfl, rfl, rfl, rfl⟩ (fun a0 hE => ?_) (fun a' y hR => ?_)
            · obtain ⟨e11, e12, e14, e15, hsz⟩ := hE
              clear HFIN HM HX HI HB HR1 HR2 HG H64 HTRY HQ7 HSB HSK HC HTY
              refine wp_region_held_drew (S := fun w' => w'.heap[tb]? = some (.cells ts 165 (0, 0)) ∧ w'.cell? ⟨ob, 2, none⟩ = some (.int .i64 z2)) (by kernel_rfl) ⟨kq, ko⟩ (fun hHeld => ?_)
              generalize w7.drew = y0 at *
              refine take_at 0 (some 99) (.slice pl L.length cl) rfl rfl (by kernel_rfl) (by kernel_rfl) (by kernel_rfl) (fun _ _ _ h => nomatch h.1) (yI_move rfl (.tmp 11) rfl e11) (by assumption) ?_
              refine take_at 4 (some 103) (.slice pw L.length cw) rfl rfl (by kernel_rfl) (by kernel_rfl) (by kernel_rfl) (fun _ _ _ h => nomatch h.1) (yI_move rfl (.tmp 12) rfl (by simp (disch := first | decide | (simp only [put_size, hsz]; decide)) only [eval_ne, eval_eq, e11, e12, e14, e15])) (by assumption) ?_
              refine take_at 5 (some 104) (.pointer (some ⟨ob, 2, none⟩)) rfl rfl (by kernel_rfl) (by kernel_rfl) (by kernel_rfl) (fun _ _ _ h => nomatch h.1) (yI_field rfl 162 (.tmp 14) 2 rfl (by simp (disch := first | decide | (simp only [put_size, hsz]; decide)) only [eval_ne, eval_eq, e11, e12, e14, e15]) hfa) (by assumption) ?_
              refine take_at 6 (some 105) (.int .i64 z2) rfl rfl (by kernel_rfl) (by kernel_rfl) (by kernel_rfl) (fun _ _ _ h => nomatch h.1) (yI_load rfl 3 (.tmp 104) rfl (by simp (disch := first | decide | (simp only [put_size, hsz]; decide)) only [eval_ne, eval_eq, e11, e12, e14, e15]) fun w hw => hl1 w hw.2) (by assumption) ?_
              refine take_at 7 (some 106) (.agg #[.int .i64 z2, .int .i64 0, .int .i64 0, .int .i64 0, .int .i64 0, .int .i64 0, .int .i64 0]) rfl rfl (by kernel_rfl) (by kernel_rfl) (by kernel_rfl) (fun _ _ _ h => nomatch h.1) (yI_build1 rfl 169 0 (.tmp 105) rfl (by simp (disch := first | decide | (simp only [put_size, hsz]; decide)) only [eval_ne, eval_eq, e11, e12, e14, e15]) hbd) (by assumption) ?_
              refine take_at 1 (some 100) (.agg ts) rfl rfl (by kernel_rfl) (by kernel_rfl) (by kernel_rfl) (fun _ _ _ h => nomatch h.1) (yI_load rfl 165 (.tmp 15) rfl (by simp (disch := first | decide | (simp only [put_size, hsz]; decide)) only [eval_ne, eval_eq, e11, e12, e14, e15]) fun w hw => hl2 w hw.1) (by assumption) ?_
              clear hHeld kq ko
              refine wpAnyH_ready (rs := [2, 8]) (by kernel_rfl) (by simp) (AllReadyH.cons rfl (fun K hK => ?_) (AllReadyH.cons rfl (fun K hK => ?_) AllReadyH.nil))
              · skip
                refine step_slice1 rfl 159 165 (.tmp 100) rfl (ts) (.agg (ts)) (by simp (disch := first | decide | (simp only [put_size, hsz]; decide)) only [eval_ne, eval_eq, e11, e12, e14, e15]) (hb1 _) ?_
                intro n1 y1 hn hnew hb
                show K (Act.put _ (some 101) _) _
                have HN1 := Lib.hid hnew
                have HO1 : Hid (∀ g, Value.ownBlock (.slice pw L.length cw) = some g → g ≠ n1) := Lib.hid fun g hg => hn ▸ Nat.ne_of_lt ((Sr.w0 HS.out).lt g hg).2
                replace HS := Lib.hid (HS.out.keep hb)
                replace HQ := Lib.hid ((hb.block _ (lt_of_block HQ.out)).trans HQ.out)
                clear hb hn hnew
                refine hK.out _ _ ⟨HQ.out, (obj_cell HS.out.o 2).trans rfl⟩ (fun hHeld => ?_)
                clear hK K
                refine wpAnyH_ready (rs := [3, 8]) (by kernel_rfl) (by simp) (AllReadyH.cons rfl (fun K hK => ?_) (AllReadyH.cons rfl (fun K hK => ?_) AllReadyH.nil))
                · skip
                  refine step_append_row rfl (.tmp 99) (.tmp 101) 159 rfl 165 i1 zz1 40 320 Try.underlying159 ji jz0 jz2 jz3 jz1 (by decide) (.slice pl L.length cl) L.length (tsOf L) (by simp (disch := first | decide | (simp only [put_size, hsz]; decide)) only [eval_ne, eval_eq, e11, e12, e14, e15]) (Sr.l0 HS.out) ⟨n1, 0, none⟩ 1 1 ts.toList (by simp (disch := first | decide | (simp only [put_size, hsz]; decide)) only [eval_ne, eval_eq, e11, e12, e14, e15]) HTL.out (newsB HN1.out) HT1.out HLm.out.1 HLm.out.2.1 ?_
                  intro u1 y2 hown hf hv
                  show K (Act.put _ (some 102) _) _
                  replace HQ := Lib.hid (hf.obj HQ.out fun e => Nat.lt_irrefl _ (HTBl.out _ e))
                  replace HS := Lib.hid (HS.out.appL hown hf hv)
                  clear hown hf hv
                  refine hK.out _ _ ⟨HQ.out, (obj_cell HS.out.o 2).trans rfl⟩ (fun hHeld => ?_)
                  clear hK K
                  refine wpAnyH_ready (rs := [8]) (by kernel_rfl) (by simp) (AllReadyH.cons rfl (fun K hK => ?_) AllReadyH.nil)
                  · skip
                    refine step_slice1 rfl 160 169 (.tmp 106) rfl (#[.int .i64 z2, .int .i64 0, .int .i64 0, .int .i64 0, .int .i64 0, .int .i64 0, .int .i64 0]) (.agg (#[.int .i64 z2, .int .i64 0, .int .i64 0, .int .i64 0, .int .i64 0, .int .i64 0, .int .i64 0])) (by simp (disch := first | decide | (simp only [put_size, hsz]; decide)) only [eval_ne, eval_eq, e11, e12, e14, e15]) (hb2 _) ?_
                    intro n2 y3 hn hnew hb
                    show K (Act.put _ (some 107) _) _
                    have HN2 := Lib.hid hnew
                    have HO2 : Hid (∀ g, Value.ownBlock (u1) = some g → g ≠ n2) := Lib.hid fun g hg => hn ▸ Nat.ne_of_lt ((Sr.l0 HS.out).lt g hg).2
                    replace HS := Lib.hid (HS.out.keep hb)
                    replace HQ := Lib.hid ((hb.block _ (lt_of_block HQ.out)).trans HQ.out)
                    clear hb hn hnew
                    refine hK.out _ _ ⟨HQ.out, (obj_cell HS.out.o 2).trans rfl⟩ (fun hHeld => ?_)
                    clear hK K
                    refine wpAnyH_ready (rs := [9]) (by kernel_rfl) (by simp) (AllReadyH.cons rfl (fun K hK => ?_) AllReadyH.nil)
                    · skip
                      refine step_append_row rfl (.tmp 103) (.tmp 107) 160 rfl 169 i2 zz2 7 56 Try.underlying160 ki kz0 kz2 kz3 kz1 (by decide) (.slice pw L.length cw) L.length (rfOf L) (by simp (disch := first | decide | (simp only [put_size, hsz]; decide)) only [eval_ne, eval_eq, e11, e12, e14, e15]) (Sr.w0 HS.out) ⟨n2, 0, none⟩ 1 1 (#[.int .i64 z2, .int .i64 0, .int .i64 0, .int .i64 0, .int .i64 0, .int .i64 0, .int .i64 0]).toList (by simp (disch := first | decide | (simp only [put_size, hsz]; decide)) only [eval_ne, eval_eq, e11, e12, e14, e15]) rfl (newsB HN2.out) HT2.out HLm.out.1 HLm.out.2.2 ?_
                      intro u2 y4 hown hf hv
                      show K (Act.put _ (some 108) _) _
                      replace HQ := Lib.hid (hf.obj HQ.out (row_ne (Sr.w0 HS.out) HQ.out (by decide)))
                      replace HS := Lib.hid (HS.out.appW hown hf hv)
                      clear hown hf hv
                      refine hK.out _ _ ⟨HQ.out, (obj_cell HS.out.o 2).trans rfl⟩ (fun hHeld => ?_)
                      clear hK K
                      refine take_at 10 (some 11) (u1) rfl rfl (by kernel_rfl) (by kernel_rfl) (by kernel_rfl) (fun _ _ _ h => nomatch h.1) (yI_assign rfl (.tmp 102) rfl (by simp (disch := first | decide | (simp only [put_size, hsz]; decide)) only [eval_ne, eval_eq, e11, e12, e14, e15])) (by assumption) ?_
                      refine take_at 11 (some 12) (u2) rfl rfl (by kernel_rfl) (by kernel_rfl) (by kernel_rfl) (fun _ _ _ h => nomatch h.1) (yI_assign rfl (.tmp 108) rfl (by simp (disch := first | decide | (simp only [put_size, hsz]; decide)) only [eval_ne, eval_eq, e11, e12, e14, e15])) (by assumption) ?_
                      refine wpAnyH_done (by kernel_rfl) ⟨rfl, _, _, n1, n2, HS.out, ?_⟩ _
                      rfl
                · skip
                  refine step_slice1 rfl 160 169 (.tmp 106) rfl (#[.int .i64 z2, .int .i64 0, .int .i64 0, .int .i64 0, .int .i64 0, .int .i64 0, .int .i64 0]) (.agg (#[.int .i64 z2, .int .i64 0, .int .i64 0, .int .i64 0, .int .i64 0, .int .i64 0, .int .i64 0])) (by simp (disch := first | decide | (simp only [put_size, hsz]; decide)) only [eval_ne, eval_eq, e11, e12, e14, e15]) (hb2 _) ?_
                  intro n2 y2 hn hnew hb
                  show K (Act.put _ (some 107) _) _
                  have HN2 := Lib.hid hnew
                  have HO2 : Hid (∀ g, Value.ownBlock (.slice pl L.length cl) = some g → g ≠ n2) := Lib.hid fun g hg => hn ▸ Nat.ne_of_lt ((Sr.l0 HS.out).lt g hg).2
                  replace HN1 := Lib.hid ((hb.block _ (lt_of_block HN1.out)).trans HN1.out)
                  replace HS := Lib.hid (HS.out.keep hb)
                  replace HQ := Lib.hid ((hb.block _ (lt_of_block HQ.out)).trans HQ.out)
                  clear hb hn hnew
                  refine hK.out _ _ ⟨HQ.out, (obj_cell HS.out.o 2).trans rfl⟩ (fun hHeld => ?_)
                  clear hK K
                  refine wpAnyH_ready (rs := [3]) (by kernel_rfl) (by simp) (AllReadyH.cons rfl (fun K hK => ?_) AllReadyH.nil)
                  · skip
                    refine step_append_row rfl (.tmp 99) (.tmp 101) 159 rfl 165 i1 zz1 40 320 Try.underlying159 ji jz0 jz2 jz3 jz1 (by decide) (.slice pl L.length cl) L.length (tsOf L) (by simp (disch := first | decide | (simp only [put_size, hsz]; decide)) only [eval_ne, eval_eq, e11, e12, e14, e15]) (Sr.l0 HS.out) ⟨n1, 0, none⟩ 1 1 ts.toList (by simp (disch := first | decide | (simp only [put_size, hsz]; decide)) only [eval_ne, eval_eq, e11, e12, e14, e15]) HTL.out (newsB HN1.out) HT1.out HLm.out.1 HLm.out.2.1 ?_
                    intro u1 y3 hown hf hv
                    show K (Act.put _ (some 102) _) _
                    replace HN2 := Lib.hid (hf.obj HN2.out fun e => HO2.out _ e rfl)
                    replace HQ := Lib.hid (hf.obj HQ.out fun e => Nat.lt_irrefl _ (HTBl.out _ e))
                    replace HS := Lib.hid (HS.out.appL hown hf hv)
                    clear hown hf hv
                    refine hK.out _ _ ⟨HQ.out, (obj_cell HS.out.o 2).trans rfl⟩ (fun hHeld => ?_)
                    clear hK K
                    refine wpAnyH_ready (rs := [9]) (by kernel_rfl) (by simp) (AllReadyH.cons rfl (fun K hK => ?_) AllReadyH.nil)
                    · skip
                      refine step_append_row rfl (.tmp 103) (.tmp 107) 160 rfl 169 i2 zz2 7 56 Try.underlying160 ki kz0 kz2 kz3 kz1 (by decide) (.slice pw L.length cw) L.length (rfOf L) (by simp (disch := first | decide | (simp only [put_size, hsz]; decide)) only [eval_ne, eval_eq, e11, e12, e14, e15]) (Sr.w0 HS.out) ⟨n2, 0, none⟩ 1 1 (#[.int .i64 z2, .int .i64 0, .int .i64 0, .int .i64 0, .int .i64 0, .int .i64 0, .int .i64 0]).toList (by simp (disch := first | decide | (simp only [put_size, hsz]; decide)) only [eval_ne, eval_eq, e11, e12, e14, e15]) rfl (newsB HN2.out) HT2.out HLm.out.1 HLm.out.2.2 ?_
                      intro u2 y4 hown hf hv
                      show K (Act.put _ (some 108) _) _
                      replace HQ := Lib.hid (hf.obj HQ.out (row_ne (Sr.w0 HS.out) HQ.out (by decide)))
                      replace HS := Lib.hid (HS.out.appW hown hf hv)
                      clear hown hf hv
                      refine hK.out _ _ ⟨HQ.out, (obj_cell HS.out.o 2).trans rfl⟩ (fun hHeld => ?_)
                      clear hK K
                      refine take_at 10 (some 11) (u1) rfl rfl (by kernel_rfl) (by kernel_rfl) (by kernel_rfl) (fun _ _ _ h => nomatch h.1) (yI_assign rfl (.tmp 102) rfl (by simp (disch := first | decide | (simp only [put_size, hsz]; decide)) only [eval_ne, eval_eq, e11, e12, e14, e15])) (by assumption) ?_
                      refine take_at 11 (some 12) (u2) rfl rfl (by kernel_rfl) (by kernel_rfl) (by kernel_rfl) (fun _ _ _ h => nomatch h.1) (yI_assign rfl (.tmp 108) rfl (by simp (disch := first | decide | (simp only [put_size, hsz]; decide)) only [eval_ne, eval_eq, e11, e12, e14, e15])) (by assumption) ?_
                      refine wpAnyH_done (by kernel_rfl) ⟨rfl, _, _, n1, n2, HS.out, ?_⟩ _
                      rw [put_comm _ (i := 107) (j := 102) (by decide)]
                      try rfl
              · skip
                refine step_slice1 rfl 160 169 (.tmp 106) rfl (#[.int .i64 z2, .int .i64 0, .int .i64 0, .int .i64 0, .int .i64 0, .int .i64 0, .int .i64 0]) (.agg (#[.int .i64 z2, .int .i64 0, .int .i64 0, .int .i64 0, .int .i64 0, .int .i64 0, .int .i64 0])) (by simp (disch := first | decide | (simp only [put_size, hsz]; decide)) only [eval_ne, eval_eq, e11, e12, e14, e15]) (hb2 _) ?_
                intro n2 y1 hn hnew hb
                show K (Act.put _ (some 107) _) _
                have HN2 := Lib.hid hnew
                have HO2 : Hid (∀ g, Value.ownBlock (.slice pl L.length cl) = some g → g ≠ n2) := Lib.hid fun g hg => hn ▸ Nat.ne_of_lt ((Sr.l0 HS.out).lt g hg).2
                replace HS := Lib.hid (HS.out.keep hb)
                replace HQ := Lib.hid ((hb.block _ (lt_of_block HQ.out)).trans HQ.out)
                clear hb hn hnew
                refine hK.out _ _ ⟨HQ.out, (obj_cell HS.out.o 2).trans rfl⟩ (fun hHeld => ?_)
                clear hK K
                refine wpAnyH_ready (rs := [2]) (by kernel_rfl) (by simp) (AllReadyH.cons rfl (fun K hK => ?_) AllReadyH.nil)
                · skip
                  refine step_slice1 rfl 159 165 (.tmp 100) rfl (ts) (.agg (ts)) (by simp (disch := first | decide | (simp only [put_size, hsz]; decide)) only [eval_ne, eval_eq, e11, e12, e14, e15]) (hb1 _) ?_
                  intro n1 y2 hn hnew hb
                  show K (Act.put _ (some 101) _) _
                  have HN1 := Lib.hid hnew
                  have HO1 : Hid (∀ g, Value.ownBlock (.slice pw L.length cw) = some g → g ≠ n1) := Lib.hid fun g hg => hn ▸ Nat.ne_of_lt ((Sr.w0 HS.out).lt g hg).2
                  replace HN2 := Lib.hid ((hb.block _ (lt_of_block HN2.out)).trans HN2.out)
                  replace HS := Lib.hid (HS.out.keep hb)
                  replace HQ := Lib.hid ((hb.block _ (lt_of_block HQ.out)).trans HQ.out)
                  clear hb hn hnew
                  refine hK.out _ _ ⟨HQ.out, (obj_cell HS.out.o 2).trans rfl⟩ (fun hHeld => ?_)
                  clear hK K
                  refine wpAnyH_ready (rs := [3]) (by kernel_rfl) (by simp) (AllReadyH.cons rfl (fun K hK => ?_) AllReadyH.nil)
                  · skip
                    refine step_append_row rfl (.tmp 99) (.tmp 101) 159 rfl 165 i1 zz1 40 320 Try.underlying159 ji jz0 jz2 jz3 jz1 (by decide) (.slice pl L.length cl) L.length (tsOf L) (by simp (disch := first | decide | (simp only [put_size, hsz]; decide)) only [eval_ne, eval_eq, e11, e12, e14, e15]) (Sr.l0 HS.out) ⟨n1, 0, none⟩ 1 1 ts.toList (by simp (disch := first | decide | (simp only [put_size, hsz]; decide)) only [eval_ne, eval_eq, e11, e12, e14, e15]) HTL.out (newsB HN1.out) HT1.out HLm.out.1 HLm.out.2.1 ?_
                    intro u1 y3 hown hf hv
                    show K (Act.put _ (some 102) _) _
                    replace HN2 := Lib.hid (hf.obj HN2.out fun e => HO2.out _ e rfl)
                    replace HQ := Lib.hid (hf.obj HQ.out fun e => Nat.lt_irrefl _ (HTBl.out _ e))
                    replace HS := Lib.hid (HS.out.appL hown hf hv)
                    clear hown hf hv
                    refine hK.out _ _ ⟨HQ.out, (obj_cell HS.out.o 2).trans rfl⟩ (fun hHeld => ?_)
                    clear hK K
                    refine wpAnyH_ready (rs := [9]) (by kernel_rfl) (by simp) (AllReadyH.cons rfl (fun K hK => ?_) AllReadyH.nil)
                    · skip
                      refine step_append_row rfl (.tmp 103) (.tmp 107) 160 rfl 169 i2 zz2 7 56 Try.underlying160 ki kz0 kz2 kz3 kz1 (by decide) (.slice pw L.length cw) L.length (rfOf L) (by simp (disch := first | decide | (simp only [put_size, hsz]; decide)) only [eval_ne, eval_eq, e11, e12, e14, e15]) (Sr.w0 HS.out) ⟨n2, 0, none⟩ 1 1 (#[.int .i64 z2, .int .i64 0, .int .i64 0, .int .i64 0, .int .i64 0, .int .i64 0, .int .i64 0]).toList (by simp (disch := first | decide | (simp only [put_size, hsz]; decide)) only [eval_ne, eval_eq, e11, e12, e14, e15]) rfl (newsB HN2.out) HT2.out HLm.out.1 HLm.out.2.2 ?_
                      intro u2 y4 hown hf hv
                      show K (Act.put _ (some 108) _) _
                      replace HQ := Lib.hid (hf.obj HQ.out (row_ne (Sr.w0 HS.out) HQ.out (by decide)))
                      replace HS := Lib.hid (HS.out.appW hown hf hv)
                      clear hown hf hv
                      refine hK.out _ _ ⟨HQ.out, (obj_cell HS.out.o 2).trans rfl⟩ (fun hHeld => ?_)
                      clear hK K
                      refine take_at 10 (some 11) (u1) rfl rfl (by kernel_rfl) (by kernel_rfl) (by kernel_rfl) (fun _ _ _ h => nomatch h.1) (yI_assign rfl (.tmp 102) rfl (by simp (disch := first | decide | (simp only [put_size, hsz]; decide)) only [eval_ne, eval_eq, e11, e12, e14, e15])) (by assumption) ?_
                      refine take_at 11 (some 12) (u2) rfl rfl (by kernel_rfl) (by kernel_rfl) (by kernel_rfl) (fun _ _ _ h => nomatch h.1) (yI_assign rfl (.tmp 108) rfl (by simp (disch := first | decide | (simp only [put_size, hsz]; decide)) only [eval_ne, eval_eq, e11, e12, e14, e15])) (by assumption) ?_
                      refine wpAnyH_done (by kernel_rfl) ⟨rfl, _, _, n1, n2, HS.out, ?_⟩ _
                      rw [put_comm _ (i := 107) (j := 101) (by decide)]
                      rw [put_comm _ (i := 107) (j := 102) (by decide)]
                      try rfl
            · obtain ⟨u1, u2, n1, n2, hSr, rfl⟩ := hR
              have HE := HFIN.out _ _ _ hSr
              clear hSr HS HQ HFIN
              simp only [Act.put, List.setIfInBounds_toArray, List.set_cons_zero, List.set_cons_succ]
              go_wp2_with fail
              go_meet
              exact HE
        by_cases e1 : z0 = 1
        · subst e1
          as_aux_lemma =>
          have o1 : w3.cell? ⟨ob, 1, none⟩ = some (.int .i64 z1) := (obj_cell (lp_ob HL3.out) 1).trans rfl
          have HX : Hid (MTs id W w3 s mb (1000 * (t + 1 : Nat)) (t + 1) (.slice pi gv.length ci) (.slice pl L.length cl) (.slice pw L.length cw)) := Lib.hid ⟨c, sn, sh, gv, L, sw, st, _, HL3.out.le (RP.mono Rest.boxLe), HI.out.mono (by omega) (by omega)⟩
          by_cases hneg : z1 < 0
          · have dz : decide (z1 < 0) = true := decide_eq_true hneg
            as_aux_lemma =>
              go_wp2_with fail
              exact ⟨⟨t + 1, by omega, by go_num, HX⟩, by simp [intOf]; omega⟩
          obtain ⟨j, rfl⟩ : ∃ j : Nat, z1 = j := ⟨z1.toNat, by omega⟩
          by_cases hbig : L.length ≤ j
          · have dz : decide ((j : Int) < 0) = false := decide_eq_false (by omega)
            have dz2 : decide ((L.length : Int) ≤ (j : Int)) = true := decide_eq_true (by omega)
            as_aux_lemma =>
              go_wp2_with fail
              exact ⟨⟨t + 1, by omega, by go_num, HX⟩, by simp [intOf]; omega⟩
          have hjl : j < L.length := by omega
          have dz : decide ((j : Int) < 0) = false := decide_eq_false (by omega)
          have dz2 : decide ((L.length : Int) ≤ (j : Int)) = false := decide_eq_false (by omega)
          have ij0 : (0 : Int) ≤ (j : Int) := by omega
          have ij1 : (j : Int) < (L.length : Int) := by omega
          clear HX hneg hbig
          obtain ⟨x, hx⟩ : ∃ x, L[j]? = some x := ⟨L[j], List.getElem?_eq_getElem hjl⟩
          have HXJ := Lib.hid hx
          have HCLO := Lib.hid (HI.out.cl x (List.mem_of_getElem? hx))
          clear hx
          obtain ⟨bl, hpl⟩ : ∃ bl, pl = some ⟨bl, 0, none⟩ := by
            obtain ⟨g, cap, he⟩ := row_slice2 (rt_lb HL3.out) (by omega)
            simp only [Value.slice.injEq] at he
            exact ⟨g, he.1⟩
          obtain ⟨bw, hpw⟩ : ∃ bw, pw = some ⟨bw, 0, none⟩ := by
            obtain ⟨g, cap, he⟩ := row_slice2 (rt_wb HL3.out) (by omega)
            simp only [Value.slice.injEq] at he
            exact ⟨g, he.1⟩
          subst hpl hpw
          obtain ⟨c2, sn2, sw2, t2, g2, d2, h2, l2, a2, o2, hst, hrel, hall⟩ := rstep_all (C := fun w => LngAt w (.slice pg gv.length cg) gv) HCLO.out.rel ⟨w3, lp_lng HL3.out⟩ (fun w hw => hw) (N := two s.k) (c := c) (sn := sn) (sw := sw) (ps := none) (ns := 0) (cs := 0) (by have := H64.out; omega) ⟨HCLO.out.n1, by have := HCLO.out.n2; omega⟩ (by have := HB.out; omega) (by have := HB.out; omega)
          have HREL := Lib.hid hrel
          have HALL := Lib.hid hall
          have HSF := Lib.hid (step_facts hst HCLO.out.rel ⟨HCLO.out.n1, HCLO.out.n2⟩ HL3.out.swc)
          have HTS : Hid (∀ y ∈ L, y.ts.toList.length = 40) := Lib.hid fun y hy => by simpa using (HI.out.cl y hy).ty.size
          have HRF : Hid (∀ y ∈ L, y.ref.toList.length = 7) := Lib.hid fun y hy => rfl
          have HRNG : Hid (w3.rangeAt bl (j * 40) x.ts.toList) := Lib.hid (row_range (f := fun y : Cl => y.ts.toList) (rt_lb HL3.out) HTS.out HXJ.out)
          have hxs : x.ts.toList.length = 40 := HTS.out x (List.mem_of_getElem? HXJ.out)
          have HTIX : Hid ((Try.prog.info? 165).map (·.size) = some x.ts.toList.length) := Lib.hid (by rw [hxs]; kernel_rfl)
          have HSTEP : Hid (Calls Try.prog 107 #[.agg x.ts] w3 fun e w' => ∃ st' ts2, st ≤ st' ∧ st' ≤ st + 1 ∧ e = .returned (.tuple #[.agg ts2, .nilIface]) ∧ TyF ts2 s.p t2 ∧ Lv (RP ((RT W.heap.size (.slice (some ⟨bl, 0, none⟩) L.length cl) (.slice (some ⟨bw, 0, none⟩) L.length cw) L).box W.heap.size ob #[.int .i64 1, .int .i64 (j : Int), .int .i64 z2] 162) W.heap.size mb (s10 (two s.k) c (.slice pg gv.length cg) sn (.slice none 0 0)) (.slice pi gv.length ci) (idsN sh.length gv.length) (.slice pg gv.length cg) gv (.slice none 0 0) []) W w' s c2 sn2 sh gv sw2 st') := Lib.hid (by
            refine (tstep_any HCLO.out.ty HL3.out.ms (RelT.ok HCLO.out.rel rfl ⟨HCLO.out.n1, by have := HCLO.out.n2; omega⟩ (by have := HB.out; omega) HL3.out.g32 HCLO.out.l1 HCLO.out.l2) HL3.out.cur HL3.out.cch HB.out.2.2.1 (by have := HB.out; omega)).mono ?_
            rintro e w' ⟨st', b1, b2, hd⟩
            rw [hst] at hd
            obtain ⟨ts2, rfl, hty, hms⟩ := hd
            exact ⟨st', ts2, b1, b2, rfl, hty, hms, HL3.out.n, HL3.out.cur, HL3.out.cch, HL3.out.f, by have := HSF.out; have := HL3.out.c1; omega, HSF.out.1⟩)
          clear hst hrel hall
          go_upto_region 27 with (first
            | (refine wpList_load_mid rfl 165 (.tmp 125) rfl bl (j * 40) rfl x.ts.toList _ HRNG.out Try.underlying165 rfl HTIX.out ?_; rw [Array.toArray_toList])
            | (go_at_call 107; refine HSTEP.out.mono ?_; rintro e w4 ⟨st', ts2, b1, b2, rfl, hty, hl⟩; have HTY := Lib.hid hty; have HL4 := Lib.hid hl; have HST := Lib.hid (And.intro b1 b2); clear hty hl b1 b2)
            | (refine wpList_alloc_try rfl rfl ?_; intro zs hzs; have HZS := Lib.hid hzs; clear hzs)
            | (refine wpList_store_row rfl 165 (.tmp 17) (.tmp 128) rfl w4.heap.size ts2 rfl rfl 165 _ (obj_new w4 _) HTY.out.info (by rw [HTY.out.size, HZS.out]) HTY.out.one ?_))
          generalize hX : World.setRow _ _ _ = w5
          obtain ⟨hq, hb5⟩ := stored_new hX
          have HQ := Lib.hid hq
          have HL5 := Lib.hid (HL4.out.keep hb5)
          clear hX hq hb5
          have hn17 : bl < w4.heap.size := row_lt (rt_lb HL4.out) (g := bl) (by simp [Value.ownBlock])
          have hmb5 : mb < w5.heap.size := lt_of_block (lp_box HL5.out)
          have hbw5 : bw < w5.heap.size := row_lt (rt_wb HL5.out) (g := bw) (by simp [Value.ownBlock])
          generalize w4.heap.size = n17 at *
          have HN19 : Hid (∀ w : World, Below w5.heap.size w5 w → (Instr.loadAt 125 (.pointer (some ⟨mb, 0, none⟩))).run Try.prog w = .ok (.agg (s10 (two s.k) c (.slice pg gv.length cg) sn (.slice none 0 0))) w) := Lib.hid fun w hw => run_loadAt_row w _ _ _ _ (0, 0) _ (lp_box (HL5.out.keep hw)) Try.underlying125 rfl (s10_info _ _ _ _ _)
          have hl3 : ∀ w : World, Below w5.heap.size w5 w → (Instr.loadAt 3 (.pointer (some ⟨ob, 1, none⟩))).run Try.prog w = .ok (.int .i64 (j : Int)) w := fun w hw => by
            have hc : w.cell? ⟨ob, 1, none⟩ = some (.int .i64 (j : Int)) := (obj_cell (lp_ob (HL5.out.keep hw)) 1).trans rfl
            clear hw
            go_simp
          have HL35 : Hid (∀ w : World, Below w5.heap.size w5 w → (Instr.loadAt 169 (.pointer (some ⟨bw, j * 7, none⟩))).run Try.prog w = .ok (.agg x.ref) w) := Lib.hid fun w hw => run_loadAt_mid w bw (j * 7) _ x.ref.toList _ (row_range (f := fun y : Cl => y.ref.toList) (rt_wb (HL5.out.keep hw)) HRF.out HXJ.out) Try.underlying169 rfl (by kernel_rfl)
          have hia : ∀ w : World, (Instr.indexAt 160 (.slice (some ⟨bw, 0, none⟩) L.length cw) (.int .i64 (j : Int))).run Try.prog w = .ok (.pointer (some ⟨bw, j * 7, none⟩)) w := fun w => by go_simp
          have HCALL : Hid (∀ w, Below w5.heap.size w5 w → Calls Try.prog 108 #[.agg (s10 (two s.k) c (.slice pg gv.length cg) sn (.slice none 0 0)), .agg x.ref] w fun e w' => ∃ v, e = .returned v ∧ v = .tuple #[.agg (s10 (two s.k) c2 (.slice pg gv.length cg) sn2 (.slice none 0 0)), .agg (t10 x.n g2 d2 h2 l2 a2 o2), .int .i64 0] ∧ Below w.heap.size w w') := Lib.hid fun w hw => (HALL.out w (lp_lng (HL5.out.keep hw))).mono fun e w' ⟨h1, h2⟩ => ⟨_, h1, rfl, h2⟩
          refine wp_frame (fun a0 => a0.eval (.tmp 9) = .pointer (some ⟨mb, 0, none⟩) ∧ a0.eval (.tmp 12) = .slice (some ⟨bw, 0, none⟩) L.length cw ∧ a0.eval (.tmp 14) = .pointer (some ⟨ob, 0, none⟩) ∧ a0.tmps.size = 278)
            (fun a0 a' y => ∃ n19 n20, (Below w5.heap.size w5 y ∧ y.heap[n19]? = some (.cells (s10 (two s.k) c2 (.slice pg gv.length cg) sn2 (.slice none 0 0)) 125 (0, 0)) ∧ y.heap[n20]? = some (.cells (t10 x.n g2 d2 h2 l2 a2 o2) 169 (0, 0)) ∧ w5.heap.size ≤ n19 ∧ w5.heap.size ≤ n20) ∧ a' = ((((((((((((((a0.put (some 131) (.agg (s10 (two s.k) c (.slice pg gv.length cg) sn (.slice none 0 0)))).put (some 132) (.slice (some ⟨bw, 0, none⟩) L.length cw)).put (some 133) (.pointer (some ⟨ob, 1, none⟩))).put (some 134) (.int .i64 (j : Int))).put (some 135) (.pointer (some ⟨bw, j * 7, none⟩))).put (some 136) (.agg x.ref)).put (some 137) (.tuple #[.agg (s10 (two s.k) c2 (.slice pg gv.length cg) sn2 (.slice none 0 0)), .agg (t10 x.n g2 d2 h2 l2 a2 o2), .int .i64 0])).put (some 130) (.tuple #[.agg (s10 (two s.k) c2 (.slice pg gv.length cg) sn2 (.slice none 0 0)), .agg (t10 x.n g2 d2 h2 l2 a2 o2), .int .i64 0])).put (some 138) (.agg (s10 (two s.k) c2 (.slice pg gv.length cg) sn2 (.slice none 0 0)))).put (some 139) (.agg (t10 x.n g2 d2 h2 l2 a2 o2))).put (some 140) (.int .i64 0)).put (some 19) (.pointer (some ⟨n19, 0, none⟩))).put (some 20) (.pointer (some ⟨n20, 0, none⟩))).put (some 21) (.int .i64 0))) ⟨rfl, rfl, rfl, rfl⟩ (fun a0 hE => ?_) (fun a' y hR => ?_)
          · obtain ⟨e9, e12, e14, hsz⟩ := hE
            exact mt_r27 e9 e12 e14 hsz HN19 hl3 HL35 hia HCALL
          obtain ⟨n19, n20, ⟨hb6, hq19, hq20, hg19, hg20⟩, rfl⟩ := hR
          have HL6 := Lib.hid (HL5.out.keep hb6)
          have HQ6 := Lib.hid ((hb6.block _ (lt_of_block HQ.out)).trans HQ.out)
          have HQ19 := Lib.hid hq19
          have HQ20 := Lib.hid hq20
          have HNE : Hid (n17 ≠ bl ∧ n19 ≠ mb ∧ n20 ≠ bw) := Lib.hid ⟨by omega, by omega, by omega⟩
          clear HN19 hl3 HL35 hia HCALL hb6 hq19 hq20 hg19 hg20 HL5 HQ hn17 hmb5 hbw5 HL4 HL3 HALL HRNG HSTEP HTIX
          simp only [Act.put, List.setIfInBounds_toArray, List.set_cons_zero, List.set_cons_succ]
          go_upto_region 30 with (go_at_call 27; refine (isN_nil 0).mono ?_; rintro e yy ⟨rfl, rfl⟩)
          have hx40 : ts2.toList.length = 40 := by simpa using HTY.out.size
          have HX40 := Lib.hid hx40
          clear hx40
          refine wp_frame (fun a0 => a0.eval (.tmp 9) = .pointer (some ⟨mb, 0, none⟩) ∧ a0.eval (.tmp 11) = .slice (some ⟨bl, 0, none⟩) L.length cl ∧ a0.eval (.tmp 12) = .slice (some ⟨bw, 0, none⟩) L.length cw ∧ a0.eval (.tmp 14) = .pointer (some ⟨ob, 0, none⟩) ∧ a0.eval (.tmp 17) = .pointer (some ⟨n17, 0, none⟩) ∧ a0.eval (.tmp 19) = .pointer (some ⟨n19, 0, none⟩) ∧ a0.eval (.tmp 20) = .pointer (some ⟨n20, 0, none⟩) ∧ a0.tmps.size = 278)
            (fun a0 a' y => (Sr W y s mb (s10 (two s.k) c2 (.slice pg gv.length cg) sn2 (.slice none 0 0)) c2 sn2 sh gv sw2 st' (.slice pi gv.length ci) (idsN sh.length gv.length) (.slice pg gv.length cg) gv ob #[.int .i64 1, .int .i64 (j : Int), .int .i64 z2] (.slice (some ⟨bl, 0, none⟩) L.length cl) L.length (tsOf (L.set j (⟨ts2, t2, x.n, g2, d2, h2, l2, a2, o2⟩ : Cl))) (.slice (some ⟨bw, 0, none⟩) L.length cw) L.length (rfOf (L.set j (⟨ts2, t2, x.n, g2, d2, h2, l2, a2, o2⟩ : Cl))) ∧ y.heap[n17]? = some (.cells ts2 165 (0, 0)) ∧ y.heap[n20]? = some (.cells (t10 x.n g2 d2 h2 l2 a2 o2) 169 (0, 0))) ∧
              a' = (((((((((((a0.put (some 145) (.slice (some ⟨bl, 0, none⟩) L.length cl)).put (some 146) (.pointer (some ⟨ob, 1, none⟩))).put (some 147) (.int .i64 (j : Int))).put (some 148) (.slice (some ⟨bw, 0, none⟩) L.length cw)).put (some 149) (.pointer (some ⟨ob, 1, none⟩))).put (some 150) (.int .i64 (j : Int))).put (some 151) (.agg (s10 (two s.k) c2 (.slice pg gv.length cg) sn2 (.slice none 0 0)))).put (some 152) (.agg ts2)).put (some 153) (.agg (t10 x.n g2 d2 h2 l2 a2 o2))).put (some 154) (.pointer (some ⟨bl, j * 40, none⟩))).put (some 155) (.pointer (some ⟨bw, j * 7, none⟩)))) ⟨rfl, rfl, rfl, rfl, rfl, rfl, rfl, rfl⟩ (fun a0 hE => ?_) (fun a' y hR => ?_)
          · obtain ⟨e9, e11, e12, e14, e17, e19, e20, hsz⟩ := hE
            exact mt_r30 (bx := s10 (two s.k) c (.slice pg gv.length cg) sn (.slice none 0 0)) (x' := (⟨ts2, t2, x.n, g2, d2, h2, l2, a2, o2⟩ : Cl)) e9 e11 e12 e14 e17 e19 e20 hsz hjl (by have := HB.out; omega) HTS.out HX40.out HTY.out.one HTY.out.info HNE.out.1 HNE.out.2.1 HNE.out.2.2 rfl (s10_info _ _ _ _ _) (s10_one rfl rfl) rfl HQ6.out HQ19.out HQ20.out HL6.out
          obtain ⟨⟨hS7, hq17, hq20⟩, rfl⟩ := hR
          have HS7 := Lib.hid hS7
          have HQ17 := Lib.hid hq17
          have u1 := (obj_cell hq20 1).trans (show (t10 x.n g2 d2 h2 l2 a2 o2)[1]? = some (.int .i64 g2) from rfl)
          have u3 := (obj_cell hq20 3).trans (show (t10 x.n g2 d2 h2 l2 a2 o2)[3]? = some (.int .i64 h2) from rfl)
          have HU1 : Hid (∀ x1 : Later y, x1.to.cell? ⟨n20, 1, none⟩ = some (.int .i64 g2)) := Lib.hid fun x1 => keepc x1.below u1
          have hrg := HREL.out.g
          have hr1 := HREL.out.s1
          have hr7 := HREL.out.s7
          have HDN : Hid (∀ x1 : Later y, Calls Try.prog 105 #[.agg ts2] x1.to fun e w'' => e = .returned (.bool (decide (5 ≤ g2))) ∧ ∃ y1 : Later y, w'' = y1.to) := Lib.hid fun x1 => (tdone HTY.out.c2 x1.to).mono fun e w' ⟨he, hb⟩ => ⟨by rw [he, show (t2.stg == 0 || t2.stg == 6 || t2.stg == 7) = decide (5 ≤ g2) by rw [Bool.eq_iff_iff]; simp; omega], ⟨w', bthen x1.below hb⟩, rfl⟩
          have HFL : Hid (∀ x1 : Later y, Calls Try.prog 109 #[.agg ts2] x1.to fun e w'' => e = .returned (.bool (g2 == 6)) ∧ ∃ y1 : Later y, w'' = y1.to) := Lib.hid fun x1 => (tfull HTY.out.c2 x1.to).mono fun e w' ⟨he, hb⟩ => ⟨by rw [he, show (t2.stg == 7) = (g2 == 6) by rw [Bool.eq_iff_iff]; simp; omega], ⟨w', bthen x1.below hb⟩, rfl⟩
          have HLS : Hid (∀ x1 : Later y, Calls Try.prog 106 #[.agg ts2] x1.to fun e w'' => e = .returned (.int .i64 (lastOf t2.stg t2.last)) ∧ ∃ y1 : Later y, w'' = y1.to) := Lib.hid fun x1 => (tlast HTY.out.c2 HTY.out.c4 x1.to).mono fun e w' ⟨he, hb⟩ => ⟨he, ⟨w', bthen x1.below hb⟩, rfl⟩
          have HLA : Hid (∀ w', (∃ x1 : Later y, w' = x1.to) → w'.heap[n17]? = some (.cells ts2 165 (0, 0))) := Lib.hid fun w' ⟨x1, hx1⟩ => hx1 ▸ (x1.below.block _ (lt_of_block hq17)).trans hq17
          have HTI := Lib.hid HTY.out.info
          have HLT5 : Hid (g2 = 5 → lastOf t2.stg t2.last = h2) := Lib.hid fun h => by
            have := (HREL.out.dh (by omega) (by omega)).2
            unfold lastOf
            rw [if_pos (by omega), this]
          have HLT0 : Hid (g2 ≠ 5 → lastOf t2.stg t2.last = -1) := Lib.hid fun h => by
            unfold lastOf
            rw [if_neg (by omega)]
          have HFIN : Hid (∀ w', Below y.heap.size y w' → MTs id W w' s mb (1000 * t + 500) (t + 1) (.slice pi gv.length ci) (.slice (some ⟨bl, 0, none⟩) L.length cl) (.slice (some ⟨bw, 0, none⟩) L.length cw)) := Lib.hid fun w' hb => by
            have hl1 : Lv (RP (RT2 W.heap.size (.slice (some ⟨bl, 0, none⟩) L.length cl) L.length (tsOf (L.set j (⟨ts2, t2, x.n, g2, d2, h2, l2, a2, o2⟩ : Cl))) (.slice (some ⟨bw, 0, none⟩) L.length cw) L.length (rfOf (L.set j (⟨ts2, t2, x.n, g2, d2, h2, l2, a2, o2⟩ : Cl)))) W.heap.size mb (s10 (two s.k) c2 (.slice pg gv.length cg) sn2 (.slice none 0 0)) (.slice pi gv.length ci) (idsN sh.length gv.length) (.slice pg gv.length cg) gv (.slice none 0 0) []) W w' s c2 sn2 sh gv sw2 st' := (Lv.keep hS7 hb).le (RP.mono Rest.boxLe)
            have hl2 : RT2 W.heap.size (.slice (some ⟨bl, 0, none⟩) L.length cl) L.length (tsOf (L.set j (⟨ts2, t2, x.n, g2, d2, h2, l2, a2, o2⟩ : Cl))) (.slice (some ⟨bw, 0, none⟩) L.length cw) L.length (rfOf (L.set j (⟨ts2, t2, x.n, g2, d2, h2, l2, a2, o2⟩ : Cl))) = RT W.heap.size (.slice (some ⟨bl, 0, none⟩) L.length cl) (.slice (some ⟨bw, 0, none⟩) L.length cw) (L.set j (⟨ts2, t2, x.n, g2, d2, h2, l2, a2, o2⟩ : Cl)) := by
              rw [rt_rt2, List.length_set]
            rw [hl2] at hl1
            have hf := HSF.out
            have hi := HI.out
            refine ⟨c2, sn2, sh, gv, L.set j (⟨ts2, t2, x.n, g2, d2, h2, l2, a2, o2⟩ : Cl), sw2, st', _, hl1, hi.g1, fun y hy => by have := hi.g2 y hy; omega, hi.gl, by have := hi.c0; omega, by have := hi.c2; omega, by have := hi.st0; have := HST.out.1; omega, by have := HB.out; have := HST.out.2; omega, by rw [List.length_set]; have := hi.ll; omega, fun y hy => ?_⟩
            rcases List.mem_or_eq_of_mem_set hy with hy | rfl
            · exact hi.cl y hy
            · have hx := HCLO.out
              have hc1 := hi.c0
              have hc2 := hi.c2
              refine ⟨HTY.out, HREL.out, hx.n1, hx.n2, ?_, ?_⟩
              · have := hx.l1
                have hn := hx.rel.n
                have := hx.n1
                rcases hf.2.2.2.2 with e | e | e
                · show -1 ≤ t2.last; omega
                · show -1 ≤ t2.last; omega
                · show -1 ≤ t2.last; omega
              · have := hx.l2
                have hn := hx.rel.n
                have := hx.n2
                have := HB.out
                rcases hf.2.2.2.2 with e | e | e
                · show t2.last ≤ 2000000; omega
                · show t2.last ≤ 2000000; omega
                · show t2.last ≤ 2000000; omega
          clear hS7 hq17 hq20 HL6 HQ6 HQ19 HQ20 HNE HX40 hrg hr1 hr7
          simp only [Act.put, List.setIfInBounds_toArray, List.set_cons_zero, List.set_cons_succ]
          by_cases h5 : g2 = 5
          · as_aux_lemma =>
            have e5 : (g2 == 5) = true := by simpa using h5
            have hls := HLT5.out h5
            rw [hls] at HLS
            clear h5 hls HLT5 HLT0
            go_upto_region 34 with fail
            clear u1 u3
            have v1 := HU1.out
            refine wp_region_later (by kernel_rfl) (by kernel_rfl) ?_
            repeat (first
              | (go_big_quiet_want; refine quiet_load_row 165 (.tmp 17) rfl n17 rfl 165 ts2 (0, 0) _ HLA.out Try.underlying165 rfl HTI.out ?_; go_big_quiet_on; go_frame)
              | go_big_quiet_step ((first
                | (go_at_call 105; exact HDN.out _)
                | (go_at_call 109; exact HFL.out _)
                | (go_at_call 106; exact HLS.out _))))
            refine wpQuiet_nil ?_
            intro _ hw'
            obtain ⟨nq, rfl⟩ := hw'
            have HN := Lib.hid (HFIN.out _ nq.below)
            clear v1 HU1 HLA HDN HFL HLS HFIN
            generalize nq.to = wq at *
            go_wp2_with fail
            go_meet
            exact HN
          · as_aux_lemma =>
            have e5 : (g2 == 5) = false := by simpa using h5
            have hls := HLT0.out h5
            rw [hls] at HLS
            clear h5 hls HLT5 HLT0
            go_upto_region 34 with fail
            clear u1 u3
            have v1 := HU1.out
            refine wp_region_later (by kernel_rfl) (by kernel_rfl) ?_
            repeat (first
              | (go_big_quiet_want; refine quiet_load_row 165 (.tmp 17) rfl n17 rfl 165 ts2 (0, 0) _ HLA.out Try.underlying165 rfl HTI.out ?_; go_big_quiet_on; go_frame)
              | go_big_quiet_step ((first
                | (go_at_call 105; exact HDN.out _)
                | (go_at_call 109; exact HFL.out _)
                | (go_at_call 106; exact HLS.out _))))
            refine wpQuiet_nil ?_
            intro _ hw'
            obtain ⟨nq, rfl⟩ := hw'
            have HN := Lib.hid (HFIN.out _ nq.below)
            clear v1 HU1 HLA HDN HFL HLS HFIN
            generalize nq.to = wq at *
            go_wp2_with fail
            go_meet
            exact HN
        by_cases e2 : z0 = 2
        · subst e2
          have o2 : w3.cell? ⟨ob, 2, none⟩ = some (.int .i64 z2) := (obj_cell (lp_ob HL3.out) 2).trans rfl
          have HHD : Hid (Calls Try.prog 110 #[.pointer (some ⟨W.heap.size, 0, none⟩), .pointer (some ⟨mb, 0, none⟩), .slice pi gv.length ci, .int .i64 z2] w3 fun e w' => e = .returned (.bool true) ∧ ∃ gv' st', HeldP c gv gv' ∧ st ≤ st' ∧ st' ≤ st + 1 ∧ Lv (RP ((RT W.heap.size (.slice pl L.length cl) (.slice pw L.length cw) L).box W.heap.size ob #[.int .i64 2, .int .i64 z1, .int .i64 z2] 162) W.heap.size mb (s10 (two s.k) c (.slice pg gv.length cg) sn (.slice none 0 0)) (.slice pi gv.length ci) (idsN sh.length gv.length) (.slice pg gv.length cg) gv' (.slice none 0 0) []) W w' s c sn sh gv' sw st') := Lib.hid (by
            have := held_any HL3.out c rfl rfl z2 (fun x hx => ⟨HI.out.g1 x hx, by have := HI.out.g2 x hx; have := HB.out; omega⟩) (by have := HB.out; omega) HB.out.2.2.2.2.1 HB.out.2.2.1 (by have := HB.out; omega)
            rw [HSB.out] at this
            exact this)
          as_aux_lemma =>
            go_wp2_with (go_at_call 110; refine HHD.out.mono ?_; rintro e w4 ⟨rfl, gv', st', hh, a1, a2, hl⟩; have HH := Lib.hid hh; have HL4 := Lib.hid hl; clear hl hh)
            go_meet
            refine Lib.hid ⟨c, sn, sh, gv', L, sw, st', .slice pg gv.length cg, ?_, HI.out.held HH.out a1 (by have := HB.out; omega)⟩
            rw [HH.out.len]
            exact HL4.out.le (RP.mono Rest.boxLe)
        by_cases e3 : z0 = 3
        · subst e3
          as_aux_lemma =>
          have HX : Hid (MTs id W w3 s mb (1000 * (t + 1 : Nat)) (t + 1) (.slice pi gv.length ci) (.slice pl L.length cl) (.slice pw L.length cw)) := Lib.hid ⟨c, sn, sh, gv, L, sw, st, _, HL3.out.le (RP.mono Rest.boxLe), HI.out.mono (by omega) (by omega)⟩
          by_cases h0 : 20 ≤ gv.length
          · have eg : decide ((20 : Int) ≤ (gv.length : Int)) = true := decide_eq_true (by omega)
            as_aux_lemma =>
              go_wp2_with fail
              exact ⟨⟨t + 1, by omega, by go_num, HX⟩, by simp [intOf]; omega⟩
          · have eg : decide ((20 : Int) ≤ (gv.length : Int)) = false := decide_eq_false (by omega)
            have HGL : Hid (gv.length < 20) := Lib.hid (by omega)
            clear h0 HX
            as_aux_lemma =>
              obtain ⟨idv, hidv⟩ : ∃ idv : Int, idv = ((sh.length + 2 + gv.length : Nat) : Int) := ⟨_, rfl⟩
              have HIV := Lib.hid hidv
              have k1 := (lp_box HL3.out).k.k1
              have HAL : Hid (Calls Try.prog 78 #[.pointer (some ⟨W.heap.size, 0, none⟩), .int .i64 c] w3 fun e w' => e = .returned (.tuple #[.int .i64 idv, .nilIface]) ∧ Lh (RP ((RT W.heap.size (.slice pl L.length cl) (.slice pw L.length cw) L).box W.heap.size ob #[.int .i64 3, .int .i64 z1, .int .i64 z2] 162) W.heap.size mb (s10 (two s.k) c (.slice pg gv.length cg) sn (.slice none 0 0)) (.slice pi gv.length ci) (idsN sh.length gv.length) (.slice pg gv.length cg) gv (.slice none 0 0) []) W w' s c sn sh gv c sw st) := Lib.hid (by
                have := lalloc HL3.out c
                rw [HSB.out] at this
                rw [HIV.out]
                exact this)
              have HAD : Hid (∀ w, Lh (RP ((RT W.heap.size (.slice pl L.length cl) (.slice pw L.length cw) L).box W.heap.size ob #[.int .i64 3, .int .i64 z1, .int .i64 z2] 162) W.heap.size mb (s10 (two s.k) c (.slice pg gv.length cg) sn (.slice none 0 0)) (.slice pi gv.length ci) (idsN sh.length gv.length) (.slice pg gv.length cg) gv (.slice none 0 0) []) W w s c sn sh gv c sw st → Calls Try.prog 80 #[.pointer (some ⟨s.p, 5, none⟩), .int .i64 idv] w fun e w' => e = .returned .nilIface ∧ St ((RT W.heap.size (.slice pl L.length cl) (.slice pw L.length cw) L).box W.heap.size ob #[.int .i64 3, .int .i64 z1, .int .i64 z2] 162) W w' s mb (s10 (two s.k) c (.slice pg gv.length cg) sn (.slice none 0 0)) c sn sh (gv ++ [c]) sw st (.slice pi gv.length ci) gv.length (idsN sh.length gv.length) (.slice pg gv.length cg) gv.length gv (.slice none 0 0) []) := Lib.hid fun w h => by
                rw [HIV.out]
                exact (ladd h (by have := HGL.out; omega)).mono fun e w' ⟨he, hl⟩ => ⟨he, hl, idsN_len _ _, rfl⟩
              clear hidv HL3
              go_upto_region 44 with (first
                | (go_at_call 78; refine HAL.out.mono ?_; rintro e w4 ⟨rfl, hl⟩; have HL4 := Lib.hid hl; clear hl k1)
                | (go_at_call 79; refine (mgate_some _ _).mono ?_; rintro e w5 ⟨rfl, rfl⟩)
                | (go_at_call 80; refine (HAD.out _ HL4.out).mono ?_; rintro e w5 ⟨rfl, hl⟩; have HL5 := Lib.hid hl; clear hl HL4))
              have HS := Lib.hid (HL5.out.keep (Below.drew (Below.refl _ w5)))
              have k1 := (lp_box HL5.out.1).k.k1
              have k3 := (lp_box HL5.out.1).k.k3
              have nn : ∀ o, (w5.alloc o).cell? ⟨mb, 3, none⟩ = _ := fun o => keepc (balloc (Below.refl _ _) o) k3
              have nn1 : ∀ o o', ((w5.alloc o).alloc o').cell? ⟨mb, 3, none⟩ = _ := fun o o' => keepc (balloc (balloc (Below.refl _ _) o) o') k3
              have kd1 : w5.drew.cell? ⟨mb, 1, none⟩ = some (.int .i64 c) := k1
              have kd3 : w5.drew.cell? ⟨mb, 3, none⟩ = some (.slice pg gv.length cg) := k3
              obtain ⟨i0, ji, jz0, jz1, jz2⟩ := info_parts infoI64
              obtain ⟨n0, ki, kz0, kz1, kz2⟩ := info_parts infoN
              have hb20 : gv.length ≤ 20 := by have := HGL.out; omega
              have HM : Hid (MtI s.p c sh (gv ++ [c]) L st (1000 * t + 500) (t + 1)) := Lib.hid (HI.out.more HGL.out (by omega))
              have HLEN : Hid (idsN sh.length (gv ++ [c]).length = idsN sh.length gv.length ++ [idv]) := Lib.hid (by
                rw [HIV.out, List.length_append, List.length_singleton]
                exact idsN_succ _ _)
              rw [show (Op.load 46 (.tmp 216) : Op) = ldT from rfl]
              go_region_held3 (fun w' => w'.cell? ⟨mb, 1, none⟩ = some (.int .i64 c)) (first | assumption | exact kd1 | exact keepc (balloc (Below.refl _ _) _) kd1 | exact keepc (balloc (balloc (Below.refl _ _) _) _) kd1 | exact keepc (balloc (Below.refl _ _) _) j1 | go_simp) (first
                | (refine step_append_row (by rfl) (.tmp 211) (.tmp 213) 38 (by rfl) 3 n0 (.int .i64 0) 1 8 Try.underlying38 ki kz0 kz1 kz2 (by rfl) (by decide) (.slice pi gv.length ci) gv.length _ (by rfl) (HS.out.keep (by first | exact balloc (Below.refl _ _) _ | exact balloc (balloc (Below.refl _ _) _) _ | exact Below.refl _ _)).rowI ⟨_, 0, none⟩ 1 1 [.int .i64 idv] (by rfl) (by rfl) (news1 (by first | exact newcell (by simp) | exact newcell2 (by simp) | exact hp _ _ (by simp) (newcell (by simp)) | exact hp _ _ (by simp) (newcell2 (by simp)))) (fun x hx => by simp at hx; subst hx; rfl) (by unfold maxLen; omega) (by omega) ?_; intro v' w6 hown hf hv; have hp : ∀ g u, w5.heap.size ≤ g → World.cell? _ ⟨g, 0, none⟩ = some u → w6.cell? ⟨g, 0, none⟩ = some u := (fun g u hg h => hf.cell h fun e => by have := (HL5.out.rowI.lt g e).2; omega); replace HS := Lib.hid ((HS.out.keep (by first | exact balloc (Below.refl _ _) _ | exact balloc (balloc (Below.refl _ _) _) _ | exact Below.refl _ _)).appI idv hown hf hv); obtain ⟨pI, cI, rfl, -⟩ := row_form hown; have j1 := (lp_box HS.out.1).k.k1; have j3 := (lp_box HS.out.1).k.k3; have fr := obj_free (lp_box HS.out.1) 3; have n6 : ∀ o, (w6.alloc o).cell? ⟨mb, 3, none⟩ = _ := (fun o => keepc (balloc (Below.refl _ _) o) j3); clear hown hf hv)
                | (refine step_append_row (by rfl) (.tmp 217) (.tmp 221) 46 (by rfl) 2 i0 (.int .i64 0) 1 8 Try.underlying46 ji jz0 jz1 jz2 (by rfl) (by decide) (.slice pg gv.length cg) gv.length _ (by rfl) (HS.out.keep (by first | exact balloc (Below.refl _ _) _ | exact balloc (balloc (Below.refl _ _) _) _ | exact Below.refl _ _)).rowG ⟨_, 0, none⟩ 1 1 [.int .i64 c] (by rfl) (by rfl) (news1 (by first | exact newcell (by simp) | exact newcell2 (by simp) | exact hp _ _ (by simp) (newcell (by simp)) | exact hp _ _ (by simp) (newcell2 (by simp)))) (fun x hx => by simp at hx; subst hx; rfl) (by unfold maxLen; omega) (by omega) ?_; intro v' w6 hown hf hv; have hp : ∀ g u, w5.heap.size ≤ g → World.cell? _ ⟨g, 0, none⟩ = some u → w6.cell? ⟨g, 0, none⟩ = some u := (fun g u hg h => hf.cell h fun e => by have := (HL5.out.rowG.lt g e).2; omega); replace HS := Lib.hid ((HS.out.keep (by first | exact balloc (Below.refl _ _) _ | exact balloc (balloc (Below.refl _ _) _) _ | exact Below.refl _ _)).appG c hown hf hv); obtain ⟨pG, cG, rfl, -⟩ := row_form hown; have j1 := (lp_box HS.out.1).k.k1; have j3 := (lp_box HS.out.1).k.k3; have fr := obj_free (lp_box HS.out.1) 3; have n6 : ∀ o, (w6.alloc o).cell? ⟨mb, 3, none⟩ = _ := (fun o => keepc (balloc (Below.refl _ _) o) j3); clear hown hf hv))
              all_goals
                as_aux_lemma =>
                have HF := Lib.hid (lp_set HS.out.1 3 (.slice pG (gv.length + 1) cG))
                rw [show (s10 (two s.k) c (.slice pg gv.length cg) sn (.slice none 0 0)).setIfInBounds 3 (.slice pG (gv.length + 1) cG) = s10 (two s.k) c (.slice pG (gv.length + 1) cG) sn (.slice none 0 0) from rfl] at HF
                rw [← HLEN.out] at HF
                generalize World.setCell _ _ _ = w9 at *
                clear HS
                go_wp2_with fail
                go_meet
                exact Lib.hid ⟨c, sn, sh, gv ++ [c], L, sw, st, .slice pG (gv.length + 1) cG, HF.out.le (RP.mono Rest.boxLe), HM.out⟩
        by_cases e5 : z0 = 5
        · subst e5
          as_aux_lemma =>
            obtain ⟨x, f, c', sn', hcl⟩ := clP_any (two s.k) c sn z2 gv
            have HCL := Lib.hid hcl
            clear hcl
            have o2 : w3.cell? ⟨ob, 2, none⟩ = some (.int .i64 z2) := (obj_cell (lp_ob HL3.out) 2).trans rfl
            go_upto_region 47 with (go_at_call 73; refine (mclaim_any HL3.out HCL.out (by have := HB.out; omega) HB.out.2.2.1 (by have := HB.out; omega)).mono ?_; rintro e w4 ⟨E, rfl, hE, sw', st', a1, a2, hl⟩; have HE := Lib.hid hE; have HL4 := Lib.hid hl; clear hl hE o2)
            have o2 : w4.cell? ⟨ob, 2, none⟩ = some (.int .i64 z2) := (obj_cell (lp_ob HL4.out) 2).trans rfl
            have HTS : Hid (0 ≤ two s.k ∧ two s.k ≤ 1048576) := Lib.hid (by have := H64.out; omega)
            have HCC : Hid (-1 ≤ c ∧ c ≤ 2305843009213693952) := Lib.hid (by have := HB.out; omega)
            have HGB : Hid (gv.length ≤ 1000000) := Lib.hid (by have := HB.out; omega)
            have HI1 := Lib.hid (s10_info (two s.k) c (.slice pg gv.length cg) sn (.slice none 0 0))
            have HI2 := Lib.hid (s10_info (two s.k) c' (.slice pg gv.length cg) sn' (.slice none 0 0))
            have HE2 := Lib.hid (s10_one (N := two s.k) (c := c') (sn := sn') (gv := .slice pg gv.length cg) (sv := .slice none 0 0) rfl rfl)
            have HM : Hid (MtI s.p c' sh gv L st' (1000 * t + 500) (t + 1)) := Lib.hid (HI.out.claim HCL.out H64.out.2 a1 (by have := HB.out; omega))
            have HRC := Lib.hid (rclaim_any (lp_lng HL4.out) HGB.out HCL.out HTS.out HCC.out HR2.out (vg := .slice pg gv.length cg) (vs := .slice none 0 0) rfl rfl HI.out.least)
            go_upto_region 48 with (first
              | (refine wpList_load_row rfl 125 (.tmp 9) rfl mb rfl 125 (s10 (two s.k) c (.slice pg gv.length cg) sn (.slice none 0 0)) (0, 0) _ (lp_box HL4.out) Try.underlying125 rfl HI1.out ?_)
              | (go_at_call 75; refine HRC.out.mono ?_; rintro e w6 ⟨rfl, hb⟩; have HL6 := Lib.hid (HL4.out.keep hb); have HE6 := Lib.hid (HE.out.keep hb); clear hb)
              | (refine wpList_store_row rfl 125 (.tmp 27) (.tmp 239) rfl w6.heap.size (s10 (two s.k) c' (.slice pg gv.length cg) sn' (.slice none 0 0)) rfl rfl 125 _ (obj_new w6 _) HI2.out rfl HE2.out ?_))
            have HX : Hid (∀ y, y = (w6.alloc (.cells #[.int .i64 0, .int .i64 0, .int .i64 0, .slice none 0 0, .int .i64 0, .int .i64 0, .slice none 0 0] 125)).setRow w6.heap.size (s10 (two s.k) c' (.slice pg gv.length cg) sn' (.slice none 0 0)) → y.heap[w6.heap.size]? = some (.cells (s10 (two s.k) c' (.slice pg gv.length cg) sn' (.slice none 0 0)) 125 (0, 0)) ∧ Below w6.heap.size w6 y) := Lib.hid fun y hy => stored_new hy.symm
            generalize hy : World.setRow _ _ _ = w7
            obtain ⟨y1, y2⟩ := HX.out w7 hy.symm
            have HN7 := Lib.hid y1
            have HL7 := Lib.hid (HL6.out.keep y2)
            have HE7 := Lib.hid ((HE6.out.keep y2).row (cs' := s10 (two s.k) c' (.slice pg gv.length cg) sn' (.slice none 0 0)) (lp_box HL7.out) (by decide))
            have HL8 := Lib.hid (lp_row HL7.out (s10 (two s.k) c' (.slice pg gv.length cg) sn' (.slice none 0 0)))
            clear hy y1 y2 HX
            go_wp2_with (first
              | (refine wpList_load_row rfl 125 (.tmp 27) rfl w6.heap.size rfl 125 (s10 (two s.k) c' (.slice pg gv.length cg) sn' (.slice none 0 0)) (0, 0) _ HN7.out Try.underlying125 rfl HI2.out ?_)
              | (refine wpList_store_row rfl 125 (.tmp 9) (.tmp 242) rfl mb (s10 (two s.k) c' (.slice pg gv.length cg) sn' (.slice none 0 0)) rfl rfl 125 _ (lp_box HL7.out) HI2.out rfl HE2.out ?_)
              | (go_at_call 27; refine (is_at HE7.out _).mono ?_; rintro e w9 ⟨rfl, rfl⟩))
            go_meet
            exact Lib.hid ⟨c', sn', sh, gv, L, sw', st', _, HL8.out.le (RP.mono Rest.boxLe), HM.out⟩
        have f0 : (z0 == 0) = false := by simpa using e0
        have f1 : (z0 == 1) = false := by simpa using e1
        have f2 : (z0 == 2) = false := by simpa using e2
        have f3 : (z0 == 3) = false := by simpa using e3
        have f5 : (z0 == 5) = false := by simpa using e5
        go_wp2_with fail
        go_meet
        exact Lib.hid ⟨c, sn, sh, gv, L, sw, st, _, HL3.out.le (RP.mono Rest.boxLe), HI.out.mono (by omega) (by omega)⟩
      case rest =>
        as_aux_lemma =>
        clear HL3 HI HB HR1 HR2
        obtain ⟨c, sn, sh, gv, L, sw, st, vg, hl, hI⟩ := hcut.out
        have HL := Lib.hid hl
        have HI := Lib.hid hI
        obtain ⟨pg, cg, rfl, _⟩ := row_form (lp_g hl)
        have HB : Hid (-1 ≤ c ∧ c ≤ 7680 ∧ 0 ≤ st ∧ st ≤ 130000 ∧ st ≤ 1000 * t + 500) := Lib.hid ⟨HI.out.c0, by have := HI.out.c2; omega, HI.out.st0, by have := HI.out.st1; omega, HI.out.st1⟩
        have HCA : Hid (Calls Try.prog 111 #[.pointer (some ⟨s.p, 0, none⟩)] wc fun e w' => e = .returned (.int .i64 1) ∧ wc = w') := Lib.hid (by
          have := mcached_some HL.out.ms
          rw [HL.out.cch] at this
          exact this)
        have HLD : Hid (Calls Try.prog 31 #[.pointer (some ⟨W.heap.size, 0, none⟩), .int .i64 1] wc fun e w' => e = .returned (.tuple #[.int .i64 sn, .nilIface]) ∧ Lv (RP (RT W.heap.size _ _ L) W.heap.size mb (s10 (two s.k) c (.slice pg gv.length cg) sn (.slice none 0 0)) _ (idsN sh.length gv.length) (.slice pg gv.length cg) gv (.slice none 0 0) []) W w' s c sn sh gv sw (st + 1)) := Lib.hid (by
          have := lseen HL.out HB.out.2.2.1 (by have := HB.out; omega)
          rw [HSB.out] at this
          exact this)
        clear hl hI hcut
        go_upto_region 52 with (first
          | (go_at_call 111; refine HCA.out.mono ?_; rintro e w4 ⟨rfl, rfl⟩)
          | (go_at_call 31; refine HLD.out.mono ?_; rintro e w4 ⟨rfl, hl⟩; have HL4 := Lib.hid hl; clear hl))
        obtain ⟨k0, k1, k2, k3, k4, k5⟩ := (lp_box HL4.out).k
        clear HL
        go_region_held3 (fun w' => w'.cell? ⟨mb, 1, none⟩ = some (.int .i64 c) ∧ w'.cell? ⟨mb, 4, none⟩ = some (.int .i64 sn)) (first
          | exact ⟨by assumption, by assumption⟩
          | exact ⟨by go_simp, by go_simp⟩) (first
          | (go_at_call 82; refine (lclaimed (HL4.out.keep (Below.drew (Below.refl _ _))) (by have := HB.out; omega) (by have := HB.out; omega)).mono ?_; rintro e w6 ⟨rfl, hl6⟩; have HL6 := Lib.hid hl6; obtain ⟨i0, i1, i2, i3, i4, i5⟩ := (lp_box HL6.out).k; clear hl6))
        go_wp2_with fail
        exact ⟨⟨t + 1, by omega, by go_num, Lib.hid ⟨c, sn, sh, gv, L, sw, st + 1 + 1, _, HL6.out, ⟨HI.out.g1, HI.out.g2, HI.out.gl, HI.out.c0, HI.out.c2, by have := HB.out; omega, by have := HB.out; omega, HI.out.ll, HI.out.cl⟩⟩⟩, by simp [intOf]; omega⟩
    · obtain rfl : t = n := by omega
      clear hlt
      go_wp2_with (go_at_call 70; refine (awake10 _).mono ?_; rintro e w5 ⟨rfl, hb⟩; have HL5 := Lib.hid (HL.out.keep hb); clear hb)
      go_ret
      exact ⟨rfl, HL5.out.below⟩
end Go.Proofs.Ytndmhnakfhofpaa
