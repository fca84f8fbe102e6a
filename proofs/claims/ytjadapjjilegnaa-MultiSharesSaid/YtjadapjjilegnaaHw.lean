/-
  MultiShares' walk, its acts. Conditions: at most 120 acts.
-/
import Derived.Test.YtjadapjjilegnaaHa
import Derived.Test.YtjadapjjilegnaaShut
import Derived.Deep.DeepCutAuto
import Derived.Deep.CutBlock
import Derived.Deep.RegionHeld3
import Derived.Deep.DrawnRows
import Derived.BigRegion
namespace Go.Proofs.Ytjadapjjilegnaa
open Go.RowKit
set_option linter.unusedSimpArgs false
set_option linter.unusedVariables false
/-- The load of those who hold back, as the law's last statement of kind 3 has it. -/
def ldS : Op := .load 46 (.tmp 197)
attribute [local go_sem ↓] Go.wp_at_zero Go.wp_at_succ ldS

set_option maxRecDepth 100000 in
set_option maxHeartbeats 100000000 in
theorem mshares_walk (W : World) (sh0 : Int) (hsh : 0 ≤ sh0) (k : Nat) (hs : sh0 % 7 = k) (hk : k < 7) (v : Value) (n : Nat) (fld : Nat → Nat → Int) (hO : OpsAt W v n 3 fld) (hn : n ≤ 120) :
    Calls Try.prog 14 #[.int .u8 sh0, v] W fun e w' => e = .returned (.bool true) ∧ Below W.heap.size W w' := by
  obtain ⟨p, cap, rfl, hnm, hc⟩ := hO
  have HC := Lib.hid hc
  have ht : sh0.tmod 7 = (k : Int) := by rw [Int.tmod_eq_emod_of_nonneg hsh]; exact hs
  have wt := wrap_two k (by omega)
  have d1 : decide ((120 : Int) < (n : Int)) = false := decide_eq_false (by omega)
  obtain ⟨N, hN⟩ : ∃ N : Nat, (N : Int) = two k := ⟨(two k).toNat, by have := two_pos k; omega⟩
  have HN := Lib.hid hN
  have hn1 := two_pos k
  have hn2 := two64 hk
  clear hs hsh hc hnm hN
  go_enter Try.func14, Try.ntmps14
  go_upto_region 4 with (go_at_call 33; refine (new_m _).mono ?_; rintro e w1 ⟨rfl, hm⟩; have HM1 := Lib.hid hm; clear hm)
  go_upto_region 5 with fail
  rw [wt]
  clear wt ht
  go_upto_region 8 with (go_at_call 71; refine (mnew_ok (Mv.of_mine HM1.out) k N (by omega) HN.out).mono ?_; rintro e w2 ⟨s, rfl, hb, hsk, hl⟩; have L2 := Lib.hid hl; have HSB := Lib.hid hb; have HSK := Lib.hid hsk; clear hl hb hsk HM1)
  have HI0 := Lib.hid (s10_info (two k) (-1) (.slice none 0 0) (-1) (.slice none 0 0))
  have HE0 := Lib.hid (s10_one (N := two k) (c := -1) (sn := -1) (gv := .slice none 0 0) (sv := .slice none 0 0) rfl rfl)
  go_upto_region 9 with (first
    | (go_at_call 72; refine (rnew10 (two k) _).mono ?_; rintro e w3 ⟨rfl, hb⟩; have L3 := Lib.hid (L2.out.keep hb); clear hb L2)
    | (refine wpList_store_row rfl 125 (.tmp 9) (.tmp 52) rfl w3.heap.size (s10 (two k) (-1) (.slice none 0 0) (-1) (.slice none 0 0)) rfl rfl 125 _ (obj_new w3 _) HI0.out rfl HE0.out ?_))
  have L3r : Hid (Lv (RS W.heap.size (.slice none 0 0) (.slice none 0 0) (.slice none 0 0) []) W w3 s (-1) (-1) (List.replicate N (-1)) [] (-1) 0) := Lib.hid (L3.out.of_ms (((L3.out.ms.nil 165 40).nil 3 1).nil 4 1))
  have L4 := Lib.hid (lp_row (lp_new L3r.out #[.int .i64 0, .int .i64 0, .int .i64 0, .slice none 0 0, .int .i64 0, .int .i64 0, .slice none 0 0]) (s10 (two k) (-1) (.slice none 0 0) (-1) (.slice none 0 0)))
  generalize World.setRow _ _ _ = w4 at *
  generalize w3.heap.size = mb at *
  clear HI0 HE0 L3 L3r
  have HS0 : Hid (SHs id W w4 s mb (1000 * (0 : Nat)) 0 (.slice none 0 0) (.slice none 0 0) (.slice none 0 0) (.slice none 0 0)) := Lib.hid (by
    have h := L4.out
    rw [← HSK.out] at h
    exact ⟨-1, -1, List.replicate N (-1), [], [], -1, 0, .slice none 0 0, -1, h, ⟨by simp, fun j hj => absurd hj (by simp), fun j hj => absurd hj (by simp), fun j hj => absurd hj (by simp), by simp, fun j hj => absurd hj (by simp)⟩, by simp, by simp, by simp, by simp, by simp, by simp, by simp, by simp [sumG], fun i k x y _ h => by simp at h⟩)
  have H64 : Hid (1 ≤ two s.k ∧ two s.k ≤ 64) := Lib.hid (by rw [HSK.out]; omega)
  rw [← HSK.out]
  clear L4 hn1 hn2
  go_wp2_with fail
  go_loopw [10, 11, 12, 13, 55] (fun vi vz vl vb i wl => ∃ t : Nat, t ≤ n ∧ i = .int .i64 t ∧ Hid (SHs id W wl s mb (1000 * t) t vi vl vz vb)) (fun _ _ _ _ i _ => n - (intOf i).toNat)
  case atStart => exact ⟨0, Nat.zero_le _, rfl, HS0⟩
  case round =>
    clear HS0
    obtain ⟨t, ht, rfl, HP⟩ := hrel
    obtain ⟨c, sn, sh, gv, L, sw, st, vg, cc, hl, hI⟩ := HP.out
    have HL := Lib.hid hl
    have HI := Lib.hid hI
    obtain ⟨pi, ci, hvi, _⟩ := row_form (lp_i hl)
    rw [idsN_len] at hvi
    subst hvi
    obtain ⟨pg, cg, rfl, _⟩ := row_form (lp_g hl)
    obtain ⟨pl, cl, rfl, _⟩ := row_form (rs_l hl)
    obtain ⟨pz, cz, rfl, _⟩ := row_form (rs_z hl)
    obtain ⟨pb, cb, rfl, _⟩ := row_form (rs_b hl)
    clear hl hI
    by_cases hlt : t < n
    · obtain ⟨b, off, rfl, hcell⟩ := HC.out.resolve_left (by omega)
      have hk4 := hcell t hlt
      have q0 := keepc HL.out.below (hk4 0 (by decide)).1
      have q1 := keepc HL.out.below (hk4 1 (by decide)).1
      have q2 := keepc HL.out.below (hk4 2 (by decide)).1
      have HR1 := Lib.hid (hk4 1 (by decide)).2
      have HR2 := Lib.hid (hk4 2 (by decide)).2
      generalize fld t 0 = z0 at *
      generalize fld t 1 = z1 at *
      generalize fld t 2 = z2 at *
      simp only [Nat.add_zero] at q0
      clear hcell hk4
      go_upto_block 2 with fail
      have HL3 := Lib.hid ((HL.out.of_ms (HL.out.ms.boxNew #[.int .i64 z0, .int .i64 z1, .int .i64 z2] 162)).le RP.push)
      clear HL q0 q1 q2 HP
      generalize wr.alloc (.cells #[.int .i64 z0, .int .i64 z1, .int .i64 z2] 162) = w3 at *
      generalize wr.heap.size = ob at *
      have HB : Hid (-1 ≤ c ∧ c ≤ 7680 ∧ 0 ≤ st ∧ st ≤ 120000 ∧ gv.length ≤ 20 ∧ L.length ≤ 120 ∧ st ≤ 1000 * t) := Lib.hid ⟨HI.out.g.c0, by have := HI.out.c2; omega, HI.out.st0, by have := HI.out.st1; omega, HI.out.gl, by have := HI.out.ll; omega, HI.out.st1⟩
      go_cut [10, 11, 12, 13] (fun vx vz vy vb wx => Hid (SHs id W wx s mb (1000 * t + 500) (t + 1) vx vy vz vb))
      case first =>
        by_cases e0 : z0 = 0
        · subst e0
          as_aux_lemma =>
          have o2 : w3.cell? ⟨ob, 2, none⟩ = some (.int .i64 z2) := (obj_cell (lp_ob HL3.out) 2).trans rfl
          by_cases hbad : z2 < 1 ∨ two s.k < z2
          · have HTRY := Lib.hid (mtry_arg HL3.out.ms.c HL3.out.ms.k20 z2 hbad)
            as_aux_lemma =>
              go_upto_region 18 with (first
                | (go_at_call 104; refine HTRY.out.mono ?_; rintro e w4 ⟨ts, E, rfl, htz, hr⟩; have HTZ := Lib.hid htz; have HL4 := Lib.hid (HL3.out.keep hr.below); obtain ⟨q, rfl, _⟩ := hr; clear htz o2)
                | (refine wpList_alloc_try rfl rfl ?_; intro zs hzs; have HZS := Lib.hid hzs; clear hzs)
                | (refine wpList_store_row rfl 165 (.tmp 16) (.tmp 68) rfl w4.heap.size ts rfl rfl 165 _ (obj_new w4 _) HTZ.out.info (by rw [HTZ.out.size, HZS.out]) HTZ.out.one ?_))
              generalize hX : World.setRow _ _ _ = w5
              obtain ⟨hq, hb5⟩ := stored_new hX
              have HL5 := Lib.hid (HL4.out.keep hb5)
              clear hX hq hb5
              go_wp2_with fail
              go_meet
              exact Lib.hid ⟨c, sn, sh, gv, L, sw, st, _, cc, HL5.out.le (RP.mono Rest.boxLe), HI.out.mono (by omega) (by omega)⟩
          · have hg : 1 ≤ z2 ∧ z2 ≤ two s.k := by omega
            have HTRY := Lib.hid (mtry_ok HL3.out.ms.c HL3.out.ms.k20 z2 hg.1 hg.2)
            have HG := Lib.hid hg
            clear hbad hg
            as_aux_lemma =>
              go_upto_region 19 with (first
                | (go_at_call 104; refine HTRY.out.mono ?_; rintro e w4 ⟨ts, rfl, hty, hb⟩; have HTY := Lib.hid hty; have HL4 := Lib.hid (HL3.out.keep hb); clear hty hb o2)
                | (refine wpList_alloc_try rfl rfl ?_; intro zs hzs; have HZS := Lib.hid hzs; clear hzs)
                | (refine wpList_store_row rfl 165 (.tmp 16) (.tmp 68) rfl w4.heap.size ts rfl rfl 165 _ (obj_new w4 _) HTY.out.info (by rw [HTY.out.size, HZS.out]) HTY.out.one ?_))
              generalize hX : World.setRow _ _ _ = w5
              obtain ⟨hq, hb5⟩ := stored_new hX
              have HQ := Lib.hid hq
              have HS4 : Hid (Sq W w4 s mb (bxS (two s.k) cc (.slice pg gv.length cg)) c sn sh gv sw st (.slice pi gv.length ci) (idsN sh.length gv.length) (.slice pg gv.length cg) gv ob #[.int .i64 0, .int .i64 z1, .int .i64 z2] (.slice pl L.length cl) L.length (tsM L) (.slice pz L.length cz) L.length (nsM L) (.slice pb L.length cb) L.length (bsM L)) := HL4
              have HS5 := Lib.hid (HS4.out.keep hb5)
              have N1 : Hid (∀ k, (Value.slice pl L.length cl).ownBlock = some k → w4.heap.size ≠ k) := Lib.hid fun k hk => by have := (HS4.out.l.lt k hk).2; omega
              have N2 : Hid (∀ k, (Value.slice pz L.length cz).ownBlock = some k → w4.heap.size ≠ k) := Lib.hid fun k hk => by have := (HS4.out.z.lt k hk).2; omega
              have N3 : Hid (∀ k, (Value.slice pb L.length cb).ownBlock = some k → w4.heap.size ≠ k) := Lib.hid fun k hk => by have := (HS4.out.b.lt k hk).2; omega
              have HM := Lib.hid (HI.out.snoc HTY.out HG.out.1 HG.out.2 HB.out.2.2.1 (show st ≤ 1000 * t + 500 by have := HB.out; omega))
              have HFIN : Hid (∀ y u1 u2 u3, Sq W y s mb (bxS (two s.k) cc (.slice pg gv.length cg)) c sn sh gv sw st (.slice pi gv.length ci) (idsN sh.length gv.length) (.slice pg gv.length cg) gv ob #[.int .i64 0, .int .i64 z1, .int .i64 z2] u1 (L.length + 1) (tsM L ++ ts.toList) u2 (L.length + 1) (nsM L ++ [.int .i64 z2]) u3 (L.length + 1) (bsM L ++ [.bool false]) → Hid (SHs id W y s mb (1000 * t + 500) (t + 1) (.slice pi gv.length ci) u1 u2 u3)) := Lib.hid fun y u1 u2 u3 h => Lib.hid ⟨c, sn, sh, gv, L ++ [⟨ts, tr0 z2, z2, false⟩], sw, st, .slice pg gv.length cg, cc, by
                have h2 := Lv.le h (RP.mono Rest.boxLe)
                show Lv (RP (RS3 _ _ _ _ _ _ _ _ _ _) _ _ _ _ _ _ _ _ _) _ _ _ _ _ _ _ _ _
                rw [tsM_snoc, nsM_snoc, bsM_snoc, List.length_append, List.length_singleton]
                exact h2, HM.out⟩
              generalize w4.heap.size = tb at *
              clear hX hq hb5 HL4 HS4 HL3
              refine wp_frame (fun a0 => a0.eval (.tmp 12) = .slice pl L.length cl ∧ a0.eval (.tmp 11) = .slice pz L.length cz ∧ a0.eval (.tmp 13) = .slice pb L.length cb ∧ a0.eval (.tmp 15) = .pointer (some ⟨ob, 0, none⟩) ∧ a0.eval (.tmp 16) = .pointer (some ⟨tb, 0, none⟩) ∧ a0.tmps.size = 285)
                (fun a0 a' y => ∃ u1 u2 u3 x1 x2 x3, Sq W y s mb (bxS (two s.k) cc (.slice pg gv.length cg)) c sn sh gv sw st (.slice pi gv.length ci) (idsN sh.length gv.length) (.slice pg gv.length cg) gv ob #[.int .i64 0, .int .i64 z1, .int .i64 z2] u1 (L.length + 1) (tsM L ++ ts.toList) u2 (L.length + 1) (nsM L ++ [.int .i64 z2]) u3 (L.length + 1) (bsM L ++ [.bool false]) ∧
                  a' = (((((((((((((((a0.put (some 72) (.slice pl L.length cl)).put (some 73) (.agg ts)).put (some 74) x1).put (some 75) u1).put (some 76) (.slice pz L.length cz)).put (some 77) (.pointer (some ⟨ob, 2, none⟩))).put (some 78) (.int .i64 z2)).put (some 79) x2).put (some 80) u2).put (some 81) (.slice pb L.length cb)).put (some 82) x3).put (some 83) u3).put (some 12) u1).put (some 11) u2).put (some 13) u3)) ⟨rfl, rfl, rfl, rfl, rfl, rfl⟩ (fun a0 hE => ?_) (fun a' y hR => ?_)
              · obtain ⟨e12, e11, e13, e15, e16, hsz⟩ := hE
                exact ms_r19 e12 e11 e13 e15 e16 hsz (by have := HB.out; omega) HTY.out.size HTY.out.one HTY.out.info rfl N1.out N2.out N3.out HQ.out HS5.out
              · obtain ⟨u1, u2, u3, x1, x2, x3, hSq, rfl⟩ := hR
                have HE := HFIN.out _ _ _ _ hSq
                clear hSq HFIN HS5 HQ N1 N2 N3
                simp only [Act.put, List.setIfInBounds_toArray, List.set_cons_zero, List.set_cons_succ]
                go_wp2_with fail
                go_meet
                exact HE
        by_cases e1 : z0 = 1
        · subst e1
          as_aux_lemma =>
          have o1 : w3.cell? ⟨ob, 1, none⟩ = some (.int .i64 z1) := (obj_cell (lp_ob HL3.out) 1).trans rfl
          have HX : Hid (SHs id W w3 s mb (1000 * (t + 1 : Nat)) (t + 1) (.slice pi gv.length ci) (.slice pl L.length cl) (.slice pz L.length cz) (.slice pb L.length cb)) := Lib.hid ⟨c, sn, sh, gv, L, sw, st, _, cc, HL3.out.le (RP.mono Rest.boxLe), HI.out.mono (by omega) (by omega)⟩
          by_cases hneg : z1 < 0
          · have dz : decide (z1 < 0) = true := decide_eq_true hneg
            as_aux_lemma =>
              go_wp2_with fail
              exact ⟨⟨t + 1, by omega, by go_num, HX⟩, by simp [intOf]; omega⟩
          obtain ⟨j, rfl⟩ : ∃ j : Nat, z1 = j := ⟨z1.toNat, by omega⟩
          by_cases hbig : L.length ≤ j
          · have dz : decide ((j : Int) < 0) = false := decide_eq_false (by omega)
            have dz2 : decide ((L.length : Int) ≤ (j : Int)) = true := decide_eq_true (by omega)
            as_aux_lemma =>
              go_wp2_with fail
              exact ⟨⟨t + 1, by omega, by go_num, HX⟩, by simp [intOf]; omega⟩
          have hjl : j < L.length := by omega
          have dz : decide ((j : Int) < 0) = false := decide_eq_false (by omega)
          have dz2 : decide ((L.length : Int) ≤ (j : Int)) = false := decide_eq_false (by omega)
          have ij0 : (0 : Int) ≤ (j : Int) := by omega
          have ij1 : (j : Int) < (L.length : Int) := by omega
          clear HX hneg hbig
          obtain ⟨x, hx⟩ : ∃ x, L[j]? = some x := ⟨L[j], List.getElem?_eq_getElem hjl⟩
          have HXJ := Lib.hid hx
          have HTX := Lib.hid (HI.out.ty x (List.mem_of_getElem? hx))
          have HOX := Lib.hid (HI.out.ok x (List.mem_of_getElem? hx))
          clear hx
          have HS3 : Hid (Sq W w3 s mb (bxS (two s.k) cc (.slice pg gv.length cg)) c sn sh gv sw st (.slice pi gv.length ci) (idsN sh.length gv.length) (.slice pg gv.length cg) gv ob #[.int .i64 1, .int .i64 (j : Int), .int .i64 z2] (.slice pl L.length cl) L.length (tsM L) (.slice pz L.length cz) L.length (nsM L) (.slice pb L.length cb) L.length (bsM L)) := HL3
          obtain ⟨bl, hpl⟩ : ∃ bl, pl = some ⟨bl, 0, none⟩ := by
            obtain ⟨g, cap, he⟩ := row_slice2 HS3.out.l (by omega)
            simp only [Value.slice.injEq] at he
            exact ⟨g, he.1⟩
          obtain ⟨bz, hpz⟩ : ∃ bz, pz = some ⟨bz, 0, none⟩ := by
            obtain ⟨g, cap, he⟩ := row_slice2 HS3.out.z (by omega)
            simp only [Value.slice.injEq] at he
            exact ⟨g, he.1⟩
          obtain ⟨bb, hpb⟩ : ∃ bb, pb = some ⟨bb, 0, none⟩ := by
            obtain ⟨g, cap, he⟩ := row_slice2 HS3.out.b (by omega)
            simp only [Value.slice.injEq] at he
            exact ⟨g, he.1⟩
          subst hpl hpz hpb
          have HTS : Hid (∀ y ∈ L, y.ts.toList.length = 40) := Lib.hid fun y hy => by simpa using (HI.out.ty y hy).size
          have hxs : x.ts.toList.length = 40 := HTS.out x (List.mem_of_getElem? HXJ.out)
          have HTIX : Hid ((Try.prog.info? 165).map (·.size) = some x.ts.toList.length) := Lib.hid (by rw [hxs]; kernel_rfl)
          have HHS : Hid (1 ≤ x.t.stg ∧ x.t.stg ≤ 7) := Lib.hid ⟨HOX.out.s1, HOX.out.s7⟩
          clear hxs
          go_upto_region 25 with (go_at_call 81; refine (lremaining HS3.out (by have := HB.out; omega) (by have := HB.out; omega) (by have := HB.out; omega)).mono ?_; rintro e w4 ⟨rfl, st2, b1, b2, hl⟩; have HS4 : Hid (Sq W w4 s mb (bxS (two s.k) cc (.slice pg gv.length cg)) c sn sh gv sw st2 (.slice pi gv.length ci) (idsN sh.length gv.length) (.slice pg gv.length cg) gv ob #[.int .i64 1, .int .i64 (j : Int), .int .i64 z2] (.slice (some ⟨bl, 0, none⟩) L.length cl) L.length (tsM L) (.slice (some ⟨bz, 0, none⟩) L.length cz) L.length (nsM L) (.slice (some ⟨bb, 0, none⟩) L.length cb) L.length (bsM L)) := Lib.hid hl; have HST2 := Lib.hid (And.intro b1 b2); clear hl b1 b2 o1)
          clear HS3 HL3
          have n1 : ∀ y : Later w4, y.to.cell? ⟨ob, 1, none⟩ = some (.int .i64 (j : Int)) := fun y => (obj_cell (HS4.out.keep y.below).o 1).trans rfl
          have n2 : ∀ y : Later w4, y.to.cell? ⟨bb, j, none⟩ = some (.bool x.b) := fun y => row1_at (HS4.out.keep y.below).b (by simp [bsM, HXJ.out])
          have n3 : ∀ y : Later w4, y.to.cell? ⟨bz, j, none⟩ = some (.int .i64 x.n) := fun y => row1_at (HS4.out.keep y.below).z (by simp [nsM, HXJ.out])
          have HRA : Hid (∀ w', (∃ y : Later w4, w' = y.to) → w'.rangeAt bl (j * 40) x.ts.toList) := Lib.hid fun w' ⟨y, hy⟩ => by
            subst hy
            exact row_range (f := fun y : Cm => y.ts.toList) (HS4.out.keep y.below).l HTS.out HXJ.out
          have HFR : Hid (∀ y : Later w4, y.to.frozen? ⟨bb, j, none⟩ = false) := Lib.hid fun y => (HS4.out.keep y.below).b.frozenAt j
          have HS6 : Hid (∀ (y : Later w4) (b' : Bool), Sq W (y.to.setCell ⟨bb, j, none⟩ (.bool b')) s mb (bxS (two s.k) cc (.slice pg gv.length cg)) c sn sh gv sw st2 (.slice pi gv.length ci) (idsN sh.length gv.length) (.slice pg gv.length cg) gv ob #[.int .i64 1, .int .i64 (j : Int), .int .i64 z2] (.slice (some ⟨bl, 0, none⟩) L.length cl) L.length (tsM L) (.slice (some ⟨bz, 0, none⟩) L.length cz) L.length (nsM L) (.slice (some ⟨bb, 0, none⟩) L.length cb) L.length ((bsM L).set j (.bool b'))) := Lib.hid fun y b' => (HS4.out.keep y.below).putB j (.bool b')
          have HDN : Hid (∀ y1 : Later w4, Calls Try.prog 105 #[.agg x.ts] y1.to fun e w'' => e = .returned (.bool (x.t.stg == 0 || x.t.stg == 6 || x.t.stg == 7)) ∧ ∃ y2 : Later w4, w'' = y2.to) := Lib.hid fun y1 => (tdone HTX.out.c2 y1.to).mono fun e w' ⟨he, hb⟩ => ⟨he, ⟨w', bthen y1.below hb⟩, rfl⟩
          have hcase : (x.b = true ∧ true = shortB (two s.k) c gv x.t x.n x.b) ∨ (x.b = false ∧ (x.t.stg == 0 || x.t.stg == 6 || x.t.stg == 7) = true ∧ false = shortB (two s.k) c gv x.t x.n x.b) ∨ (x.b = false ∧ (x.t.stg == 0 || x.t.stg == 6 || x.t.stg == 7) = false ∧ decide (remP (two s.k) c gv < x.n) = shortB (two s.k) c gv x.t x.n x.b) := by
            unfold shortB
            cases x.b
            · cases (x.t.stg == 0 || x.t.stg == 6 || x.t.stg == 7)
              · exact .inr (.inr ⟨rfl, rfl, by simp⟩)
              · exact .inr (.inl ⟨rfl, rfl, by simp⟩)
            · exact .inl ⟨rfl, by simp⟩
          clear dz dz2 HS4
          rcases hcase with ⟨h1, h3⟩ | ⟨h1, h2, h3⟩ | ⟨h1, h2, h3⟩
          · as_aux_lemma =>
              have HB1 := Lib.hid h3
              rw [h1] at n2
              clear h1 h3
              refine wp_region_later_tail 27 (by kernel_rfl) (by kernel_rfl) ?_
              simp only [List.take_succ_cons, List.take_zero, List.drop_succ_cons, List.drop_zero]
              repeat (first
                | (go_big_quiet_want; refine quiet_load_mid 165 (.tmp 115) rfl bl (j * 40) rfl x.ts.toList _ HRA.out Try.underlying165 rfl HTIX.out ?_; rw [Array.toArray_toList]; go_big_quiet_on; go_frame)
                | go_big_quiet_step ((go_at_call 105; exact HDN.out _)))
              refine wpQuiet_nil ?_
              intro w5 hw'
              obtain ⟨⟨w5', hb5⟩, hw5⟩ := hw'
              obtain rfl : w5 = w5' := hw5
              have k2 := n2 ⟨w5, hb5⟩
              have fr := HFR.out ⟨w5, hb5⟩
              simp only at k2 fr
              have HS7 := Lib.hid (HS6.out ⟨w5, hb5⟩)
              clear n1 n2 n3 HRA HFR HS6 HDN
              go_upto_region 26 with fail
              generalize hX : World.setCell _ _ _ = w6
              have HS8 : Hid (Sq W w6 s mb (bxS (two s.k) cc (.slice pg gv.length cg)) c sn sh gv sw st2 (.slice pi gv.length ci) (idsN sh.length gv.length) (.slice pg gv.length cg) gv ob #[.int .i64 1, .int .i64 (j : Int), .int .i64 z2] (.slice (some ⟨bl, 0, none⟩) L.length cl) L.length (tsM L) (.slice (some ⟨bz, 0, none⟩) L.length cz) L.length (nsM L) (.slice (some ⟨bb, 0, none⟩) L.length cb) L.length ((bsM L).set j (.bool (shortB (two s.k) c gv x.t x.n x.b)))) := Lib.hid (by
                rw [← hX, ← HB1.out]
                exact HS7.out _)
              clear hX HS7 k2 fr HB1 hb5
              have o1 : w6.cell? ⟨ob, 1, none⟩ = some (.int .i64 (j : Int)) := (obj_cell HS8.out.o 1).trans rfl
              have HRNG : Hid (w6.rangeAt bl (j * 40) x.ts.toList) := Lib.hid (row_range (f := fun y : Cm => y.ts.toList) HS8.out.l HTS.out HXJ.out)
              obtain ⟨c2, sn2, sw2, t2, hs2, hcs⟩ := sq_step HS8.out HI.out.g H64.out (by have := HB.out; omega) (by have := HB.out; omega) (by have := HB.out; have := HST2.out; omega) (by have := HB.out; have := HST2.out; omega) HTX.out HOX.out
              have HSO := Lib.hid hs2
              have HSTEP := Lib.hid hcs
              have HT7 : Hid (1 ≤ t2.stg ∧ t2.stg ≤ 7) := Lib.hid ⟨hs2.h.s1, hs2.h.s7⟩
              clear hs2 hcs
              go_upto_region 27 with (first
                | (refine wpList_load_mid rfl 165 (.tmp 134) rfl bl (j * 40) rfl x.ts.toList _ HRNG.out Try.underlying165 rfl HTIX.out ?_; rw [Array.toArray_toList])
                | (go_at_call 107; refine HSTEP.out.mono ?_; rintro e w7 ⟨st', ts2, b1, b2, rfl, hty, hl⟩; have HTY := Lib.hid hty; have HS9 := Lib.hid hl; have HST := Lib.hid (And.intro b1 b2); clear hty hl b1 b2 o1)
                | (refine wpList_alloc_try rfl rfl ?_; intro zs hzs; have HZS := Lib.hid hzs; clear hzs)
                | (refine wpList_store_row rfl 165 (.tmp 20) (.tmp 137) rfl w7.heap.size ts2 rfl rfl 165 _ (obj_new w7 _) HTY.out.info (by rw [HTY.out.size, HZS.out]) HTY.out.one ?_))
              generalize hX : World.setRow _ _ _ = w8
              obtain ⟨hq, hb8⟩ := stored_new hX
              have HQ := Lib.hid hq
              have HSa := Lib.hid (HS9.out.keep hb8)
              have HNE : Hid (w7.heap.size ≠ bl) := Lib.hid fun e => by
                have := (HS9.out.l.lt bl (by simp [Value.ownBlock])).2
                omega
              generalize w7.heap.size = nq at *
              clear hX hq hb8 HSTEP HRNG HS8
              have o1 : w8.cell? ⟨ob, 1, none⟩ = some (.int .i64 (j : Int)) := (obj_cell HSa.out.o 1).trans rfl
              have r2 : w8.cell? ⟨bb, j, none⟩ = some (.bool (shortB (two s.k) c gv x.t x.n x.b)) := row1_at HSa.out.b (by rw [List.getElem?_set_self (by simpa [bsM] using (List.getElem?_eq_some_iff.1 HXJ.out).1)])
              have HTL2 : Hid (ts2.toList.length = 40) := Lib.hid (by simpa using HTY.out.size)
              have HFIN : Hid (∀ w', Below w8.heap.size w8 w' → SHs id W (w'.setCells bl (j * 40) ts2.toList) s mb (1000 * t + 500) (t + 1) (.slice pi gv.length ci) (.slice (some ⟨bl, 0, none⟩) L.length cl) (.slice (some ⟨bz, 0, none⟩) L.length cz) (.slice (some ⟨bb, 0, none⟩) L.length cb)) := Lib.hid fun w' hb => by
                have hjl : j < L.length := (List.getElem?_eq_some_iff.1 HXJ.out).1
                have h1 := (HSa.out.keep hb).putL (x := ⟨ts2, t2, x.n, shortB (two s.k) c gv x.t x.n x.b⟩) hjl HTS.out HTL2.out
                have h2 := Lv.le h1 (RP.mono Rest.boxLe)
                refine ⟨c2, sn2, sh, gv, L.set j ⟨ts2, t2, x.n, shortB (two s.k) c gv x.t x.n x.b⟩, sw2, st', .slice pg gv.length cg, cc, ?_, HI.out.step rfl H64.out.2 HXJ.out HSO.out HTY.out (by have := HB.out; have := HST2.out; have := HST.out; omega) (by have := HB.out; have := HST2.out; have := HST.out; omega)⟩
                show Lv (RP (RS3 _ _ _ _ _ _ _ _ _ _) _ _ _ _ _ _ _ _ _) _ _ _ _ _ _ _ _ _
                rw [List.length_set, nsM_set (y := ⟨ts2, t2, x.n, shortB (two s.k) c gv x.t x.n x.b⟩) HXJ.out rfl, bsM_set]
                exact h2
              have HTI := Lib.hid HTY.out.info
              have ht71 := HT7.out
              by_cases h7 : t2.stg = 7
              · as_aux_lemma =>
                  have e7 : (t2.stg == 7) = true := by simpa using h7
                  have hs1 : shortB (two s.k) c gv x.t x.n x.b = true := HSO.out.h.a7 h7
                  rw [hs1] at r2
                  clear h7 hs1
                  go_upto_region 29 with (first
                    | (refine wpList_load_row_g rfl 165 (.tmp 20) rfl nq rfl 165 ts2 (0, 0) _ HQ.out Try.underlying165 rfl HTI.out ?_)
                    | (go_at_call 109; refine (tfull HTY.out.c2 _).mono ?_; rintro e w9 ⟨rfl, hb⟩; rw [e7]; have HB9 := Lib.hid hb; have o9 := keepc hb o1; have r9 := keepc hb r2; clear hb o1 r2))
                  have HQ9 := Lib.hid ((HB9.out.block _ (lt_of_block HQ.out)).trans HQ.out)
                  have HTH : Hid (w9.there bl (j * 40) ts2.size) := Lib.hid (by
                    rw [HTY.out.size]
                    exact there_row (HSa.out.keep HB9.out).l (List.getElem?_eq_some_iff.1 HXJ.out).1)
                  go_wp2_with (first
                    | (refine wpList_load_row rfl 165 (.tmp 20) rfl nq rfl 165 ts2 (0, 0) _ HQ9.out Try.underlying165 rfl HTI.out ?_)
                    | (refine wpList_store_mid rfl 165 (.tmp 157) (.tmp 156) rfl bl (j * 40) ts2 rfl rfl HTH.out HTI.out HTY.out.one ?_))
                  go_meet
                  exact Lib.hid (HFIN.out _ HB9.out)
              · as_aux_lemma =>
                  have e7 : (t2.stg == 7) = false := by simpa using h7
                  clear h7
                  go_upto_region 29 with (first
                    | (refine wpList_load_row_g rfl 165 (.tmp 20) rfl nq rfl 165 ts2 (0, 0) _ HQ.out Try.underlying165 rfl HTI.out ?_)
                    | (go_at_call 109; refine (tfull HTY.out.c2 _).mono ?_; rintro e w9 ⟨rfl, hb⟩; rw [e7]; have HB9 := Lib.hid hb; have o9 := keepc hb o1; clear hb o1 r2))
                  have HQ9 := Lib.hid ((HB9.out.block _ (lt_of_block HQ.out)).trans HQ.out)
                  have HTH : Hid (w9.there bl (j * 40) ts2.size) := Lib.hid (by
                    rw [HTY.out.size]
                    exact there_row (HSa.out.keep HB9.out).l (List.getElem?_eq_some_iff.1 HXJ.out).1)
                  go_wp2_with (first
                    | (refine wpList_load_row rfl 165 (.tmp 20) rfl nq rfl 165 ts2 (0, 0) _ HQ9.out Try.underlying165 rfl HTI.out ?_)
                    | (refine wpList_store_mid rfl 165 (.tmp 157) (.tmp 156) rfl bl (j * 40) ts2 rfl rfl HTH.out HTI.out HTY.out.one ?_))
                  go_meet
                  exact Lib.hid (HFIN.out _ HB9.out)
          · as_aux_lemma =>
              have HB1 := Lib.hid h3
              rw [h1] at n2
              rw [h2] at HDN
              clear h1 h2 h3
              refine wp_region_later_tail 27 (by kernel_rfl) (by kernel_rfl) ?_
              simp only [List.take_succ_cons, List.take_zero, List.drop_succ_cons, List.drop_zero]
              repeat (first
                | (go_big_quiet_want; refine quiet_load_mid 165 (.tmp 115) rfl bl (j * 40) rfl x.ts.toList _ HRA.out Try.underlying165 rfl HTIX.out ?_; rw [Array.toArray_toList]; go_big_quiet_on; go_frame)
                | go_big_quiet_step ((go_at_call 105; exact HDN.out _)))
              refine wpQuiet_nil ?_
              intro w5 hw'
              obtain ⟨⟨w5', hb5⟩, hw5⟩ := hw'
              obtain rfl : w5 = w5' := hw5
              have k2 := n2 ⟨w5, hb5⟩
              have fr := HFR.out ⟨w5, hb5⟩
              simp only at k2 fr
              have HS7 := Lib.hid (HS6.out ⟨w5, hb5⟩)
              clear n1 n2 n3 HRA HFR HS6 HDN
              go_upto_region 26 with fail
              generalize hX : World.setCell _ _ _ = w6
              have HS8 : Hid (Sq W w6 s mb (bxS (two s.k) cc (.slice pg gv.length cg)) c sn sh gv sw st2 (.slice pi gv.length ci) (idsN sh.length gv.length) (.slice pg gv.length cg) gv ob #[.int .i64 1, .int .i64 (j : Int), .int .i64 z2] (.slice (some ⟨bl, 0, none⟩) L.length cl) L.length (tsM L) (.slice (some ⟨bz, 0, none⟩) L.length cz) L.length (nsM L) (.slice (some ⟨bb, 0, none⟩) L.length cb) L.length ((bsM L).set j (.bool (shortB (two s.k) c gv x.t x.n x.b)))) := Lib.hid (by
                rw [← hX, ← HB1.out]
                exact HS7.out _)
              clear hX HS7 k2 fr HB1 hb5
              have o1 : w6.cell? ⟨ob, 1, none⟩ = some (.int .i64 (j : Int)) := (obj_cell HS8.out.o 1).trans rfl
              have HRNG : Hid (w6.rangeAt bl (j * 40) x.ts.toList) := Lib.hid (row_range (f := fun y : Cm => y.ts.toList) HS8.out.l HTS.out HXJ.out)
              obtain ⟨c2, sn2, sw2, t2, hs2, hcs⟩ := sq_step HS8.out HI.out.g H64.out (by have := HB.out; omega) (by have := HB.out; omega) (by have := HB.out; have := HST2.out; omega) (by have := HB.out; have := HST2.out; omega) HTX.out HOX.out
              have HSO := Lib.hid hs2
              have HSTEP := Lib.hid hcs
              have HT7 : Hid (1 ≤ t2.stg ∧ t2.stg ≤ 7) := Lib.hid ⟨hs2.h.s1, hs2.h.s7⟩
              clear hs2 hcs
              go_upto_region 27 with (first
                | (refine wpList_load_mid rfl 165 (.tmp 134) rfl bl (j * 40) rfl x.ts.toList _ HRNG.out Try.underlying165 rfl HTIX.out ?_; rw [Array.toArray_toList])
                | (go_at_call 107; refine HSTEP.out.mono ?_; rintro e w7 ⟨st', ts2, b1, b2, rfl, hty, hl⟩; have HTY := Lib.hid hty; have HS9 := Lib.hid hl; have HST := Lib.hid (And.intro b1 b2); clear hty hl b1 b2 o1)
                | (refine wpList_alloc_try rfl rfl ?_; intro zs hzs; have HZS := Lib.hid hzs; clear hzs)
                | (refine wpList_store_row rfl 165 (.tmp 20) (.tmp 137) rfl w7.heap.size ts2 rfl rfl 165 _ (obj_new w7 _) HTY.out.info (by rw [HTY.out.size, HZS.out]) HTY.out.one ?_))
              generalize hX : World.setRow _ _ _ = w8
              obtain ⟨hq, hb8⟩ := stored_new hX
              have HQ := Lib.hid hq
              have HSa := Lib.hid (HS9.out.keep hb8)
              have HNE : Hid (w7.heap.size ≠ bl) := Lib.hid fun e => by
                have := (HS9.out.l.lt bl (by simp [Value.ownBlock])).2
                omega
              generalize w7.heap.size = nq at *
              clear hX hq hb8 HSTEP HRNG HS8
              have o1 : w8.cell? ⟨ob, 1, none⟩ = some (.int .i64 (j : Int)) := (obj_cell HSa.out.o 1).trans rfl
              have r2 : w8.cell? ⟨bb, j, none⟩ = some (.bool (shortB (two s.k) c gv x.t x.n x.b)) := row1_at HSa.out.b (by rw [List.getElem?_set_self (by simpa [bsM] using (List.getElem?_eq_some_iff.1 HXJ.out).1)])
              have HTL2 : Hid (ts2.toList.length = 40) := Lib.hid (by simpa using HTY.out.size)
              have HFIN : Hid (∀ w', Below w8.heap.size w8 w' → SHs id W (w'.setCells bl (j * 40) ts2.toList) s mb (1000 * t + 500) (t + 1) (.slice pi gv.length ci) (.slice (some ⟨bl, 0, none⟩) L.length cl) (.slice (some ⟨bz, 0, none⟩) L.length cz) (.slice (some ⟨bb, 0, none⟩) L.length cb)) := Lib.hid fun w' hb => by
                have hjl : j < L.length := (List.getElem?_eq_some_iff.1 HXJ.out).1
                have h1 := (HSa.out.keep hb).putL (x := ⟨ts2, t2, x.n, shortB (two s.k) c gv x.t x.n x.b⟩) hjl HTS.out HTL2.out
                have h2 := Lv.le h1 (RP.mono Rest.boxLe)
                refine ⟨c2, sn2, sh, gv, L.set j ⟨ts2, t2, x.n, shortB (two s.k) c gv x.t x.n x.b⟩, sw2, st', .slice pg gv.length cg, cc, ?_, HI.out.step rfl H64.out.2 HXJ.out HSO.out HTY.out (by have := HB.out; have := HST2.out; have := HST.out; omega) (by have := HB.out; have := HST2.out; have := HST.out; omega)⟩
                show Lv (RP (RS3 _ _ _ _ _ _ _ _ _ _) _ _ _ _ _ _ _ _ _) _ _ _ _ _ _ _ _ _
                rw [List.length_set, nsM_set (y := ⟨ts2, t2, x.n, shortB (two s.k) c gv x.t x.n x.b⟩) HXJ.out rfl, bsM_set]
                exact h2
              have HTI := Lib.hid HTY.out.info
              have ht71 := HT7.out
              by_cases h7 : t2.stg = 7
              · as_aux_lemma =>
                  have e7 : (t2.stg == 7) = true := by simpa using h7
                  have hs1 : shortB (two s.k) c gv x.t x.n x.b = true := HSO.out.h.a7 h7
                  rw [hs1] at r2
                  clear h7 hs1
                  go_upto_region 29 with (first
                    | (refine wpList_load_row_g rfl 165 (.tmp 20) rfl nq rfl 165 ts2 (0, 0) _ HQ.out Try.underlying165 rfl HTI.out ?_)
                    | (go_at_call 109; refine (tfull HTY.out.c2 _).mono ?_; rintro e w9 ⟨rfl, hb⟩; rw [e7]; have HB9 := Lib.hid hb; have o9 := keepc hb o1; have r9 := keepc hb r2; clear hb o1 r2))
                  have HQ9 := Lib.hid ((HB9.out.block _ (lt_of_block HQ.out)).trans HQ.out)
                  have HTH : Hid (w9.there bl (j * 40) ts2.size) := Lib.hid (by
                    rw [HTY.out.size]
                    exact there_row (HSa.out.keep HB9.out).l (List.getElem?_eq_some_iff.1 HXJ.out).1)
                  go_wp2_with (first
                    | (refine wpList_load_row rfl 165 (.tmp 20) rfl nq rfl 165 ts2 (0, 0) _ HQ9.out Try.underlying165 rfl HTI.out ?_)
                    | (refine wpList_store_mid rfl 165 (.tmp 157) (.tmp 156) rfl bl (j * 40) ts2 rfl rfl HTH.out HTI.out HTY.out.one ?_))
                  go_meet
                  exact Lib.hid (HFIN.out _ HB9.out)
              · as_aux_lemma =>
                  have e7 : (t2.stg == 7) = false := by simpa using h7
                  clear h7
                  go_upto_region 29 with (first
                    | (refine wpList_load_row_g rfl 165 (.tmp 20) rfl nq rfl 165 ts2 (0, 0) _ HQ.out Try.underlying165 rfl HTI.out ?_)
                    | (go_at_call 109; refine (tfull HTY.out.c2 _).mono ?_; rintro e w9 ⟨rfl, hb⟩; rw [e7]; have HB9 := Lib.hid hb; have o9 := keepc hb o1; clear hb o1 r2))
                  have HQ9 := Lib.hid ((HB9.out.block _ (lt_of_block HQ.out)).trans HQ.out)
                  have HTH : Hid (w9.there bl (j * 40) ts2.size) := Lib.hid (by
                    rw [HTY.out.size]
                    exact there_row (HSa.out.keep HB9.out).l (List.getElem?_eq_some_iff.1 HXJ.out).1)
                  go_wp2_with (first
                    | (refine wpList_load_row rfl 165 (.tmp 20) rfl nq rfl 165 ts2 (0, 0) _ HQ9.out Try.underlying165 rfl HTI.out ?_)
                    | (refine wpList_store_mid rfl 165 (.tmp 157) (.tmp 156) rfl bl (j * 40) ts2 rfl rfl HTH.out HTI.out HTY.out.one ?_))
                  go_meet
                  exact Lib.hid (HFIN.out _ HB9.out)
          · as_aux_lemma =>
              have HB1 := Lib.hid h3
              rw [h1] at n2
              rw [h2] at HDN
              clear h1 h2 h3
              refine wp_region_later_tail 27 (by kernel_rfl) (by kernel_rfl) ?_
              simp only [List.take_succ_cons, List.take_zero, List.drop_succ_cons, List.drop_zero]
              repeat (first
                | (go_big_quiet_want; refine quiet_load_mid 165 (.tmp 115) rfl bl (j * 40) rfl x.ts.toList _ HRA.out Try.underlying165 rfl HTIX.out ?_; rw [Array.toArray_toList]; go_big_quiet_on; go_frame)
                | go_big_quiet_step ((go_at_call 105; exact HDN.out _)))
              refine wpQuiet_nil ?_
              intro w5 hw'
              obtain ⟨⟨w5', hb5⟩, hw5⟩ := hw'
              obtain rfl : w5 = w5' := hw5
              have k2 := n2 ⟨w5, hb5⟩
              have fr := HFR.out ⟨w5, hb5⟩
              simp only at k2 fr
              have HS7 := Lib.hid (HS6.out ⟨w5, hb5⟩)
              clear n1 n2 n3 HRA HFR HS6 HDN
              go_upto_region 26 with fail
              generalize hX : World.setCell _ _ _ = w6
              have HS8 : Hid (Sq W w6 s mb (bxS (two s.k) cc (.slice pg gv.length cg)) c sn sh gv sw st2 (.slice pi gv.length ci) (idsN sh.length gv.length) (.slice pg gv.length cg) gv ob #[.int .i64 1, .int .i64 (j : Int), .int .i64 z2] (.slice (some ⟨bl, 0, none⟩) L.length cl) L.length (tsM L) (.slice (some ⟨bz, 0, none⟩) L.length cz) L.length (nsM L) (.slice (some ⟨bb, 0, none⟩) L.length cb) L.length ((bsM L).set j (.bool (shortB (two s.k) c gv x.t x.n x.b)))) := Lib.hid (by
                rw [← hX, ← HB1.out]
                exact HS7.out _)
              clear hX HS7 k2 fr HB1 hb5
              have o1 : w6.cell? ⟨ob, 1, none⟩ = some (.int .i64 (j : Int)) := (obj_cell HS8.out.o 1).trans rfl
              have HRNG : Hid (w6.rangeAt bl (j * 40) x.ts.toList) := Lib.hid (row_range (f := fun y : Cm => y.ts.toList) HS8.out.l HTS.out HXJ.out)
              obtain ⟨c2, sn2, sw2, t2, hs2, hcs⟩ := sq_step HS8.out HI.out.g H64.out (by have := HB.out; omega) (by have := HB.out; omega) (by have := HB.out; have := HST2.out; omega) (by have := HB.out; have := HST2.out; omega) HTX.out HOX.out
              have HSO := Lib.hid hs2
              have HSTEP := Lib.hid hcs
              have HT7 : Hid (1 ≤ t2.stg ∧ t2.stg ≤ 7) := Lib.hid ⟨hs2.h.s1, hs2.h.s7⟩
              clear hs2 hcs
              go_upto_region 27 with (first
                | (refine wpList_load_mid rfl 165 (.tmp 134) rfl bl (j * 40) rfl x.ts.toList _ HRNG.out Try.underlying165 rfl HTIX.out ?_; rw [Array.toArray_toList])
                | (go_at_call 107; refine HSTEP.out.mono ?_; rintro e w7 ⟨st', ts2, b1, b2, rfl, hty, hl⟩; have HTY := Lib.hid hty; have HS9 := Lib.hid hl; have HST := Lib.hid (And.intro b1 b2); clear hty hl b1 b2 o1)
                | (refine wpList_alloc_try rfl rfl ?_; intro zs hzs; have HZS := Lib.hid hzs; clear hzs)
                | (refine wpList_store_row rfl 165 (.tmp 20) (.tmp 137) rfl w7.heap.size ts2 rfl rfl 165 _ (obj_new w7 _) HTY.out.info (by rw [HTY.out.size, HZS.out]) HTY.out.one ?_))
              generalize hX : World.setRow _ _ _ = w8
              obtain ⟨hq, hb8⟩ := stored_new hX
              have HQ := Lib.hid hq
              have HSa := Lib.hid (HS9.out.keep hb8)
              have HNE : Hid (w7.heap.size ≠ bl) := Lib.hid fun e => by
                have := (HS9.out.l.lt bl (by simp [Value.ownBlock])).2
                omega
              generalize w7.heap.size = nq at *
              clear hX hq hb8 HSTEP HRNG HS8
              have o1 : w8.cell? ⟨ob, 1, none⟩ = some (.int .i64 (j : Int)) := (obj_cell HSa.out.o 1).trans rfl
              have r2 : w8.cell? ⟨bb, j, none⟩ = some (.bool (shortB (two s.k) c gv x.t x.n x.b)) := row1_at HSa.out.b (by rw [List.getElem?_set_self (by simpa [bsM] using (List.getElem?_eq_some_iff.1 HXJ.out).1)])
              have HTL2 : Hid (ts2.toList.length = 40) := Lib.hid (by simpa using HTY.out.size)
              have HFIN : Hid (∀ w', Below w8.heap.size w8 w' → SHs id W (w'.setCells bl (j * 40) ts2.toList) s mb (1000 * t + 500) (t + 1) (.slice pi gv.length ci) (.slice (some ⟨bl, 0, none⟩) L.length cl) (.slice (some ⟨bz, 0, none⟩) L.length cz) (.slice (some ⟨bb, 0, none⟩) L.length cb)) := Lib.hid fun w' hb => by
                have hjl : j < L.length := (List.getElem?_eq_some_iff.1 HXJ.out).1
                have h1 := (HSa.out.keep hb).putL (x := ⟨ts2, t2, x.n, shortB (two s.k) c gv x.t x.n x.b⟩) hjl HTS.out HTL2.out
                have h2 := Lv.le h1 (RP.mono Rest.boxLe)
                refine ⟨c2, sn2, sh, gv, L.set j ⟨ts2, t2, x.n, shortB (two s.k) c gv x.t x.n x.b⟩, sw2, st', .slice pg gv.length cg, cc, ?_, HI.out.step rfl H64.out.2 HXJ.out HSO.out HTY.out (by have := HB.out; have := HST2.out; have := HST.out; omega) (by have := HB.out; have := HST2.out; have := HST.out; omega)⟩
                show Lv (RP (RS3 _ _ _ _ _ _ _ _ _ _) _ _ _ _ _ _ _ _ _) _ _ _ _ _ _ _ _ _
                rw [List.length_set, nsM_set (y := ⟨ts2, t2, x.n, shortB (two s.k) c gv x.t x.n x.b⟩) HXJ.out rfl, bsM_set]
                exact h2
              have HTI := Lib.hid HTY.out.info
              have ht71 := HT7.out
              by_cases h7 : t2.stg = 7
              · as_aux_lemma =>
                  have e7 : (t2.stg == 7) = true := by simpa using h7
                  have hs1 : shortB (two s.k) c gv x.t x.n x.b = true := HSO.out.h.a7 h7
                  rw [hs1] at r2
                  clear h7 hs1
                  go_upto_region 29 with (first
                    | (refine wpList_load_row_g rfl 165 (.tmp 20) rfl nq rfl 165 ts2 (0, 0) _ HQ.out Try.underlying165 rfl HTI.out ?_)
                    | (go_at_call 109; refine (tfull HTY.out.c2 _).mono ?_; rintro e w9 ⟨rfl, hb⟩; rw [e7]; have HB9 := Lib.hid hb; have o9 := keepc hb o1; have r9 := keepc hb r2; clear hb o1 r2))
                  have HQ9 := Lib.hid ((HB9.out.block _ (lt_of_block HQ.out)).trans HQ.out)
                  have HTH : Hid (w9.there bl (j * 40) ts2.size) := Lib.hid (by
                    rw [HTY.out.size]
                    exact there_row (HSa.out.keep HB9.out).l (List.getElem?_eq_some_iff.1 HXJ.out).1)
                  go_wp2_with (first
                    | (refine wpList_load_row rfl 165 (.tmp 20) rfl nq rfl 165 ts2 (0, 0) _ HQ9.out Try.underlying165 rfl HTI.out ?_)
                    | (refine wpList_store_mid rfl 165 (.tmp 157) (.tmp 156) rfl bl (j * 40) ts2 rfl rfl HTH.out HTI.out HTY.out.one ?_))
                  go_meet
                  exact Lib.hid (HFIN.out _ HB9.out)
              · as_aux_lemma =>
                  have e7 : (t2.stg == 7) = false := by simpa using h7
                  clear h7
                  go_upto_region 29 with (first
                    | (refine wpList_load_row_g rfl 165 (.tmp 20) rfl nq rfl 165 ts2 (0, 0) _ HQ.out Try.underlying165 rfl HTI.out ?_)
                    | (go_at_call 109; refine (tfull HTY.out.c2 _).mono ?_; rintro e w9 ⟨rfl, hb⟩; rw [e7]; have HB9 := Lib.hid hb; have o9 := keepc hb o1; clear hb o1 r2))
                  have HQ9 := Lib.hid ((HB9.out.block _ (lt_of_block HQ.out)).trans HQ.out)
                  have HTH : Hid (w9.there bl (j * 40) ts2.size) := Lib.hid (by
                    rw [HTY.out.size]
                    exact there_row (HSa.out.keep HB9.out).l (List.getElem?_eq_some_iff.1 HXJ.out).1)
                  go_wp2_with (first
                    | (refine wpList_load_row rfl 165 (.tmp 20) rfl nq rfl 165 ts2 (0, 0) _ HQ9.out Try.underlying165 rfl HTI.out ?_)
                    | (refine wpList_store_mid rfl 165 (.tmp 157) (.tmp 156) rfl bl (j * 40) ts2 rfl rfl HTH.out HTI.out HTY.out.one ?_))
                  go_meet
                  exact Lib.hid (HFIN.out _ HB9.out)
        by_cases e2 : z0 = 2
        · subst e2
          as_aux_lemma =>
            have o2 : w3.cell? ⟨ob, 2, none⟩ = some (.int .i64 z2) := (obj_cell (lp_ob HL3.out) 2).trans rfl
            go_upto_region 32 with (go_at_call 82; refine (lclaimed HL3.out (by have := HB.out; omega) (by have := HB.out; omega)).mono ?_; rintro e w4 ⟨rfl, hl4⟩; have HL4 := Lib.hid hl4; have k1 : w4.cell? ⟨mb, 1, none⟩ = some (.int .i64 cc) := (obj_cell (lp_box hl4) 1).trans rfl; have fr := obj_free (lp_box hl4) 1; clear hl4 o2)
            have HL5 := Lib.hid (lp_set HL4.out 1 (.int .i64 c))
            rw [show (bxS (two s.k) cc (.slice pg gv.length cg)).setIfInBounds 1 (.int .i64 c) = bxS (two s.k) c (.slice pg gv.length cg) from rfl] at HL5
            generalize World.setCell _ _ _ = w5 at *
            clear HL4 k1
            have o2 : w5.cell? ⟨ob, 2, none⟩ = some (.int .i64 z2) := (obj_cell (lp_ob HL5.out) 2).trans rfl
            have HHD : Hid (Calls Try.prog 110 #[.pointer (some ⟨W.heap.size, 0, none⟩), .pointer (some ⟨mb, 0, none⟩), .slice pi gv.length ci, .int .i64 z2] w5 fun e w' => e = .returned (.bool true) ∧ ∃ gv' st', HeldP c gv gv' ∧ st + 1 ≤ st' ∧ st' ≤ st + 1 + 1 ∧ Lv (RP ((RS W.heap.size (.slice pl L.length cl) (.slice pz L.length cz) (.slice pb L.length cb) L).box W.heap.size ob #[.int .i64 2, .int .i64 z1, .int .i64 z2] 162) W.heap.size mb (bxS (two s.k) c (.slice pg gv.length cg)) (.slice pi gv.length ci) (idsN sh.length gv.length) (.slice pg gv.length cg) gv' (.slice none 0 0) []) W w' s c sn sh gv' sw st') := Lib.hid (by
              have := held_any HL5.out c rfl rfl z2 (fun x hx => by
                obtain ⟨i, hi, rfl⟩ := List.mem_iff_getElem.1 hx
                have q1 := HI.out.g.g1 i hi
                have q2 := HI.out.g.g2 i hi
                rw [List.getD_eq_getElem?_getD, List.getElem?_eq_getElem hi] at q1 q2
                simp only [Option.getD_some] at q1 q2
                have := HB.out
                omega) (by have := HB.out; omega) HB.out.2.2.2.2.1 (by have := HB.out; omega) (by have := HB.out; omega)
              rw [HSB.out] at this
              exact this)
            go_wp2_with (go_at_call 110; refine HHD.out.mono ?_; rintro e w6 ⟨rfl, gv', st', hh, a1, a2, hl⟩; have HH := Lib.hid hh; have HL6 := Lib.hid hl; clear hl hh)
            go_meet
            refine Lib.hid ⟨c, sn, sh, gv', L, sw, st', .slice pg gv.length cg, c, ?_, HI.out.held HH.out (by have := HB.out; omega) (by have := HB.out; omega)⟩
            rw [HH.out.len]
            exact HL6.out.le (RP.mono Rest.boxLe)
        by_cases e3 : z0 = 3
        · subst e3
          as_aux_lemma =>
          have HX : Hid (SHs id W w3 s mb (1000 * (t + 1 : Nat)) (t + 1) (.slice pi gv.length ci) (.slice pl L.length cl) (.slice pz L.length cz) (.slice pb L.length cb)) := Lib.hid ⟨c, sn, sh, gv, L, sw, st, _, cc, HL3.out.le (RP.mono Rest.boxLe), HI.out.mono (by omega) (by omega)⟩
          by_cases h0 : 20 ≤ gv.length
          · have eg : decide ((20 : Int) ≤ (gv.length : Int)) = true := decide_eq_true (by omega)
            as_aux_lemma =>
              go_wp2_with fail
              exact ⟨⟨t + 1, by omega, by go_num, HX⟩, by simp [intOf]; omega⟩
          · have eg : decide ((20 : Int) ≤ (gv.length : Int)) = false := decide_eq_false (by omega)
            have HGL : Hid (gv.length < 20) := Lib.hid (by omega)
            clear h0 HX
            as_aux_lemma =>
              obtain ⟨idv, hidv⟩ : ∃ idv : Int, idv = ((sh.length + 2 + gv.length : Nat) : Int) := ⟨_, rfl⟩
              have HIV := Lib.hid hidv
              go_upto_region 37 with (go_at_call 82; refine (lclaimed HL3.out (by have := HB.out; omega) (by have := HB.out; omega)).mono ?_; rintro e w4 ⟨rfl, hl4⟩; have HL4 := Lib.hid hl4; clear hl4)
              have HAL : Hid (Calls Try.prog 78 #[.pointer (some ⟨W.heap.size, 0, none⟩), .int .i64 c] w4 fun e w' => e = .returned (.tuple #[.int .i64 idv, .nilIface]) ∧ Lh (RP ((RS W.heap.size (.slice pl L.length cl) (.slice pz L.length cz) (.slice pb L.length cb) L).box W.heap.size ob #[.int .i64 3, .int .i64 z1, .int .i64 z2] 162) W.heap.size mb (bxS (two s.k) cc (.slice pg gv.length cg)) (.slice pi gv.length ci) (idsN sh.length gv.length) (.slice pg gv.length cg) gv (.slice none 0 0) []) W w' s c sn sh gv c sw (st + 1)) := Lib.hid (by
                have := lalloc HL4.out c
                rw [HSB.out] at this
                rw [HIV.out]
                exact this)
              have HAD : Hid (∀ w, Lh (RP ((RS W.heap.size (.slice pl L.length cl) (.slice pz L.length cz) (.slice pb L.length cb) L).box W.heap.size ob #[.int .i64 3, .int .i64 z1, .int .i64 z2] 162) W.heap.size mb (bxS (two s.k) cc (.slice pg gv.length cg)) (.slice pi gv.length ci) (idsN sh.length gv.length) (.slice pg gv.length cg) gv (.slice none 0 0) []) W w s c sn sh gv c sw (st + 1) → Calls Try.prog 80 #[.pointer (some ⟨s.p, 5, none⟩), .int .i64 idv] w fun e w' => e = .returned .nilIface ∧ St ((RS W.heap.size (.slice pl L.length cl) (.slice pz L.length cz) (.slice pb L.length cb) L).box W.heap.size ob #[.int .i64 3, .int .i64 z1, .int .i64 z2] 162) W w' s mb (bxS (two s.k) cc (.slice pg gv.length cg)) c sn sh (gv ++ [c]) sw (st + 1) (.slice pi gv.length ci) gv.length (idsN sh.length gv.length) (.slice pg gv.length cg) gv.length gv (.slice none 0 0) []) := Lib.hid fun w h => by
                rw [HIV.out]
                exact (ladd h (by have := HGL.out; omega)).mono fun e w' ⟨he, hl⟩ => ⟨he, hl, idsN_len _ _, rfl⟩
              clear hidv HL3
              go_upto_region 40 with (first
                | (go_at_call 78; refine HAL.out.mono ?_; rintro e w5 ⟨rfl, hl⟩; have HL5 := Lib.hid hl; clear hl)
                | (go_at_call 79; refine (mgate_some _ _).mono ?_; rintro e w6 ⟨rfl, rfl⟩)
                | (go_at_call 80; refine (HAD.out _ HL5.out).mono ?_; rintro e w6 ⟨rfl, hl⟩; have HL6 := Lib.hid hl; clear hl HL5))
              have HS := Lib.hid (HL6.out.keep (Below.drew (Below.refl _ w6)))
              have k3 : w6.cell? ⟨mb, 3, none⟩ = some (.slice pg gv.length cg) := (obj_cell (lp_box HL6.out.1) 3).trans rfl
              have nn : ∀ o, (w6.alloc o).cell? ⟨mb, 3, none⟩ = _ := fun o => keepc (balloc (Below.refl _ _) o) k3
              have nn1 : ∀ o o', ((w6.alloc o).alloc o').cell? ⟨mb, 3, none⟩ = _ := fun o o' => keepc (balloc (balloc (Below.refl _ _) o) o') k3
              have kd3 : w6.drew.cell? ⟨mb, 3, none⟩ = some (.slice pg gv.length cg) := k3
              obtain ⟨i0, ji, jz0, jz1, jz2⟩ := info_parts infoI64
              obtain ⟨n0, ki, kz0, kz1, kz2⟩ := info_parts infoN
              have hb20 : gv.length ≤ 20 := by have := HGL.out; omega
              have HM : Hid (ShI s.p (two s.k) c sn sh.length (gv ++ [c]) L (st + 1) (1000 * t + 500) (t + 1)) := Lib.hid (HI.out.more H64.out.1 HGL.out (by have := HB.out; omega) (by have := HB.out; omega))
              have HLEN : Hid (idsN sh.length (gv ++ [c]).length = idsN sh.length gv.length ++ [idv]) := Lib.hid (by
                rw [HIV.out, List.length_append, List.length_singleton]
                exact idsN_succ _ _)
              rw [show (Op.load 46 (.tmp 197) : Op) = ldS from rfl]
              go_region_held3 (fun w' => True) (first | exact True.intro | trivial) (first
                | (refine step_append_row (by rfl) (.tmp 192) (.tmp 194) 38 (by rfl) 3 n0 (.int .i64 0) 1 8 Try.underlying38 ki kz0 kz1 kz2 (by rfl) (by decide) (.slice pi gv.length ci) gv.length _ (by rfl) (HS.out.keep (by first | exact balloc (Below.refl _ _) _ | exact balloc (balloc (Below.refl _ _) _) _ | exact Below.refl _ _)).rowI ⟨_, 0, none⟩ 1 1 [.int .i64 idv] (by rfl) (by rfl) (news1 (by first | exact newcell (by simp) | exact newcell2 (by simp) | exact hp _ _ (by simp) (newcell (by simp)) | exact hp _ _ (by simp) (newcell2 (by simp)))) (fun x hx => by simp at hx; subst hx; rfl) (by unfold maxLen; omega) (by omega) ?_; intro v' w7 hown hf hv; have hp : ∀ g u, w6.heap.size ≤ g → World.cell? _ ⟨g, 0, none⟩ = some u → w7.cell? ⟨g, 0, none⟩ = some u := (fun g u hg h => hf.cell h fun e => by have := (HL6.out.rowI.lt g e).2; omega); replace HS := Lib.hid ((HS.out.keep (by first | exact balloc (Below.refl _ _) _ | exact balloc (balloc (Below.refl _ _) _) _ | exact Below.refl _ _)).appI idv hown hf hv); obtain ⟨pI, cI, rfl, -⟩ := row_form hown; have j3 : w7.cell? ⟨mb, 3, none⟩ = some (.slice pg gv.length cg) := (obj_cell (lp_box HS.out.1) 3).trans rfl; have fr := obj_free (lp_box HS.out.1) 3; have n6 : ∀ o, (w7.alloc o).cell? ⟨mb, 3, none⟩ = _ := (fun o => keepc (balloc (Below.refl _ _) o) j3); clear hown hf hv)
                | (refine step_append_row (by rfl) (.tmp 198) (.tmp 200) 46 (by rfl) 2 i0 (.int .i64 0) 1 8 Try.underlying46 ji jz0 jz1 jz2 (by rfl) (by decide) (.slice pg gv.length cg) gv.length _ (by rfl) (HS.out.keep (by first | exact balloc (Below.refl _ _) _ | exact balloc (balloc (Below.refl _ _) _) _ | exact Below.refl _ _)).rowG ⟨_, 0, none⟩ 1 1 [.int .i64 c] (by rfl) (by rfl) (news1 (by first | exact newcell (by simp) | exact newcell2 (by simp) | exact hp _ _ (by simp) (newcell (by simp)) | exact hp _ _ (by simp) (newcell2 (by simp)))) (fun x hx => by simp at hx; subst hx; rfl) (by unfold maxLen; omega) (by omega) ?_; intro v' w7 hown hf hv; have hp : ∀ g u, w6.heap.size ≤ g → World.cell? _ ⟨g, 0, none⟩ = some u → w7.cell? ⟨g, 0, none⟩ = some u := (fun g u hg h => hf.cell h fun e => by have := (HL6.out.rowG.lt g e).2; omega); replace HS := Lib.hid ((HS.out.keep (by first | exact balloc (Below.refl _ _) _ | exact balloc (balloc (Below.refl _ _) _) _ | exact Below.refl _ _)).appG c hown hf hv); obtain ⟨pG, cG, rfl, -⟩ := row_form hown; have j3 : w7.cell? ⟨mb, 3, none⟩ = some (.slice pg gv.length cg) := (obj_cell (lp_box HS.out.1) 3).trans rfl; have fr := obj_free (lp_box HS.out.1) 3; have n6 : ∀ o, (w7.alloc o).cell? ⟨mb, 3, none⟩ = _ := (fun o => keepc (balloc (Below.refl _ _) o) j3); clear hown hf hv))
              all_goals
                as_aux_lemma =>
                have HF := Lib.hid (lp_set HS.out.1 3 (.slice pG (gv.length + 1) cG))
                rw [show (bxS (two s.k) cc (.slice pg gv.length cg)).setIfInBounds 3 (.slice pG (gv.length + 1) cG) = bxS (two s.k) cc (.slice pG (gv.length + 1) cG) from rfl] at HF
                rw [← HLEN.out] at HF
                generalize World.setCell _ _ _ = w9 at *
                clear HS
                go_wp2_with fail
                go_meet
                exact Lib.hid ⟨c, sn, sh, gv ++ [c], L, sw, st + 1, .slice pG (gv.length + 1) cG, cc, HF.out.le (RP.mono Rest.boxLe), HM.out⟩
        have f0 : (z0 == 0) = false := by simpa using e0
        have f1 : (z0 == 1) = false := by simpa using e1
        have f2 : (z0 == 2) = false := by simpa using e2
        have f3 : (z0 == 3) = false := by simpa using e3
        go_wp2_with fail
        go_meet
        exact Lib.hid ⟨c, sn, sh, gv, L, sw, st, _, cc, HL3.out.le (RP.mono Rest.boxLe), HI.out.mono (by omega) (by omega)⟩
      case rest =>
        as_aux_lemma =>
        clear HL3 HI HB HR1 HR2
        obtain ⟨c, sn, sh, gv, L, sw, st, vg, cc, hl, hI⟩ := hcut.out
        have HL := Lib.hid hl
        have HI := Lib.hid hI
        obtain ⟨pg, cg, rfl, _⟩ := row_form (lp_g hl)
        have HB : Hid (-1 ≤ c ∧ c ≤ 7680 ∧ 0 ≤ st ∧ st ≤ 130000 ∧ st ≤ 1000 * t + 500 ∧ gv.length ≤ 20) := Lib.hid ⟨HI.out.g.c0, by have := HI.out.c2; omega, HI.out.st0, by have := HI.out.st1; omega, HI.out.st1, HI.out.gl⟩
        have k3 : wc.cell? ⟨mb, 3, none⟩ = some (.slice pg gv.length cg) := (obj_cell (lp_box hl) 3).trans rfl
        clear hl hI hcut
        go_wp2_with fail
        go_loopw [208] (fun iv wl => ∃ q : Nat, q ≤ gv.length ∧ iv = .int .i64 q ∧ Hid (∃ st', st ≤ st' ∧ st' ≤ st + q ∧ Lv (RP (RS W.heap.size _ _ _ L) W.heap.size mb (bxS (two s.k) cc (.slice pg gv.length cg)) _ (idsN sh.length gv.length) (.slice pg gv.length cg) gv (.slice none 0 0) []) W wl s c sn sh gv sw st')) (fun i _ => gv.length - (intOf i).toNat)
        case atStart => exact ⟨0, Nat.zero_le _, rfl, Lib.hid ⟨st, by omega, by omega, HL.out⟩⟩
        case round =>
          clear HL k3
          obtain ⟨q, hq, rfl, HQ⟩ := hrel
          obtain ⟨st', a1, a2, hl⟩ := HQ.out
          have HL := Lib.hid hl
          have HST := Lib.hid (And.intro a1 a2)
          clear HQ hl a1 a2
          by_cases hql : q < gv.length
          · obtain ⟨rg, cap2, hs2, -⟩ := row_some (lp_g HL.out) (by omega)
            simp only [Value.slice.injEq, true_and] at hs2
            obtain ⟨rfl, rfl⟩ := hs2
            obtain ⟨gi, hgi⟩ : ∃ gi : Int, gv[q]? = some gi := ⟨_, List.getElem?_eq_getElem hql⟩
            have kg := lp_gat HL.out rfl hgi
            have e1 := HI.out.g.g1 q hql
            have e2 := HI.out.g.g2 q hql
            have e3 := HI.out.g.g3 q hql
            rw [show gv.getD q 0 = gi by rw [List.getD_eq_getElem?_getD, hgi]; rfl] at e1 e2 e3
            have hc1 : c ≤ 7680 := HB.out.2.1
            have dg : decide (two s.k < c - gi) = false := decide_eq_false (by omega)
            have b1 : (q : Int) < (gv.length : Int) := by omega
            have hb20 : gv.length ≤ 20 := HB.out.2.2.2.2.2
            clear hgi e3
            go_wp2_with (go_at_call 82; refine (lclaimed HL.out (by have := HB.out; have := HST.out; omega) (by have := HB.out; have := HST.out; omega)).mono ?_; rintro e w9 ⟨rfl, hl9⟩; have HL9 := Lib.hid hl9; clear hl9 kg)
            exact ⟨⟨q + 1, by omega, by go_num, Lib.hid ⟨st' + 1, by have := HST.out; omega, by have := HST.out; omega, HL9.out⟩⟩, by simp [intOf]; omega⟩
          · obtain rfl : q = gv.length := by omega
            clear hql
            go_wp2_with fail
            exact ⟨⟨t + 1, by omega, by go_num, Lib.hid ⟨c, sn, sh, gv, L, sw, st', _, cc, HL.out, HI.out.at (by have := HB.out; have := HST.out; omega) (by have := HB.out; have := HST.out; omega) (Nat.le_refl _)⟩⟩, by simp [intOf]; omega⟩
    · obtain rfl : t = n := by omega
      clear hlt
      as_aux_lemma =>
      clear HP
      have HB : Hid (-1 ≤ c ∧ c ≤ 7680 ∧ 0 ≤ st ∧ st ≤ 120000 ∧ L.length ≤ 120) := Lib.hid ⟨HI.out.g.c0, by have := HI.out.c2; omega, HI.out.st0, by have := HI.out.st1; omega, by have := HI.out.ll; omega⟩
      have HTS : Hid (∀ y ∈ L, y.ts.toList.length = 40) := Lib.hid fun y hy => by simpa using (HI.out.ty y hy).size
      have HSM : Hid (∀ i, 0 ≤ sumG (L.take i) ∧ sumG (L.take i) ≤ 7681) := Lib.hid fun i => by
        have h1 := sumG_part HI.out.nn i
        have h2 := HI.out.sum
        have := HB.out
        omega
      have HOF := Lib.hid (fun (x : Cm) (hx : x ∈ L) => HI.out.of HB.out.2.1 H64.out.2 hx)
      have hl120 : (L.length : Int) ≤ 120 := by have := HB.out; omega
      clear ht d1
      go_wp2_with fail
      go_loopw [26, 222] (fun sv iv wl => ∃ i : Nat, i ≤ L.length ∧ iv = .int .i64 i ∧ sv = .int .i64 (sumG (L.take i)) ∧ Hid (Lv (RP (RS W.heap.size (.slice pl L.length cl) (.slice pz L.length cz) (.slice pb L.length cb) L) W.heap.size mb (bxS (two s.k) cc (.slice pg gv.length cg)) (.slice pi gv.length ci) (idsN sh.length gv.length) (.slice pg gv.length cg) gv (.slice none 0 0) []) W wl s c sn sh gv sw st)) (fun _ i _ => L.length - (intOf i).toNat)
      case atStart => exact ⟨0, Nat.zero_le _, rfl, by simp [sumG], HL⟩
      case round =>
        clear HL
        obtain ⟨i, hi, rfl, rfl, HL⟩ := hrel
        by_cases hil : i < L.length
        · obtain ⟨x, hx⟩ : ∃ x, L[i]? = some x := ⟨L[i], List.getElem?_eq_getElem hil⟩
          have HXJ := Lib.hid hx
          have HTX := Lib.hid (HI.out.ty x (List.mem_of_getElem? hx))
          obtain ⟨hn1, hn2, hxc⟩ := HOF.out x (List.mem_of_getElem? hx)
          have HSI := Lib.hid (HSM.out i)
          have HSJ := Lib.hid (HSM.out (i + 1))
          have HSE := Lib.hid (sumG_take hx)
          clear hx
          obtain ⟨bl, hpl⟩ : ∃ bl, pl = some ⟨bl, 0, none⟩ := by
            obtain ⟨g, cap, he⟩ := row_slice2 (rs_l HL.out) (by omega)
            simp only [Value.slice.injEq] at he
            exact ⟨g, he.1⟩
          obtain ⟨bz, hpz⟩ : ∃ bz, pz = some ⟨bz, 0, none⟩ := by
            obtain ⟨g, cap, he⟩ := row_slice2 (rs_z HL.out) (by omega)
            simp only [Value.slice.injEq] at he
            exact ⟨g, he.1⟩
          subst hpl hpz
          have hxs : x.ts.toList.length = 40 := HTS.out x (List.mem_of_getElem? HXJ.out)
          have HTIX : Hid ((Try.prog.info? 165).map (·.size) = some x.ts.toList.length) := Lib.hid (by rw [hxs]; kernel_rfl)
          have HTI := Lib.hid HTX.out.info
          have HRNG : Hid (wr.rangeAt bl (i * 40) x.ts.toList) := Lib.hid (row_range (f := fun y : Cm => y.ts.toList) (rs_l HL.out) HTS.out HXJ.out)
          have ii1 : (i : Int) < (L.length : Int) := by omega
          generalize hS : sumG (L.take i) = S0 at *
          have hs0 := HSI.out.1
          have hs1 := HSI.out.2
          clear hxs
          go_upto_region 52 with (first
            | (refine wpList_load_mid rfl 165 (.tmp 225) rfl bl (i * 40) rfl x.ts.toList _ HRNG.out Try.underlying165 rfl HTIX.out ?_; rw [Array.toArray_toList])
            | (refine wpList_alloc_try rfl rfl ?_; intro zs hzs; have HZS := Lib.hid hzs; clear hzs)
            | (refine wpList_store_row rfl 165 (.tmp 28) (.tmp 226) rfl wr.heap.size x.ts rfl rfl 165 _ (obj_new wr _) HTI.out (by rw [HTX.out.size, HZS.out]) HTX.out.one ?_))
          generalize hX : World.setRow _ _ _ = w5
          obtain ⟨hq, hb5⟩ := stored_new hX
          have HQ := Lib.hid hq
          have HL5 := Lib.hid (HL.out.keep hb5)
          generalize wr.heap.size = na at *
          clear hX hq hb5 HRNG
          rcases hxc with ⟨e6, hl0, hl1, hlo, hgo⟩ | ⟨e6, hlo, hgo⟩
          · have dl : decide (x.t.last < 0) = false := decide_eq_false (by omega)
            have HE6 := Lib.hid e6
            have HGO := Lib.hid hgo
            clear e6 hgo
            as_aux_lemma =>
            go_upto_region 53 with (first
              | (refine wpList_load_row rfl 165 (.tmp 28) rfl na rfl 165 x.ts (0, 0) _ HQ.out Try.underlying165 rfl HTI.out ?_)
              | (go_at_call 106; refine (tlast HTX.out.c2 HTX.out.c4 _).mono ?_; rintro e w6 ⟨rfl, hb⟩; rw [hlo]; have HB6 := Lib.hid hb; clear hb))
            have HL6 := Lib.hid (HL5.out.keep HB6.out)
            have HQ6 := Lib.hid ((HB6.out.block _ (lt_of_block HQ.out)).trans HQ.out)
            have kz : w6.cell? ⟨bz, i, none⟩ = some (.int .i64 x.n) := row1_at (rs_z HL6.out) (by simp [nsM, HXJ.out])
            clear HB6 HQ HL5 HL
            generalize hxn : x.n = nx at *
            generalize hxl : x.t.last = lx at *
            go_wp2_with fail
            go_loopw [238] (fun kv wl => ∃ q : Nat, q ≤ L.length ∧ kv = .int .i64 q ∧ Hid (Below w6.heap.size w6 wl)) (fun q _ => L.length - (intOf q).toNat)
            case atStart => exact ⟨0, Nat.zero_le _, rfl, Lib.hid (Below.refl _ _)⟩
            case round =>
              clear kz
              obtain ⟨q, hq, rfl, HBW⟩ := hrel
              have HL7 := Lib.hid (HL6.out.keep HBW.out)
              have HQ7 := Lib.hid ((HBW.out.block _ (lt_of_block HQ6.out)).trans HQ6.out)
              by_cases hql : q < L.length
              · obtain ⟨y, hy⟩ : ∃ y, L[q]? = some y := ⟨L[q], List.getElem?_eq_getElem hql⟩
                have HYJ := Lib.hid hy
                have HTY := Lib.hid (HI.out.ty y (List.mem_of_getElem? hy))
                obtain ⟨hm1, hm2, hyc⟩ := HOF.out y (List.mem_of_getElem? hy)
                clear hy
                have hys : y.ts.toList.length = 40 := HTS.out y (List.mem_of_getElem? HYJ.out)
                have HTIY : Hid ((Try.prog.info? 165).map (·.size) = some y.ts.toList.length) := Lib.hid (by rw [hys]; kernel_rfl)
                have HTJ := Lib.hid HTY.out.info
                have HRNG : Hid (wr.rangeAt bl (q * 40) y.ts.toList) := Lib.hid (row_range (f := fun y : Cm => y.ts.toList) (rs_l HL7.out) HTS.out HYJ.out)
                have iq1 : (q : Int) < (L.length : Int) := by omega
                clear hys
                go_upto_region 57 with (first
                  | (refine wpList_load_mid rfl 165 (.tmp 241) rfl bl (q * 40) rfl y.ts.toList _ HRNG.out Try.underlying165 rfl HTIY.out ?_; rw [Array.toArray_toList])
                  | (refine wpList_alloc_try rfl rfl ?_; intro zs hzs; have HZS := Lib.hid hzs; clear hzs)
                  | (refine wpList_store_row rfl 165 (.tmp 30) (.tmp 242) rfl wr.heap.size y.ts rfl rfl 165 _ (obj_new wr _) HTJ.out (by rw [HTY.out.size, HZS.out]) HTY.out.one ?_))
                generalize hX : World.setRow _ _ _ = w8
                try simp only [Act.put, List.setIfInBounds_toArray, List.set_cons_zero, List.set_cons_succ]
                obtain ⟨hq8, hb8⟩ := stored_new hX
                have HN8 := Lib.hid hq8
                have HB8 := Lib.hid hb8
                have HQ8 := Lib.hid ((hb8.block _ (lt_of_block HQ7.out)).trans HQ7.out)
                have HL8 := Lib.hid (HL7.out.keep hb8)
                generalize hnb : wr.heap.size = nb at *
                clear hX hq8 hb8 HRNG
                have HW8 : Hid (∀ z : Later w8, Below w6.heap.size w6 z.to) := Lib.hid fun z => bthen (bthen HBW.out (by rw [hnb]; exact HB8.out)) z.below
                have r1 : ∀ z : Later w8, z.to.cell? ⟨bz, i, none⟩ = some (.int .i64 nx) := fun z => row1_at (rs_z (HL8.out.keep z.below)) (by simp [nsM, HXJ.out, hxn])
                have r2 : ∀ z : Later w8, z.to.cell? ⟨bz, q, none⟩ = some (.int .i64 y.n) := fun z => row1_at (rs_z (HL8.out.keep z.below)) (by simp [nsM, HYJ.out])
                have HLA : Hid (∀ w', (∃ z : Later w8, w' = z.to) → w'.heap[na]? = some (.cells x.ts 165 (0, 0))) := Lib.hid fun w' ⟨z, hz⟩ => hz ▸ (z.below.block _ (lt_of_block HQ8.out)).trans HQ8.out
                have HLB : Hid (∀ w', (∃ z : Later w8, w' = z.to) → w'.heap[nb]? = some (.cells y.ts 165 (0, 0))) := Lib.hid fun w' ⟨z, hz⟩ => hz ▸ (z.below.block _ (lt_of_block HN8.out)).trans HN8.out
                have HLX : Hid (∀ z : Later w8, Calls Try.prog 106 #[.agg x.ts] z.to fun e w'' => e = .returned (.int .i64 lx) ∧ ∃ y1 : Later w8, w'' = y1.to) := Lib.hid fun z => (tlast HTX.out.c2 HTX.out.c4 z.to).mono fun e w' ⟨he, hb⟩ => ⟨by rw [he, hxl]; rw [hlo], ⟨w', bthen z.below hb⟩, rfl⟩
                have HLY : Hid (∀ z : Later w8, Calls Try.prog 106 #[.agg y.ts] z.to fun e w'' => e = .returned (.int .i64 (lastOf y.t.stg y.t.last)) ∧ ∃ y1 : Later w8, w'' = y1.to) := Lib.hid fun z => (tlast HTY.out.c2 HTY.out.c4 z.to).mono fun e w' ⟨he, hb⟩ => ⟨he, ⟨w', bthen z.below hb⟩, rfl⟩
                clear hlo
                have HAP := Lib.hid HI.out.ap
                by_cases hqi : q = i
                · have eqi : ((q : Int) != (i : Int)) = false := by simp [hqi]
                  as_aux_lemma =>
                  refine wp_region_later (by kernel_rfl) (by kernel_rfl) ?_
                  repeat (first
                    | (go_big_quiet_want; refine quiet_load_row 165 (.tmp 28) rfl na rfl 165 x.ts (0, 0) _ HLA.out Try.underlying165 rfl HTI.out ?_; go_big_quiet_on; go_frame)
                    | (go_big_quiet_want; refine quiet_load_row 165 (.tmp 30) rfl nb rfl 165 y.ts (0, 0) _ HLB.out Try.underlying165 rfl HTJ.out ?_; go_big_quiet_on; go_frame)
                    | go_big_quiet_step ((first
                      | (go_at_call_of 106 (Value.agg x.ts); exact HLX.out _)
                      | (go_at_call_of 106 (Value.agg y.ts); exact HLY.out _))))
                  refine wpQuiet_nil ?_
                  intro _ hw'
                  obtain ⟨nq, rfl⟩ := hw'
                  have HBN := Lib.hid (HW8.out nq)
                  clear r1 r2 HLA HLB HLX HLY HW8
                  go_wp2_with fail
                  exact ⟨⟨q + 1, by omega, by go_num, HBN⟩, by simp [intOf]; omega⟩
                · have eqi : ((q : Int) != (i : Int)) = true := by simp; omega
                  rcases hyc with ⟨y6, hy0, hy1, hyo, _⟩ | ⟨y6, hyo, _⟩
                  · have hap : lx - nx < y.t.last → ¬ y.t.last - y.n < lx := fun h1 h2 => HAP.out i q x y (fun e => hqi e.symm) HXJ.out HYJ.out HE6.out y6 (by rw [hxl, hxn]; exact h1) (by rw [hxl]; exact h2)
                    rw [hyo] at HLY
                    clear hqi y6 hyo
                    generalize y.t.last = ly at *
                    generalize y.n = ny at *
                    have dy : decide (0 ≤ ly) = true := decide_eq_true hy0
                    by_cases h1 : lx - nx < ly
                    · have dx1 : decide (lx - nx < ly) = true := decide_eq_true h1
                      have dx2 : decide (ly - ny < lx) = false := decide_eq_false (hap h1)
                      clear h1 hap
                      as_aux_lemma =>
                      refine wp_region_later (by kernel_rfl) (by kernel_rfl) ?_
                      repeat (first
                        | (go_big_quiet_want; refine quiet_load_row 165 (.tmp 28) rfl na rfl 165 x.ts (0, 0) _ HLA.out Try.underlying165 rfl HTI.out ?_; go_big_quiet_on; go_frame)
                        | (go_big_quiet_want; refine quiet_load_row 165 (.tmp 30) rfl nb rfl 165 y.ts (0, 0) _ HLB.out Try.underlying165 rfl HTJ.out ?_; go_big_quiet_on; go_frame)
                        | go_big_quiet_step ((first
                          | (go_at_call_of 106 (Value.agg x.ts); exact HLX.out _)
                          | (go_at_call_of 106 (Value.agg y.ts); exact HLY.out _))))
                      refine wpQuiet_nil ?_
                      intro _ hw'
                      obtain ⟨nq, rfl⟩ := hw'
                      have HBN := Lib.hid (HW8.out nq)
                      clear r1 r2 HLA HLB HLX HLY HW8
                      go_wp2_with fail
                      exact ⟨⟨q + 1, by omega, by go_num, HBN⟩, by simp [intOf]; omega⟩
                    · have dx1 : decide (lx - nx < ly) = false := decide_eq_false h1
                      clear h1 hap
                      as_aux_lemma =>
                      refine wp_region_later (by kernel_rfl) (by kernel_rfl) ?_
                      repeat (first
                        | (go_big_quiet_want; refine quiet_load_row 165 (.tmp 28) rfl na rfl 165 x.ts (0, 0) _ HLA.out Try.underlying165 rfl HTI.out ?_; go_big_quiet_on; go_frame)
                        | (go_big_quiet_want; refine quiet_load_row 165 (.tmp 30) rfl nb rfl 165 y.ts (0, 0) _ HLB.out Try.underlying165 rfl HTJ.out ?_; go_big_quiet_on; go_frame)
                        | go_big_quiet_step ((first
                          | (go_at_call_of 106 (Value.agg x.ts); exact HLX.out _)
                          | (go_at_call_of 106 (Value.agg y.ts); exact HLY.out _))))
                      refine wpQuiet_nil ?_
                      intro _ hw'
                      obtain ⟨nq, rfl⟩ := hw'
                      have HBN := Lib.hid (HW8.out nq)
                      clear r1 r2 HLA HLB HLX HLY HW8
                      go_wp2_with fail
                      exact ⟨⟨q + 1, by omega, by go_num, HBN⟩, by simp [intOf]; omega⟩
                  · rw [hyo] at HLY
                    clear hqi y6 hyo
                    as_aux_lemma =>
                    refine wp_region_later (by kernel_rfl) (by kernel_rfl) ?_
                    repeat (first
                      | (go_big_quiet_want; refine quiet_load_row 165 (.tmp 28) rfl na rfl 165 x.ts (0, 0) _ HLA.out Try.underlying165 rfl HTI.out ?_; go_big_quiet_on; go_frame)
                      | (go_big_quiet_want; refine quiet_load_row 165 (.tmp 30) rfl nb rfl 165 y.ts (0, 0) _ HLB.out Try.underlying165 rfl HTJ.out ?_; go_big_quiet_on; go_frame)
                      | go_big_quiet_step ((first
                        | (go_at_call_of 106 (Value.agg x.ts); exact HLX.out _)
                        | (go_at_call_of 106 (Value.agg y.ts); exact HLY.out _))))
                    refine wpQuiet_nil ?_
                    intro _ hw'
                    obtain ⟨nq, rfl⟩ := hw'
                    have HBN := Lib.hid (HW8.out nq)
                    clear r1 r2 HLA HLB HLX HLY HW8
                    go_wp2_with fail
                    exact ⟨⟨q + 1, by omega, by go_num, HBN⟩, by simp [intOf]; omega⟩
              · obtain rfl : q = L.length := by omega
                clear hql
                go_wp2_with fail
                exact ⟨⟨i + 1, by omega, by go_num, by rw [HSE.out, HGO.out], HL7⟩, by simp [intOf]; omega⟩
          · as_aux_lemma =>
            go_wp2_with (first
              | (refine wpList_load_row rfl 165 (.tmp 28) rfl na rfl 165 x.ts (0, 0) _ HQ.out Try.underlying165 rfl HTI.out ?_)
              | (go_at_call 106; refine (tlast HTX.out.c2 HTX.out.c4 _).mono ?_; rintro e w6 ⟨rfl, hb⟩; rw [hlo]; have HL6 := Lib.hid (HL5.out.keep hb); clear hb))
            exact ⟨⟨i + 1, by omega, by go_num, by rw [HSE.out, hgo, Int.add_zero], HL6⟩, by simp [intOf]; omega⟩
        · obtain rfl : i = L.length := by omega
          clear hil
          have hsum : sumG (L.take L.length) = c + 1 := by rw [List.take_length]; exact HI.out.sum
          rw [hsum]
          have hc0 := HB.out.1
          have hc1 := HB.out.2.1
          clear hsum
          go_wp2_with (first
            | (go_at_call 70; refine (awake10 _).mono ?_; rintro e w5 ⟨rfl, hb⟩; have HL5 := Lib.hid (HL.out.keep hb); clear hb)
            | (go_at_call 82; refine (lclaimed HL5.out (by have := HB.out; omega) (by have := HB.out; omega)).mono ?_; rintro e w9 ⟨rfl, hl9⟩; have HL9 := Lib.hid hl9; clear hl9))
          go_ret
          exact ⟨by simp, HL9.out.below⟩
end Go.Proofs.Ytjadapjjilegnaa
