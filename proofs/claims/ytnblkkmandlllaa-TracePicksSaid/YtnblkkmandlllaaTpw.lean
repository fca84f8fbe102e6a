/-
  TracePicks, walked. Conditions: as the statement has them.
-/
import Derived.Test.YtnblkkmandlllaaTu
import Derived.Test.YtnblkkmandlllaaTe
import Derived.Deep.RegionHeld3
namespace Go.Proofs.Ytnblkkmandlllaa
open Go.RowKit Go.Shelf Go.Maps
set_option linter.unusedVariables false
set_option linter.unusedSimpArgs false

/-- Two rows of notes and an array of counts, each in a block of its own, made since a block. -/
structure Two (B : Nat) (w : World) (ov av : Value) (lo la : List Nt) (cb : Nat) (F : Nat → Int) : Prop where
  o : w.ownsRow 0 33 8 ov lo.length (flatN lo)
  a : w.ownsRow 0 33 8 av la.length (flatN la)
  ob : ∀ g, ov.ownBlock = some g → B ≤ g
  ab : ∀ g, av.ownBlock = some g → B ≤ g
  dis : ∀ g, ov.ownBlock = some g → av.ownBlock ≠ some g
  cnt : w.heap[cb]? = some (.cells (arr8 F) 28 (0, 0))
  cbB : B ≤ cb
  wo : ∀ x ∈ lo, x.wf
  wa : ∀ x ∈ la, x.wf
theorem Two.keep {B : Nat} {w w' : World} {ov av : Value} {lo la : List Nt} {cb : Nat} {F : Nat → Int} (h : Two B w ov av lo la cb F) (hb : Below w.heap.size w w') : Two B w' ov av lo la cb F :=
  ⟨Frm.row (Frm.of_below hb fun _ => False) h.o fun _ _ => id, Frm.row (Frm.of_below hb fun _ => False) h.a fun _ _ => id, h.ob, h.ab, h.dis, (hb.block cb (lt_of_block h.cnt)).trans h.cnt, h.cbB, h.wo, h.wa⟩
theorem Two.neo {B : Nat} {w : World} {ov av : Value} {lo la : List Nt} {cb : Nat} {F : Nat → Int} (h : Two B w ov av lo la cb F) : ov.ownBlock ≠ some cb := row_ne h.o h.cnt (by decide)
theorem Two.nea {B : Nat} {w : World} {ov av : Value} {lo la : List Nt} {cb : Nat} {F : Nat → Int} (h : Two B w ov av lo la cb F) : av.ownBlock ≠ some cb := row_ne h.a h.cnt (by decide)
theorem frm_below {B : Nat} {W w w' : World} {S : Nat → Prop} (hb : Below B W w) (hB : B ≤ w.heap.size) (hf : Frm S w w') (hS : ∀ k, S k → B ≤ k) : Below B W w' :=
  hb.trans (hf.below hB hS)
theorem Two.appO {B : Nat} {w w' : World} {ov ov' av : Value} {lo la : List Nt} {cb : Nat} {F : Nat → Int} {x : Nt} (h : Two B w ov av lo la cb F) (hB : B ≤ w.heap.size) (hx : x.wf)
    (ho : w'.ownsRow 0 33 8 ov' (lo.length + 1) (flatN lo ++ x.cs)) (hf : Frm (fun k => ov.ownBlock = some k) w w') (hv : ov'.ownBlock = ov.ownBlock ∨ ∀ g, ov'.ownBlock = some g → w.heap.size ≤ g) : Two B w' ov' av (lo ++ [x]) la cb F := by
  have hw := NtsOwn.app (B := 0) ho h.wo hx
  refine ⟨hw.own, hf.row h.a fun g hg e => h.dis g e hg, ?_, h.ab, ?_, hf.obj h.cnt h.neo, h.cbB, hw.wf, h.wa⟩
  · intro g hg
    rcases hv with hv | hv
    · exact h.ob g (hv ▸ hg)
    · have := hv g hg; omega
  · intro g hg e
    rcases hv with hv | hv
    · exact h.dis g (hv ▸ hg) e
    · have h1 := hv g hg
      have h2 := (h.a.lt g e).2
      omega
theorem Two.appA {B : Nat} {w w' : World} {ov av av' : Value} {lo la : List Nt} {cb : Nat} {F : Nat → Int} {x : Nt} (h : Two B w ov av lo la cb F) (hB : B ≤ w.heap.size) (hx : x.wf)
    (ho : w'.ownsRow 0 33 8 av' (la.length + 1) (flatN la ++ x.cs)) (hf : Frm (fun k => av.ownBlock = some k) w w') (hv : av'.ownBlock = av.ownBlock ∨ ∀ g, av'.ownBlock = some g → w.heap.size ≤ g) : Two B w' ov av' lo (la ++ [x]) cb F := by
  have hw := NtsOwn.app (B := 0) ho h.wa hx
  refine ⟨hf.row h.o fun g hg e => h.dis g hg e, hw.own, h.ob, ?_, ?_, hf.obj h.cnt h.nea, h.cbB, h.wo, hw.wf⟩
  · intro g hg
    rcases hv with hv | hv
    · exact h.ab g (hv ▸ hg)
    · have := hv g hg; omega
  · intro g hg e
    rcases hv with hv | hv
    · exact h.dis g hg (hv ▸ e)
    · have h1 := hv g e
      have h2 := (h.o.lt g hg).2
      omega
theorem Two.set {B : Nat} {w : World} {ov av : Value} {lo la : List Nt} {cb : Nat} {F : Nat → Int} (h : Two B w ov av lo la cb F) {i : Nat} (hi : i < 8) (y : Int) :
    Two B (w.setCell ⟨cb, i, none⟩ (.int .i64 y)) ov av lo la cb (fun d => if d = i then y else F d) := by
  have hf : Frm (fun k => k = cb) w (w.setCell ⟨cb, i, none⟩ (.int .i64 y)) := (Frm.refl (fun k => k = cb) w).setCell (p := ⟨cb, i, none⟩) rfl _
  refine ⟨hf.row h.o fun g hg e => h.neo (e ▸ hg), hf.row h.a fun g hg e => h.nea (e ▸ hg), h.ob, h.ab, h.dis, ?_, h.cbB, h.wo, h.wa⟩
  rw [← arr8_set _ _ i hi]
  exact obj_setCell _ h.cnt
/-- What the statement has of a deed among the first ones. -/
def inD (ds : List Int) (d : Int) : Bool := ds.isEmpty || ds.contains d
theorem inD_at (ring : Int) (ds : List Int) (x : Nt) : atB ring ds x = (inD ds x.deed && x.ring == ring) := by
  unfold atB inD
  cases (x.ring == ring) <;> cases (ds.isEmpty || ds.contains x.deed) <;> rfl
/-- .. so far. -/
def inK (ds : List Int) (d : Int) (j : Nat) : Bool := ds.isEmpty || (ds.take j).contains d
theorem inK_zero (ds : List Int) (d : Int) : inK ds d 0 = decide (ds.length = 0) := by cases ds <;> simp [inK]
theorem inK_snoc {ds : List Int} {d y : Int} {j : Nat} (h : ds[j]? = some y) : inK ds d (j + 1) = (inK ds d j || d == y) := by
  unfold inK
  rw [take_snocN h]
  cases ds.isEmpty
  · rw [Bool.eq_iff_iff]; simp
  · rfl
theorem inK_end (ds : List Int) (d : Int) : inK ds d ds.length = inD ds d := by unfold inK inD; rw [List.take_length]

theorem NtAt.frm {w w' : World} {b o : Nat} {x : Nt} {S : Nat → Prop} (h : NtAt w b o x) (hf : Frm S w w') (hs : ¬ S b) : NtAt w' b o x :=
  ⟨hf.cell h.c0 hs, hf.cell h.c1 hs, hf.cell h.c2 hs, hf.cell h.c3 hs, hf.cell h.c4 hs, hf.cell h.c5 hs, hf.cell h.c6 hs, hf.cell h.c7 hs⟩
theorem infoDe : (Try.prog.info? 27).map (fun i => (i.zero, i.size, i.bytes)) = some (some (.int .i64 0), 1, 8) := by kernel_rfl

set_option maxRecDepth 100000 in
set_option maxHeartbeats 8000000 in
theorem picks_walk {W : World} {v vd : Value} {l : List Nt} {who ring : Int} {ds : List Int} (hl : NtsAt W v l) (hd : IntsR W vd ds) :
    Calls Try.prog 3 #[v, .int .i64 who, .int .i64 ring, vd] W fun e w' => e = .returned (.bool true) ∧ Below W.heap.size W w' := by
  have HL := Lib.hid hl
  have HD := Lib.hid hd
  obtain ⟨p, c, rfl, hc, hm⟩ := hl.form
  obtain ⟨pd, cd, rfl, hcd, hmd⟩ := hd.form
  clear hl hd
  by_cases h120 : l.length ≤ 120
  · have HS : Hid (decide (l.length ≤ 120) = true) := Lib.hid (by simpa using h120)
    by_cases h20 : ds.length ≤ 20
    · obtain ⟨i1, hj, hy0, hy1, hy2⟩ := info_parts infoDe
      go_enter Try.func3, Try.ntmps3
      go_wp2_with (go_at_call 10; refine (tsmall HL.out).mono ?_; rintro e w1 ⟨rfl, rfl⟩; rw [HS.out])
      go_loopw [11, 31] (fun ov iv wl => ∃ k : Nat, k ≤ ds.length ∧ iv = .int .i64 k ∧ Hid (wl.ownsRow W.heap.size 27 1 ov (ds.take k).length (flatI (ds.take k)) ∧ Below W.heap.size W wl)) (fun _ iv _ => ds.length - (intOf iv).toNat)
      case atStart => exact ⟨0, Nat.zero_le _, rfl, Lib.hid ⟨World.ownsRow_nil _ _ _ _, Below.refl _ _⟩⟩
      case round =>
        obtain ⟨k, hk, rfl, HJ⟩ := hrel
        by_cases hlt : k < ds.length
        · obtain ⟨b, off, x, rfl, hx, hb, hwf, c0⟩ := (HD.out.keep HJ.out.2).at_ hlt
          have HT : Hid (ds.take (k + 1) = ds.take k ++ [x]) := Lib.hid (take_snocN hx)
          have HLK : Hid ((ds.take k).length ≤ 1000) := Lib.hid (by rw [List.length_take]; omega)
          clear hx hb hwf
          generalize ds.take k = ss at *
          have hlk := HLK.out
          go_wp2_with (at_builtin; refine wpList_append_own _ rfl _ _ 26 rfl W.heap.size 27 i1 _ 1 8 Try.underlying26 hj hy0 hy1 hy2 rfl (by decide) u11 ss.length _ rfl (HJ.out.1.alloc _) ⟨wr.heap.size, 0, none⟩ 1 1 [.int .i64 x] rfl rfl (one_cellI _ _ _) (fun u hu => by simp at hu; subst hu; rfl) (by unfold maxLen; omega) (by omega) (by have := HJ.out.2.size; simp at this ⊢; omega) ?_; intro v' w6 hown hg hnil; have HO3 := Lib.hid hown; have HG := Lib.hid hg; clear hown hg hnil)
          exact ⟨⟨k + 1, by omega, by go_num, Lib.hid ⟨by rw [HT.out, List.length_append]; unfold flatI at *; rw [List.map_append]; exact HO3.out, Below.app HJ.out.2 HJ.out.2.size HJ.out.1 HG.out⟩⟩, by simp [intOf]; omega⟩
        · obtain rfl : k = ds.length := by omega
          rw [List.take_length] at HJ
          obtain ⟨pn, cn, rfl, -⟩ := row_form HJ.out.1
          have HN1 := Lib.hid (IntsR.of_own HJ.out.1 (by obtain ⟨-, -, -, -, -, hw, -⟩ := HD.out; exact hw))
          have HB1 := Lib.hid HJ.out.2
          obtain ⟨w2, hw2⟩ : ∃ w2, w2 = wr := ⟨_, rfl⟩
          rw [← hw2] at HN1 HB1 ⊢
          clear HJ hlt hw2 hy0 hy1 hy2 hj
          obtain ⟨i0, hi, hz0, hz1, hz2⟩ := info_parts infoNt
          have HL2 := Lib.hid (HL.out.keep HB1.out)
          have HD2 := Lib.hid (HD.out.keep HB1.out)
          go_wp2_with fail
          go_loopw [9, 10, 42] (fun ov av iv wl => ∃ k : Nat, k ≤ l.length ∧ iv = .int .i64 k ∧ Hid (Two w2.heap.size wl ov av ((l.take k).filter fun x => x.who == who) ((l.take k).filter (atB ring ds)) w2.heap.size (deedsP (l.take k)) ∧ Below w2.heap.size w2 wl)) (fun _ _ iv _ => l.length - (intOf iv).toNat)
          case atStart =>
            refine ⟨0, Nat.zero_le _, rfl, Lib.hid ⟨⟨World.ownsRow_nil _ _ _ _, World.ownsRow_nil _ _ _ _, by simp [Value.ownBlock], by simp [Value.ownBlock], by simp [Value.ownBlock], ?_, Nat.le_refl _, by simp, by simp⟩, (Below.refl _ _).alloc (Nat.le_refl _) _⟩⟩
            rw [List.take_zero, deedsP_nil]
            exact obj_new _ _
          case round =>
            obtain ⟨k, hk, rfl, HJ⟩ := hrel
            by_cases hlt : k < l.length
            · obtain ⟨b, off, x, rfl, hx, hb, hwf, ⟨c0, c1, c2, c3, c4, c5, c6, c7⟩⟩ := (HL2.out.keep HJ.out.2).at_ hlt
              have HT : Hid (l.take (k + 1) = l.take k ++ [x]) := Lib.hid (take_snocN hx)
              have HW := Lib.hid hwf
              have HLO : Hid (((l.take k).filter fun x => x.who == who).length ≤ 120 ∧ ((l.take k).filter (atB ring ds)).length ≤ 120) := Lib.hid ⟨Nat.le_trans (List.length_filter_le _ _) (by rw [List.length_take]; omega), Nat.le_trans (List.length_filter_le _ _) (by rw [List.length_take]; omega)⟩
              have HA1 : Hid (Two w2.heap.size (wr.alloc (.cells #[.int .i64 x.who, .int .i64 x.ring, .int .i64 x.deed, .int .i64 x.lo, .int .i64 x.seq, .int .i64 x.key, .int .i64 x.val, .int .i64 x.code] 33)) u9 u10 ((l.take k).filter fun x => x.who == who) ((l.take k).filter (atB ring ds)) w2.heap.size (deedsP (l.take k)) ∧ Below w2.heap.size w2 (wr.alloc (.cells #[.int .i64 x.who, .int .i64 x.ring, .int .i64 x.deed, .int .i64 x.lo, .int .i64 x.seq, .int .i64 x.key, .int .i64 x.val, .int .i64 x.code] 33)) ∧ NtAt (wr.alloc (.cells #[.int .i64 x.who, .int .i64 x.ring, .int .i64 x.deed, .int .i64 x.lo, .int .i64 x.seq, .int .i64 x.key, .int .i64 x.val, .int .i64 x.code] 33)) wr.heap.size 0 x ∧ (∀ g, u9.ownBlock = some g → g ≠ wr.heap.size) ∧ (∀ g, u10.ownBlock = some g → g ≠ wr.heap.size) ∧ w2.heap.size < wr.heap.size) :=
                Lib.hid ⟨HJ.out.1.keep ((Below.refl _ _).alloc (Nat.le_refl _) _), HJ.out.2.alloc HJ.out.2.size _, ⟨by simp, by simp, by simp, by simp, by simp, by simp, by simp, by simp⟩, fun g hg e => by have := (HJ.out.1.o.lt g hg).2; omega, fun g hg e => by have := (HJ.out.1.a.lt g hg).2; omega, lt_of_block HJ.out.1.cnt⟩
              clear hx hb hwf
              go_upto_region 14 with (fail)
              clear c0 c1 c2 c3 c4 c5 c6 c7
              generalize wr.alloc (.cells #[.int .i64 x.who, .int .i64 x.ring, .int .i64 x.deed, .int .i64 x.lo, .int .i64 x.seq, .int .i64 x.key, .int .i64 x.val, .int .i64 x.code] 33) = wa at *
              obtain ⟨ab, hab⟩ : ∃ ab, wr.heap.size = ab := ⟨_, rfl⟩
              rw [hab] at HA1
              rw [hab]
              clear hab HJ
              have HO1 := Lib.hid fun h => filter_snocT (f := fun x : Nt => x.who == who) (l := l.take k) (x := x) h
              have HO0 := Lib.hid fun h => filter_snocF (f := fun x : Nt => x.who == who) (l := l.take k) (x := x) h
              have HQ1 := Lib.hid fun h => filter_snocT (f := atB ring ds) (l := l.take k) (x := x) h
              have HQ0 := Lib.hid fun h => filter_snocF (f := atB ring ds) (l := l.take k) (x := x) h
              rw [← HT.out] at HO1 HO0 HQ1 HQ0
              obtain ⟨lo, hlo⟩ : ∃ lo, ((l.take k).filter fun x => x.who == who) = lo := ⟨_, rfl⟩
              obtain ⟨la, hla⟩ : ∃ la, (l.take k).filter (atB ring ds) = la := ⟨_, rfl⟩
              rw [hlo] at HLO HA1 HO1 HO0
              rw [hla] at HLO HA1 HQ1 HQ0
              clear hlo hla
              have hlo1 := HLO.out.1
              have hlo2 := HLO.out.2
              have d0 := HA1.out.2.2.1.c0
              go_upto_if 49 with (fail)
              clear d0
              go_cut [9] (fun ov wx => Hid (Two w2.heap.size wx ov u10 ((l.take (k + 1)).filter fun x => x.who == who) la w2.heap.size (deedsP (l.take k)) ∧ Below w2.heap.size w2 wx ∧ NtAt wx ab 0 x ∧ (∀ g, ov.ownBlock = some g → g ≠ ab) ∧ (∀ g, u10.ownBlock = some g → g ≠ ab)))
              case first =>
                have d0 := HA1.out.2.2.1.c0
                have d1 := HA1.out.2.2.1.c1
                have d2 := HA1.out.2.2.1.c2
                have d3 := HA1.out.2.2.1.c3
                have d4 := HA1.out.2.2.1.c4
                have d5 := HA1.out.2.2.1.c5
                have d6 := HA1.out.2.2.1.c6
                have d7 := HA1.out.2.2.1.c7
                rw [Nat.zero_add] at d1 d2 d3 d4 d5 d6 d7
                rcases Bool.eq_false_or_eq_true (x.who == who) with h1 | h1
                · have HQ := Lib.hid (HO1.out h1)
                  go_wp2_with (at_builtin; refine wpList_append_row rfl _ _ 22 rfl 33 i0 _ 8 64 Try.underlying22 hi hz0 hz1 hz2 rfl (by decide) u9 lo.length _ rfl (HA1.out.1.o.alloc _) ⟨wa.heap.size, 0, none⟩ 1 1 x.cs rfl rfl (nt_cell _ _ _) (nt_one x) (by unfold maxLen; omega) (by omega) ?_; intro v' w5 hown hf hv; have HO5 := Lib.hid hown; have HF5 := Lib.hid hf; have HV5 := Lib.hid hv; clear hown hf hv)
                  go_meet
                  have hal := (Below.refl wa.heap.size wa).alloc (Nat.le_refl _) (.cells #[.int .i64 x.who, .int .i64 x.ring, .int .i64 x.deed, .int .i64 x.lo, .int .i64 x.seq, .int .i64 x.key, .int .i64 x.val, .int .i64 x.code] 33)
                  have habl : ab < wa.heap.size := World.block_lt_of_cell? wa _ HA1.out.2.2.1.c0
                  have hB : w2.heap.size ≤ wa.heap.size := HA1.out.2.1.size
                  exact Lib.hid ⟨by rw [HQ.out]; exact (HA1.out.1.keep hal).appO (by simp; omega) HW.out HO5.out HF5.out HV5.out,
                    frm_below (HA1.out.2.1.alloc hB _) (by simp; omega) HF5.out fun g hg => HA1.out.1.ob g hg,
                    (HA1.out.2.2.1.keep hal habl).frm HF5.out fun hg => HA1.out.2.2.2.1 _ hg rfl,
                    fun g hg e => by
                      rcases HV5.out with hv | hv
                      · exact HA1.out.2.2.2.1 g (hv ▸ hg) e
                      · have := hv g hg; simp at this; omega,
                    HA1.out.2.2.2.2.1⟩
                · have HQ := Lib.hid (HO0.out h1)
                  go_wp2_with fail
                  go_meet
                  exact Lib.hid ⟨by rw [HQ.out]; exact HA1.out.1, HA1.out.2.1, HA1.out.2.2.1, HA1.out.2.2.2.1, HA1.out.2.2.2.2.1⟩
              case rest =>
                have HT3 := hcut
                clear HA1 HO1 HO0 HLO hcut
                have HIN0 := Lib.hid (inK_zero ds x.deed)
                have HINS := Lib.hid fun j y hy => inK_snoc (ds := ds) (d := x.deed) (j := j) (y := y) hy
                have HINE := Lib.hid (inK_end ds x.deed)
                have HDC := Lib.hid (HD2.out.keep HT3.out.2.1)
                go_wp2_with fail
                go_loop [17, 59] (fun bv jv => ∃ j : Nat, j ≤ ds.length ∧ jv = .int .i64 j ∧ bv = .bool (inK ds x.deed j)) (fun _ jv => ds.length - (intOf jv).toNat)
                case atStart => exact ⟨0, Nat.zero_le _, rfl, by rw [HIN0.out]; congr 1; rw [Bool.eq_iff_iff]; simp⟩
                case round =>
                  obtain ⟨j, hj, rfl, rfl⟩ := hrel
                  by_cases hjl : j < ds.length
                  · obtain ⟨bd, offd, y, rfl, hy, hbd, hwy, e0⟩ := HDC.out.at_ hjl
                    have HIS := Lib.hid (HINS.out j y hy)
                    have d2 := HT3.out.2.2.1.c2
                    rw [Nat.zero_add] at d2
                    clear hy hbd hwy
                    generalize inK ds x.deed j = ib at *
                    cases ib with
                    | true =>
                      go_wp2
                      exact ⟨⟨j + 1, by omega, by go_num, by rw [HIS.out]; rfl⟩, by simp [intOf]; omega⟩
                    | false =>
                      go_wp2
                      exact ⟨⟨j + 1, by omega, by go_num, by rw [HIS.out]; rfl⟩, by simp [intOf]; omega⟩
                  · obtain rfl : j = ds.length := by omega
                    rw [HINE.out]
                    clear HIN0 HINS HINE HDC
                    have HAT := Lib.hid (inD_at ring ds x)
                    generalize inD ds x.deed = ib at *
                    go_upto_region 22 with (fail)
                    go_cut [77] (fun cv wx => cv = .bool (atB ring ds x) ∧ Hid (wc = wx))
                    case first =>
                      have d1 := HT3.out.2.2.1.c1
                      rw [Nat.zero_add] at d1
                      cases ib with
                      | true =>
                        go_wp2_with fail
                        go_meet
                        exact ⟨by rw [HAT.out]; rfl, Lib.hid rfl⟩
                      | false =>
                        go_wp2_with fail
                        go_meet
                        exact ⟨by rw [HAT.out]; rfl, Lib.hid rfl⟩
                    case rest =>
                      obtain ⟨rfl, HWX⟩ := hcut
                      obtain rfl := HWX.out
                      clear HAT HWX
                      go_upto_if 77 with (fail)
                      go_cut [10] (fun av wx => Hid (Two w2.heap.size wx u9 av ((l.take (k + 1)).filter fun x => x.who == who) ((l.take (k + 1)).filter (atB ring ds)) w2.heap.size (deedsP (l.take k)) ∧ Below w2.heap.size w2 wx ∧ NtAt wx ab 0 x))
                      case first =>
                        have d0 := HT3.out.2.2.1.c0
                        have d1 := HT3.out.2.2.1.c1
                        have d2 := HT3.out.2.2.1.c2
                        have d3 := HT3.out.2.2.1.c3
                        have d4 := HT3.out.2.2.1.c4
                        have d5 := HT3.out.2.2.1.c5
                        have d6 := HT3.out.2.2.1.c6
                        have d7 := HT3.out.2.2.1.c7
                        rw [Nat.zero_add] at d1 d2 d3 d4 d5 d6 d7
                        rcases Bool.eq_false_or_eq_true (atB ring ds x) with h1 | h1
                        · have HQ := Lib.hid (HQ1.out h1)
                          rw [h1]
                          clear h1
                          go_wp2_with (at_builtin; refine wpList_append_row rfl _ _ 22 rfl 33 i0 _ 8 64 Try.underlying22 hi hz0 hz1 hz2 rfl (by decide) u10 la.length _ rfl (HT3.out.1.a.alloc _) ⟨wc.heap.size, 0, none⟩ 1 1 x.cs rfl rfl (nt_cell _ _ _) (nt_one x) (by unfold maxLen; omega) (by omega) ?_; intro v' w5 hown hf hv; have HO5 := Lib.hid hown; have HF5 := Lib.hid hf; have HV5 := Lib.hid hv; clear hown hf hv)
                          go_meet
                          have hal := (Below.refl wc.heap.size wc).alloc (Nat.le_refl _) (.cells #[.int .i64 x.who, .int .i64 x.ring, .int .i64 x.deed, .int .i64 x.lo, .int .i64 x.seq, .int .i64 x.key, .int .i64 x.val, .int .i64 x.code] 33)
                          have habl : ab < wc.heap.size := World.block_lt_of_cell? wc _ HT3.out.2.2.1.c0
                          have hB : w2.heap.size ≤ wc.heap.size := HT3.out.2.1.size
                          exact Lib.hid ⟨by rw [HQ.out]; exact (HT3.out.1.keep hal).appA (by simp; omega) HW.out HO5.out HF5.out HV5.out,
                            frm_below (HT3.out.2.1.alloc hB _) (by simp; omega) HF5.out fun g hg => HT3.out.1.ab g hg,
                            (HT3.out.2.2.1.keep hal habl).frm HF5.out fun hg => HT3.out.2.2.2.2 _ hg rfl⟩
                        · have HQ := Lib.hid (HQ0.out h1)
                          rw [h1]
                          clear h1
                          go_wp2_with fail
                          go_meet
                          exact Lib.hid ⟨by rw [HQ.out]; exact HT3.out.1, HT3.out.2.1, HT3.out.2.2.1⟩
                      case rest =>
                        have HT4 := hcut
                        clear HT3 hcut HQ1 HQ0 hlo2
                        have d2 := HT4.out.2.2.c2
                        rw [Nat.zero_add] at d2
                        have HSZ : Hid (w2.heap.size ≤ wc.heap.size) := Lib.hid HT4.out.2.1.size
                        by_cases h1 : 0 ≤ x.deed
                        · by_cases h2 : x.deed ≤ 7
                          · obtain ⟨i, hdi⟩ : ∃ i : Nat, x.deed = (i : Int) := ⟨x.deed.toNat, by omega⟩
                            have hi8 : i < 8 := by omega
                            have hle := deedsP_le (l.take k) i
                            have hle2 : deedsP (l.take k) i ≤ 1000 := by have := hle.2; rw [List.length_take] at this; omega
                            have hle1 := hle.1
                            have ci : wc.cell? ⟨w2.heap.size, i, none⟩ = some (.int .i64 (deedsP (l.take k) i)) := (obj_cell HT4.out.1.cnt i).trans (arr8_get _ i hi8)
                            have fi : wc.frozen? ⟨w2.heap.size, i, none⟩ = false := obj_free HT4.out.1.cnt i
                            have HSN : Hid (deedsP (l.take (k + 1)) = fun d => if d = i then deedsP (l.take k) i + 1 else deedsP (l.take k) d) := Lib.hid (by rw [HT.out]; exact deedsP_snoc _ _ _ hdi)
                            have HI := Lib.hid hi8
                            rw [hdi] at d2
                            generalize hq : deedsP (l.take k) i = q at *
                            have HQ := Lib.hid hq
                            clear hle hq hdi h1 h2
                            go_wp2
                            exact ⟨⟨k + 1, by omega, by go_num, Lib.hid ⟨by rw [HSN.out]; exact HT4.out.1.set HI.out _, HT4.out.2.1.setCell (p := ⟨w2.heap.size, i, none⟩) (Nat.le_refl _) _⟩⟩, by simp [intOf]; omega⟩
                          · have HC8 : Hid (∀ d, d < 8 → deedsP (l.take (k + 1)) d = deedsP (l.take k) d) := Lib.hid (by rw [HT.out]; exact deedsP_out _ _ (.inr (by omega)))
                            go_wp2
                            exact ⟨⟨k + 1, by omega, by go_num, Lib.hid ⟨{ HT4.out.1 with cnt := by rw [arr8_congr HC8.out]; exact HT4.out.1.cnt }, HT4.out.2.1⟩⟩, by simp [intOf]; omega⟩
                        · have HC8 : Hid (∀ d, d < 8 → deedsP (l.take (k + 1)) d = deedsP (l.take k) d) := Lib.hid (by rw [HT.out]; exact deedsP_out _ _ (.inl (by omega)))
                          go_wp2
                          exact ⟨⟨k + 1, by omega, by go_num, Lib.hid ⟨{ HT4.out.1 with cnt := by rw [arr8_congr HC8.out]; exact HT4.out.1.cnt }, HT4.out.2.1⟩⟩, by simp [intOf]; omega⟩
            · obtain rfl : k = l.length := by omega
              rw [List.take_length] at HJ
              have HBW := Lib.hid (bthen HB1.out HJ.out.2)
              have HALL : Hid (∀ w, Below wr.heap.size wr w → NtsAt w (.slice p l.length c) l ∧ NtsAt w u9 (l.filter fun x => x.who == who) ∧ NtsAt w u10 (l.filter (atB ring ds)) ∧ IntsR w (.slice pn ds.length cn) ds ∧ w.heap[w2.heap.size]? = some (.cells (arr8 (deedsP l)) 28 (0, 0))) := Lib.hid fun w hw => by
                have h2 := HJ.out.1.keep hw
                exact ⟨HL.out.keep (bthen HBW.out hw), NtsOwn.read (B := 0) ⟨h2.o, h2.wo⟩, NtsOwn.read (B := 0) ⟨h2.a, h2.wa⟩, HN1.out.keep (bthen HJ.out.2 hw), h2.cnt⟩
              obtain ⟨po, co, rfl, -⟩ := row_form HJ.out.1.o
              obtain ⟨pa, ca, rfl, -⟩ := row_form HJ.out.1.a
              clear HJ HL2 HD2 hlt
              generalize hn0 : deedsP l 0 = n0
              generalize hn1 : deedsP l 1 = n1
              generalize hn2 : deedsP l 2 = n2
              generalize hn3 : deedsP l 3 = n3
              generalize hn4 : deedsP l 4 = n4
              generalize hn5 : deedsP l 5 = n5
              generalize hn6 : deedsP l 6 = n6
              generalize hn7 : deedsP l 7 = n7
              have HARR : Hid (arr8 (deedsP l) = #[.int .i64 n0, .int .i64 n1, .int .i64 n2, .int .i64 n3, .int .i64 n4, .int .i64 n5, .int .i64 n6, .int .i64 n7]) := Lib.hid (by unfold arr8; rw [hn0, hn1, hn2, hn3, hn4, hn5, hn6, hn7])
              have hq : ∀ w, (binOp .eql 28 (.agg #[.int .i64 n0, .int .i64 n1, .int .i64 n2, .int .i64 n3, .int .i64 n4, .int .i64 n5, .int .i64 n6, .int .i64 n7]) (.agg #[.int .i64 n0, .int .i64 n1, .int .i64 n2, .int .i64 n3, .int .i64 n4, .int .i64 n5, .int .i64 n6, .int .i64 n7])).run Try.prog w = .ok (.bool true) w := fun w => by
                have := eqArr (deedsP l) w
                rwa [HARR.out] at this
              clear hn0 hn1 hn2 hn3 hn4 hn5 hn6 hn7
              rw [HARR.out] at HALL
              have HCL : Hid (∀ w, Below wr.heap.size wr w → w.cell? ⟨w2.heap.size, 0, none⟩ = some (.int .i64 n0) ∧ w.cell? ⟨w2.heap.size, 1, none⟩ = some (.int .i64 n1) ∧ w.cell? ⟨w2.heap.size, 2, none⟩ = some (.int .i64 n2) ∧ w.cell? ⟨w2.heap.size, 3, none⟩ = some (.int .i64 n3) ∧ w.cell? ⟨w2.heap.size, 4, none⟩ = some (.int .i64 n4) ∧ w.cell? ⟨w2.heap.size, 5, none⟩ = some (.int .i64 n5) ∧ w.cell? ⟨w2.heap.size, 6, none⟩ = some (.int .i64 n6) ∧ w.cell? ⟨w2.heap.size, 7, none⟩ = some (.int .i64 n7)) := Lib.hid fun w hw => by
                have h := (HALL.out w hw).2.2.2.2
                exact ⟨obj_cell h 0, obj_cell h 1, obj_cell h 2, obj_cell h 3, obj_cell h 4, obj_cell h 5, obj_cell h 6, obj_cell h 7⟩
              obtain ⟨k0, k1, k2, k3, k4, k5, k6, k7⟩ := HCL.out wr (Below.refl _ _)
              have HCN := Lib.hid fun w (hw : Below wr.heap.size wr w) => tcounts (HALL.out w hw).1 (by omega)
              rw [HARR.out] at HCN
              have HOF := Lib.hid fun w (hw : Below wr.heap.size wr w) => tof (who := who) (HALL.out w hw).1 (by omega)
              have HAT := Lib.hid fun w (hw : Below wr.heap.size wr w) => tat (ring := ring) (HALL.out w hw).1 (by omega) (HALL.out w hw).2.2.2.1 (by omega)
              have HLO : Hid ((l.filter fun x => x.who == who).length ≤ 1000 ∧ (l.filter (atB ring ds)).length ≤ 1000) := Lib.hid ⟨Nat.le_trans (List.length_filter_le _ _) (by omega), Nat.le_trans (List.length_filter_le _ _) (by omega)⟩
              generalize (l.filter fun x => x.who == who) = lo at *
              generalize l.filter (atB ring ds) = la at *
              go_upto_region 27 with (fail)
              go_region_held3 (fun w' => w'.cell? ⟨w2.heap.size, 0, none⟩ = some (.int .i64 n0) ∧ w'.cell? ⟨w2.heap.size, 1, none⟩ = some (.int .i64 n1) ∧ w'.cell? ⟨w2.heap.size, 2, none⟩ = some (.int .i64 n2) ∧ w'.cell? ⟨w2.heap.size, 3, none⟩ = some (.int .i64 n3) ∧ w'.cell? ⟨w2.heap.size, 4, none⟩ = some (.int .i64 n4) ∧ w'.cell? ⟨w2.heap.size, 5, none⟩ = some (.int .i64 n5) ∧ w'.cell? ⟨w2.heap.size, 6, none⟩ = some (.int .i64 n6) ∧ w'.cell? ⟨w2.heap.size, 7, none⟩ = some (.int .i64 n7)) (first
                | exact ⟨by assumption, by assumption, by assumption, by assumption, by assumption, by assumption, by assumption, by assumption⟩
                | exact ⟨by go_simp, by go_simp, by go_simp, by go_simp, by go_simp, by go_simp, by go_simp, by go_simp⟩) (first
                | (go_at_call 11; refine (awake22 _).mono ?_; rintro e w5 ⟨rfl, hb⟩; have H5 := Lib.hid (bthen (Below.drew (Below.refl wr.heap.size wr)) hb); clear k0 k1 k2 k3 k4 k5 k6 k7 hb; obtain ⟨k0, k1, k2, k3, k4, k5, k6, k7⟩ := HCL.out _ H5.out)
                | (go_at_call 13; refine (HOF.out _ H5.out).mono ?_; rintro e w6 ⟨v6, rfl, ho, hb⟩; have HO6 := Lib.hid ho.read; have H6 := Lib.hid (bthen H5.out hb); obtain ⟨p6, c6, rfl, -⟩ := row_form ho.own; clear k0 k1 k2 k3 k4 k5 k6 k7 ho hb; obtain ⟨k0, k1, k2, k3, k4, k5, k6, k7⟩ := HCL.out _ H6.out)
                | (go_at_call 12; refine (tsame HO8.out (HALL.out _ H8.out).2.2.1 HLO.out.2).mono ?_; rintro e w9 ⟨rfl, hb⟩; have H9 := Lib.hid (bthen H8.out hb); clear k0 k1 k2 k3 k4 k5 k6 k7 hb; obtain ⟨k0, k1, k2, k3, k4, k5, k6, k7⟩ := HCL.out _ H9.out)
                | (go_at_call 12; refine (tsame HO6.out (HALL.out _ H6.out).2.1 HLO.out.1).mono ?_; rintro e w7 ⟨rfl, hb⟩; have H7 := Lib.hid (bthen H6.out hb); clear k0 k1 k2 k3 k4 k5 k6 k7 hb; obtain ⟨k0, k1, k2, k3, k4, k5, k6, k7⟩ := HCL.out _ H7.out)
                | (go_at_call 14; refine (HAT.out _ H7.out).mono ?_; rintro e w8 ⟨v8, rfl, ho, hb⟩; have HO8 := Lib.hid ho.read; have H8 := Lib.hid (bthen H7.out hb); obtain ⟨p8, c8, rfl, -⟩ := row_form ho.own; clear k0 k1 k2 k3 k4 k5 k6 k7 ho hb; obtain ⟨k0, k1, k2, k3, k4, k5, k6, k7⟩ := HCL.out _ H8.out)
                | (go_at_call 15; refine (HCN.out _ H9.out).mono ?_; rintro e wA ⟨rfl, hb⟩; have HA := Lib.hid (bthen H9.out hb); clear k0 k1 k2 k3 k4 k5 k6 k7 hb; obtain ⟨k0, k1, k2, k3, k4, k5, k6, k7⟩ := HCL.out _ HA.out))
              go_wp2
              go_ret
              exact ⟨rfl, bthen HBW.out HA.out⟩
    · go_enter Try.func3, Try.ntmps3
      go_wp2_with (first
        | (go_at_call 10; refine (tsmall HL.out).mono ?_; rintro e w1 ⟨rfl, rfl⟩; rw [HS.out])
        | (go_at_call 11; refine (awake22 _).mono ?_; rintro e w2 ⟨rfl, hb⟩; have HB := Lib.hid hb; clear hb))
      go_ret
      exact ⟨rfl, HB.out⟩
  · have HS : Hid (decide (l.length ≤ 120) = false) := Lib.hid (by simpa using h120)
    go_enter Try.func3, Try.ntmps3
    go_wp2_with (first
      | (go_at_call 10; refine (tsmall HL.out).mono ?_; rintro e w1 ⟨rfl, rfl⟩; rw [HS.out])
      | (go_at_call 11; refine (awake22 _).mono ?_; rintro e w2 ⟨rfl, hb⟩; have HB := Lib.hid hb; clear hb))
    go_ret
    exact ⟨rfl, HB.out⟩
end Go.Proofs.Ytnblkkmandlllaa
