/-
  The document's world of layer 14: Published by contract. No condition but those that each theorem names.
-/
import Derived.Test.YtdfcfdcekdmcmaaGreatPk27
import Derived.Deep.MidRow
set_option linter.unusedVariables false
set_option linter.unusedSimpArgs false
namespace Go.Proofs.YtdfcfdcekdmcmaaGreat
open Go.RowKit
set_option linter.unusedVariables false
set_option linter.unusedSimpArgs false
def shownD (x : Dr) (s : Int) : Bool := x.shown.getD (s.tmod (two x.k)).toNat 0 == s
theorem ring_info (x : Dr) : (Tryz.prog.info? 139).map (·.size) = some x.cells.toArray.size := by kernel_rfl
section
variable {R : Rest} {W0 W w : World} {a : Nat} {cs : List Int} {st : Int} {d : Dw} {i : Nat} {x : Dr}
theorem dpub_none (h : Dm R W0 W a cs st d) (z lo : Int) (hz : z < 0 ∨ (d.L.length : Int) ≤ z) (hl : d.L.length ≤ 8) :
    Calls Tryz.prog 66 #[.pointer (some ⟨d.wb, 0, none⟩), .int .i64 z, .int .i64 lo] W fun e w' => e = .returned (.tuple #[.int .i64 0, .int .i64 3]) ∧ W = w' := by
  obtain ⟨p, cap, hv, -⟩ := row_form h.rings
  have k4 : W.cell? ⟨d.wb, 4, none⟩ = some (.slice p d.L.length cap) := (obj_cell h.box 4).trans (by simp [Dw.cells, hv])
  generalize d.L.length = n at *
  generalize d.wb = wb at *
  clear h hv
  by_cases hn : z < 0
  · have e1 : decide (z < 0) = true := decide_eq_true hn
    go_enter Tryz.func66, Tryz.ntmps66
    go_wp2
    go_ret2
    exact ⟨rfl, rfl⟩
  · have e1 : decide (z < 0) = false := decide_eq_false hn
    have e2 : decide ((n : Int) ≤ z) = true := decide_eq_true (by omega)
    go_enter Tryz.func66, Tryz.ntmps66
    go_wp2
    go_ret2
    exact ⟨rfl, rfl⟩
theorem dpub_range (h : Dm R W0 W a cs st d) (hi : i < d.L.length) (lo : Int) (hz : lo < 0 ∨ 4611686018427387904 < lo) (hl : d.L.length ≤ 8) :
    Calls Tryz.prog 66 #[.pointer (some ⟨d.wb, 0, none⟩), .int .i64 i, .int .i64 lo] W fun e w' => e = .returned (.tuple #[.int .i64 0, .int .i64 5]) ∧ W = w' := by
  obtain ⟨p, cap, hv, -⟩ := row_form h.rings
  have k4 : W.cell? ⟨d.wb, 4, none⟩ = some (.slice p d.L.length cap) := (obj_cell h.box 4).trans (by simp [Dw.cells, hv])
  have e0 : decide ((i : Int) < 0) = false := decide_eq_false (by omega)
  have e00 : decide ((d.L.length : Int) ≤ (i : Int)) = false := decide_eq_false (by omega)
  generalize d.L.length = n at *
  generalize d.wb = wb at *
  clear h hv
  by_cases hn : lo < 0
  · have e1 : decide (lo < 0) = true := decide_eq_true hn
    go_enter Tryz.func66, Tryz.ntmps66
    go_wp2
    go_ret2
    exact ⟨rfl, rfl⟩
  · have e1 : decide (lo < 0) = false := decide_eq_false hn
    have e2 : decide (4611686018427387904 < lo) = true := decide_eq_true (by omega)
    go_enter Tryz.func66, Tryz.ntmps66
    go_wp2
    go_ret2
    exact ⟨rfl, rfl⟩
theorem cells_one (x : Dr) (h1 : x.shv.oneCell' = true) (h2 : x.slv.oneCell' = true) (h3 : x.wv.oneCell' = true) : x.cells.toArray.all (·.oneCell') = true := by
  rw [Array.all_eq_true_iff_forall_mem]
  intro y hy
  simp only [Dr.cells, List.mem_toArray, List.mem_cons, List.not_mem_nil, or_false] at hy
  rcases hy with rfl | rfl | rfl | rfl | rfl | rfl | rfl | rfl | rfl <;> first | rfl | assumption
theorem Dm.sl (h : Dm R W0 W a cs st d) (hx : d.L[i]? = some x) : W.ownsRow W0.heap.size 86 2 x.slv (two x.k).toNat x.sl := h.is (l := .row 86 2 x.slv (two x.k).toNat x.sl) (by
  have := mem_lays (f := Dr.lys) hx (l := .row 86 2 x.slv (two x.k).toNat x.sl) (by simp [Dr.lys])
  simp only [Dw.lys, List.mem_append]
  exact .inr (.inr (.inr this)))
theorem Dm.one (h : Dm R W0 W a cs st d) (hx : d.L[i]? = some x) : x.cells.toArray.all (·.oneCell') = true := by
  obtain ⟨p1, c1, e1, -⟩ := row_form (h.sh hx)
  obtain ⟨p2, c2, e2, -⟩ := row_form (h.sl hx)
  obtain ⟨p3, c3, e3, -⟩ := row_form (h.wt hx)
  exact cells_one x (by rw [e1]; rfl) (by rw [e2]; rfl) (by rw [e3]; rfl)
set_option maxHeartbeats 4000000 in
set_option maxRecDepth 100000 in
theorem dpub_one (h : Dm R W0 W a cs st d) (hx : d.L[i]? = some x) (hm : x.many = false) (hl : d.L.length ≤ 8) (lo : Int) (h0 : 0 ≤ lo) (h1 : lo ≤ 4611686018427387904) :
    Calls Tryz.prog 66 #[.pointer (some ⟨d.wb, 0, none⟩), .int .i64 i, .int .i64 lo] W fun e w' => e = .returned (.tuple #[.int .i64 (max (lo - 1) x.p), .int .i64 0]) ∧ Below W.heap.size W w' := by
  obtain ⟨rb, cap, hv, hcl, hfr⟩ := h.at hx
  have hil : i < d.L.length := (List.getElem?_eq_some_iff.1 hx).1
  have k4 : W.cell? ⟨d.wb, 4, none⟩ = some (.slice (some ⟨rb, 0, none⟩) d.L.length cap) := (obj_cell h.box 4).trans (by simp [Dw.cells, hv])
  have HONE := Lib.hid (h.one hx)
  have HI := Lib.hid (ring_info x)
  have hr := h.rings
  rw [hv] at hr
  have HRNG := Lib.hid (fl_range (f := Dr.cells) (L := d.L) hr (fun x _ => rfl) hx)
  have HIX : Hid ((Tryz.prog.info? 139).map (·.size) = some x.cells.length) := Lib.hid (ring_info x)
  have b0 : (0 : Int) ≤ (i : Int) := by omega
  have b1 : (i : Int) < (d.L.length : Int) := by omega
  have e0 : decide ((i : Int) < 0) = false := decide_eq_false (by omega)
  have e00 : decide ((d.L.length : Int) ≤ (i : Int)) = false := decide_eq_false (by omega)
  have f1 : decide (lo < 0) = false := decide_eq_false (by omega)
  have f2 : decide (4611686018427387904 < lo) = false := decide_eq_false (by omega)
  generalize d.L.length = n at *
  generalize d.wb = wb at *
  obtain ⟨mx, hmx⟩ : ∃ mx : Int, mx = max (lo - 1) x.p := ⟨_, rfl⟩
  rw [← hmx]
  have HMX := Lib.hid hmx
  clear h hcl hfr hv hr hx hmx
  go_enter Tryz.func66, Tryz.ntmps66
  go_upto_region 6 with (first
    | (refine wpList_load_mid rfl 139 (.tmp 32) rfl rb (i * 9) rfl x.cells _ HRNG.out Tryz.underlying139 rfl HIX.out ?_)
    | (refine wpList_store_row rfl 139 (.tmp 8) (.tmp 33) rfl W.heap.size x.cells.toArray rfl rfl 139 _ (obj_new W _) HI.out rfl HONE.out ?_))
  generalize hX : World.setRow _ _ _ = w5
  try simp only [Act.put, List.setIfInBounds_toArray, List.set_cons_zero, List.set_cons_succ]
  obtain ⟨hq, hb5⟩ := stored_new hX
  have HBB := Lib.hid hb5
  have r1 : w5.cell? ⟨W.heap.size, 1, none⟩ = some (.bool false) := (obj_cell hq 1).trans (by simp [Dr.cells, hm])
  have r3 : w5.cell? ⟨W.heap.size, 3, none⟩ = some (.int .i64 x.p) := (obj_cell hq 3).trans rfl
  generalize hnb : W.heap.size = nb at *
  have HNB := Lib.hid hnb
  clear hX hq hb5 HRNG HONE HI HIX hnb
  by_cases hlt : x.p < lo
  · have dp : decide (x.p < lo) = true := decide_eq_true hlt
    have HE : Hid (mx = lo - 1) := Lib.hid (by have := HMX.out; omega)
    clear hlt
    go_wp2
    go_ret2
    exact ⟨by first | (rw [HE.out]; done) | (rw [HE.out]; rfl) | simp [HE.out], by rw [HNB.out]; exact HBB.out⟩
  · have dp : decide (x.p < lo) = false := decide_eq_false hlt
    have HE : Hid (mx = x.p) := Lib.hid (by have := HMX.out; omega)
    clear hlt
    go_wp2
    go_ret2
    exact ⟨by first | (rw [HE.out]; done) | (rw [HE.out]; rfl) | simp [HE.out], by rw [HNB.out]; exact HBB.out⟩
set_option maxHeartbeats 4000000 in
set_option maxRecDepth 100000 in
theorem dpub_many (h : Dm R W0 W a cs st d) (hx : d.L[i]? = some x) (hm : x.many = true) (hl : d.L.length ≤ 8) (hk : x.k ≤ 20) (hsl : (x.shown.length : Int) = two x.k) (hc : -1 ≤ x.c) (hc2 : x.c ≤ 4611686018427387904) (lo : Int) (h0 : 0 ≤ lo) (h1 : lo ≤ 4611686018427387904) :
    Calls Tryz.prog 66 #[.pointer (some ⟨d.wb, 0, none⟩), .int .i64 i, .int .i64 lo] W fun e w' => ∃ j : Nat, RunTo (shownD x) lo x.c j ∧ e = .returned (.tuple #[.int .i64 (lo + j - 1), .int .i64 0]) ∧ Below W.heap.size W w' := by
  obtain ⟨rb, cap, hv, hcl, hfr⟩ := h.at hx
  have hil : i < d.L.length := (List.getElem?_eq_some_iff.1 hx).1
  have k4 : W.cell? ⟨d.wb, 4, none⟩ = some (.slice (some ⟨rb, 0, none⟩) d.L.length cap) := (obj_cell h.box 4).trans (by simp [Dw.cells, hv])
  have HONE := Lib.hid (h.one hx)
  have HI := Lib.hid (ring_info x)
  have hr := h.rings
  rw [hv] at hr
  have HRNG := Lib.hid (fl_range (f := Dr.cells) (L := d.L) hr (fun x _ => rfl) hx)
  have HIX : Hid ((Tryz.prog.info? 139).map (·.size) = some x.cells.length) := Lib.hid (ring_info x)
  have htp := two_pos x.k
  have htl := two_le hk
  obtain ⟨sb, scap, hsv, -⟩ := row_some (h.sh hx) (by omega)
  have hsr := h.sh hx
  rw [hsv] at hsr
  have HKC : Hid (∀ (m : Nat) (v : Int), x.shown[m]? = some v → W.cell? ⟨sb, m, none⟩ = some (.int .i64 v)) := Lib.hid fun m v hv => by
    have hml := (List.getElem?_eq_some_iff.1 hv).1
    rw [hsr.cellAt m (by omega), List.getElem?_map, hv]
    rfl
  have b0 : (0 : Int) ≤ (i : Int) := by omega
  have b1 : (i : Int) < (d.L.length : Int) := by omega
  have e0 : decide ((i : Int) < 0) = false := decide_eq_false (by omega)
  have e00 : decide ((d.L.length : Int) ≤ (i : Int)) = false := decide_eq_false (by omega)
  have f1 : decide (lo < 0) = false := decide_eq_false (by omega)
  have f2 : decide (4611686018427387904 < lo) = false := decide_eq_false (by omega)
  generalize d.L.length = n at *
  generalize d.wb = wb at *
  clear h hcl hfr hv hr hx hsr
  go_enter Tryz.func66, Tryz.ntmps66
  go_upto_region 6 with (first
    | (refine wpList_load_mid rfl 139 (.tmp 32) rfl rb (i * 9) rfl x.cells _ HRNG.out Tryz.underlying139 rfl HIX.out ?_)
    | (refine wpList_store_row rfl 139 (.tmp 8) (.tmp 33) rfl W.heap.size x.cells.toArray rfl rfl 139 _ (obj_new W _) HI.out rfl HONE.out ?_))
  generalize hX : World.setRow _ _ _ = w5
  try simp only [Act.put, List.setIfInBounds_toArray, List.set_cons_zero, List.set_cons_succ]
  obtain ⟨hq, hb5⟩ := stored_new hX
  have HBB := Lib.hid hb5
  have HQ := Lib.hid hq
  have r1 : w5.cell? ⟨W.heap.size, 1, none⟩ = some (.bool true) := (obj_cell hq 1).trans (by simp [Dr.cells, hm])
  generalize hnb : W.heap.size = nb at *
  have HNB := Lib.hid hnb
  clear hX hq hb5 HRNG HONE HI HIX hnb k4
  go_wp2_with fail
  go_loopw [9] (fun av wl => ∃ (q : Nat) (T : Int), av = .int .i64 T ∧ T = lo + q - 1 ∧ (∀ i : Nat, i < q → shownD x (lo + i) = true) ∧ (q = 0 ∨ lo + q - 1 ≤ x.c) ∧ Hid (Below w5.heap.size w5 wl)) (fun av _ => (x.c + 1 - intOf av).toNat)
  case atStart => exact ⟨0, lo - 1, rfl, by omega, fun i hi => absurd hi (Nat.not_lt_zero _), .inl rfl, Lib.hid (Below.refl _ _)⟩
  case round =>
    clear r1
    obtain ⟨q, T, rfl, hT, hsh, hqc, hb⟩ := hrel
    have HT := Lib.hid hT
    have HSH := Lib.hid hsh
    have HQC := Lib.hid hqc
    have HBW : Hid (∀ z : Later wr, Below w5.heap.size w5 z.to) := Lib.hid fun z => bthen hb.out z.below
    have n2 : ∀ z : Later wr, z.to.cell? ⟨nb, 2, none⟩ = some (.int .i64 x.c) := fun z => keepc (HBW.out z) ((obj_cell HQ.out 2).trans rfl)
    by_cases hlt : T < x.c
    · have dl : decide (T < x.c) = true := decide_eq_true hlt
      have hm0 : 0 ≤ (T + 1).tmod (two x.k) := Int.tmod_nonneg _ (by omega)
      have hm1 : (T + 1).tmod (two x.k) < two x.k := Int.tmod_lt_of_pos _ htp
      obtain ⟨m, hmm⟩ : ∃ m : Nat, (T + 1).tmod (two x.k) = (m : Int) := ⟨((T + 1).tmod (two x.k)).toNat, by omega⟩
      have hml : m < x.shown.length := by omega
      obtain ⟨v, hv⟩ : ∃ v : Int, x.shown[m]? = some v := ⟨_, List.getElem?_eq_getElem hml⟩
      have n0 : ∀ z : Later wr, z.to.cell? ⟨nb, 0, none⟩ = some (.int .i64 (two x.k)) := fun z => keepc (HBW.out z) ((obj_cell HQ.out 0).trans rfl)
      have n5 : ∀ z : Later wr, z.to.cell? ⟨nb, 5, none⟩ = some (.slice (some ⟨sb, 0, none⟩) x.shown.length scap) := fun z => keepc (HBW.out z) ((obj_cell HQ.out 5).trans (by simp [Dr.cells, hsv]))
      have kv : ∀ z : Later wr, z.to.cell? ⟨sb, m, none⟩ = some (.int .i64 v) := fun z => keepc (bthen (show Below W.heap.size W w5 by rw [HNB.out]; exact HBB.out) (HBW.out z)) (HKC.out m v hv)
      have hD : shownD x (lo + q) = (v == T + 1) := by
        have e1 : lo + (q : Int) = T + 1 := by omega
        unfold shownD
        rw [e1, hmm, Int.toNat_natCast, List.getD_eq_getElem?_getD, hv]
        rfl
      have HD := Lib.hid hD
      have m0 : (0 : Int) ≤ (m : Int) := by omega
      have m1 : (m : Int) < (x.shown.length : Int) := by omega
      have nz : (two x.k == 0) = false := by simp; omega
      have t0 : -1 ≤ T := by omega
      have t1 : T ≤ 4611686018427387904 := by omega
      generalize two x.k = NN at *
      generalize x.shown.length = sl at *
      clear hv hD hsh hqc hb hm0 hm1 hml hsl
      by_cases hvv : v = T + 1
      · have ev : (v == T + 1) = true := by simpa using hvv
        clear hvv hT
        go_upto_region 11 with fail
        refine wp_region_later (by kernel_rfl) (by kernel_rfl) ?_
        repeat (go_big_quiet_step (fail))
        refine wpQuiet_nil ?_
        intro _ hw'
        obtain ⟨nq, rfl⟩ := hw'
        have HBN := Lib.hid (HBW.out nq)
        clear n0 n2 n5 kv HBW
        go_wp2_with fail
        refine ⟨⟨q + 1, T + 1, by go_num, by have := HT.out; omega, fun i hi => ?_, .inr (by have := HT.out; omega), HBN⟩, by simp [intOf]; omega⟩
        by_cases hiq : i < q
        · exact HSH.out i hiq
        · obtain rfl : i = q := by omega
          rw [HD.out]
          exact ev
      · have ev : (v == T + 1) = false := by simpa using hvv
        clear hvv hT
        go_upto_region 11 with fail
        refine wp_region_later (by kernel_rfl) (by kernel_rfl) ?_
        repeat (go_big_quiet_step (fail))
        refine wpQuiet_nil ?_
        intro _ hw'
        obtain ⟨nq, rfl⟩ := hw'
        have HBN := Lib.hid (HBW.out nq)
        clear n0 n2 n5 kv HBW
        go_wp2_with fail
        go_ret2
        refine ⟨q, ⟨HSH.out, fun _ => by rw [HD.out]; exact ev, HQC.out⟩, ?_, bthen (show Below W.heap.size W w5 by rw [HNB.out]; exact HBB.out) HBN.out⟩
        rw [← HT.out]
        rfl
    · have dl : decide (T < x.c) = false := decide_eq_false hlt
      have HLT := Lib.hid hlt
      clear hT hsh hqc hb hlt
      go_upto_region 11 with fail
      refine wp_region_later (by kernel_rfl) (by kernel_rfl) ?_
      repeat (go_big_quiet_step (fail))
      refine wpQuiet_nil ?_
      intro _ hw'
      obtain ⟨nq, rfl⟩ := hw'
      have HBN := Lib.hid (HBW.out nq)
      clear n2 HBW
      go_wp2_with fail
      go_ret2
      refine ⟨q, ⟨HSH.out, fun e => ?_, HQC.out⟩, ?_, bthen (show Below W.heap.size W w5 by rw [HNB.out]; exact HBB.out) HBN.out⟩
      · have := HT.out
        have := HLT.out
        omega
      · rw [← HT.out]
        rfl
end
end Go.Proofs.YtdfcfdcekdmcmaaGreat
