/-
  The document's Handled, in of the statements, and Once of package trace, by contract. Conditions: at most 1000 notes, and actors.
-/
import Derived.Test.YtnblkkmandlllaaTb
namespace Go.Proofs.Ytnblkkmandlllaa
open Go.RowKit Go.Shelf Go.Maps
set_option linter.unusedVariables false
set_option linter.unusedSimpArgs false

def hndB (who ring deed : Int) (x : Nt) : Bool := (decide (who < 0) || x.who == who) && x.ring == ring && x.deed == deed

set_option maxRecDepth 100000 in
set_option maxHeartbeats 2000000 in
theorem rhandled {W : World} {v : Value} {l : List Nt} {who ring deed : Int} (hl : NtsAt W v l) (h120 : l.length ≤ 1000) :
    Calls Try.prog 20 #[v, .int .i64 who, .int .i64 ring, .int .i64 deed] W fun e w' => ∃ v', e = .returned v' ∧ NtsOwn W.heap.size w' v' (l.filter (hndB who ring deed)) ∧ Below W.heap.size W w' := by
  obtain ⟨i0, hi, hz0, hz1, hz2⟩ := info_parts infoNt
  have HL := Lib.hid hl
  obtain ⟨p, c, rfl, hc, hm⟩ := hl.form
  clear hl
  go_enter Try.func20, Try.ntmps20
  go_wp2_with fail
  go_loopw [9, 10] (fun ov iv wl => ∃ k : Nat, k ≤ l.length ∧ iv = .int .i64 k ∧ Hid (NtsOwn W.heap.size wl ov ((l.take k).filter (hndB who ring deed)) ∧ Below W.heap.size W wl)) (fun _ iv _ => l.length - (intOf iv).toNat)
  case atStart => exact ⟨0, Nat.zero_le _, rfl, Lib.hid ⟨NtsOwn.nil _ _, Below.refl _ _⟩⟩
  case round =>
    obtain ⟨k, hk, rfl, HJ⟩ := hrel
    by_cases hlt : k < l.length
    · obtain ⟨b, off, x, rfl, hx, hb, hwf, ⟨c0, c1, c2, c3, c4, c5, c6, c7⟩⟩ := (HL.out.keep HJ.out.2).at_ hlt
      have HW := Lib.hid hwf
      have HT : Hid (l.take (k + 1) = l.take k ++ [x]) := Lib.hid (take_snocN hx)
      have HLL : Hid (((l.take k).filter (hndB who ring deed)).length ≤ l.length) := Lib.hid (by have := List.length_filter_le (hndB who ring deed) (l.take k); rw [List.length_take] at this; omega)
      have HH : Hid (hndB who ring deed x = ((decide (who < 0) || x.who == who) && x.ring == ring && x.deed == deed)) := Lib.hid rfl
      have HTT := Lib.hid fun h => filter_snocT (f := hndB who ring deed) (l := l.take k) (x := x) h
      have HFF := Lib.hid fun h => filter_snocF (f := hndB who ring deed) (l := l.take k) (x := x) h
      clear hx hb hwf
      generalize (l.take k).filter (hndB who ring deed) = q at *
      have miss : hndB who ring deed x = false → Hid ((l.take (k + 1)).filter (hndB who ring deed) = q) := fun h => Lib.hid (by rw [HT.out, HFF.out h])
      have hit : hndB who ring deed x = true → Hid ((l.take (k + 1)).filter (hndB who ring deed) = q ++ [x]) := fun h => Lib.hid (by rw [HT.out, HTT.out h])
      have MISS := Lib.hid miss
      have HIT := Lib.hid hit
      clear miss hit
      by_cases h0 : who < 0
      · rcases Bool.eq_false_or_eq_true (x.ring == ring) with h2 | h2
        · rcases Bool.eq_false_or_eq_true (x.deed == deed) with h3 | h3
          · have HQ := HIT.out (by rw [HH.out]; simp [h0, h2, h3])
            go_wp2_with (at_builtin; refine wpList_append_own _ rfl _ _ 22 rfl W.heap.size 33 i0 _ 8 64 Try.underlying22 hi hz0 hz1 hz2 rfl (by decide) u9 q.length _ rfl (HJ.out.1.own.alloc _) ⟨wr.heap.size, 0, none⟩ 1 1 x.cs rfl rfl (nt_cell _ _ _) (nt_one x) (by have := HLL.out; unfold maxLen; omega) (by have := HLL.out; omega) (by have := HJ.out.2.size; simp; omega) ?_; intro v' w2 hown hg hnil; have HO := Lib.hid hown; have HG := Lib.hid hg; clear hown hg hnil)
            exact ⟨⟨k + 1, by omega, by go_num, Lib.hid ⟨by rw [HQ.out]; exact NtsOwn.app HO.out HJ.out.1.wf HW.out, Below.app HJ.out.2 HJ.out.2.size HJ.out.1.own HG.out⟩⟩, by simp [intOf]; omega⟩
          · have HQ := MISS.out (by rw [HH.out]; simp [h3])
            go_wp2
            exact ⟨⟨k + 1, by omega, by go_num, Lib.hid ⟨by rw [HQ.out]; exact HJ.out.1, HJ.out.2⟩⟩, by simp [intOf]; omega⟩
        · have HQ := MISS.out (by rw [HH.out]; simp [h2])
          go_wp2
          exact ⟨⟨k + 1, by omega, by go_num, Lib.hid ⟨by rw [HQ.out]; exact HJ.out.1, HJ.out.2⟩⟩, by simp [intOf]; omega⟩
      · rcases Bool.eq_false_or_eq_true (x.who == who) with h1 | h1
        · rcases Bool.eq_false_or_eq_true (x.ring == ring) with h2 | h2
          · rcases Bool.eq_false_or_eq_true (x.deed == deed) with h3 | h3
            · have HQ := HIT.out (by rw [HH.out]; simp [h1, h2, h3])
              go_wp2_with (at_builtin; refine wpList_append_own _ rfl _ _ 22 rfl W.heap.size 33 i0 _ 8 64 Try.underlying22 hi hz0 hz1 hz2 rfl (by decide) u9 q.length _ rfl (HJ.out.1.own.alloc _) ⟨wr.heap.size, 0, none⟩ 1 1 x.cs rfl rfl (nt_cell _ _ _) (nt_one x) (by have := HLL.out; unfold maxLen; omega) (by have := HLL.out; omega) (by have := HJ.out.2.size; simp; omega) ?_; intro v' w2 hown hg hnil; have HO := Lib.hid hown; have HG := Lib.hid hg; clear hown hg hnil)
              exact ⟨⟨k + 1, by omega, by go_num, Lib.hid ⟨by rw [HQ.out]; exact NtsOwn.app HO.out HJ.out.1.wf HW.out, Below.app HJ.out.2 HJ.out.2.size HJ.out.1.own HG.out⟩⟩, by simp [intOf]; omega⟩
            · have HQ := MISS.out (by rw [HH.out]; simp [h3])
              go_wp2
              exact ⟨⟨k + 1, by omega, by go_num, Lib.hid ⟨by rw [HQ.out]; exact HJ.out.1, HJ.out.2⟩⟩, by simp [intOf]; omega⟩
          · have HQ := MISS.out (by rw [HH.out]; simp [h2])
            go_wp2
            exact ⟨⟨k + 1, by omega, by go_num, Lib.hid ⟨by rw [HQ.out]; exact HJ.out.1, HJ.out.2⟩⟩, by simp [intOf]; omega⟩
        · have HQ := MISS.out (by rw [HH.out]; simp [h0, h1])
          go_wp2
          exact ⟨⟨k + 1, by omega, by go_num, Lib.hid ⟨by rw [HQ.out]; exact HJ.out.1, HJ.out.2⟩⟩, by simp [intOf]; omega⟩
    · obtain rfl : k = l.length := by omega
      rw [List.take_length] at HJ
      obtain ⟨po, co, rfl, -⟩ := row_form HJ.out.1.own
      go_wp2
      go_ret
      exact ⟨_, rfl, HJ.out⟩

/-- A number is in a list. -/
def hasI (l : List Int) (n : Int) : Bool := l.contains n
theorem tin {W : World} {v : Value} {l : List Int} {n : Int} (hl : IntsR W v l) (h120 : l.length ≤ 1000) :
    Calls Try.prog 25 #[v, .int .i64 n] W fun e w' => e = .returned (.bool (hasI l n)) ∧ W = w' := by
  have HL := Lib.hid hl
  obtain ⟨p, c, rfl, hc, hm⟩ := hl.form
  clear hl
  go_enter Try.func25, Try.ntmps25
  go_wp2_with fail
  go_loop [9] (fun iv => ∃ k : Nat, k ≤ l.length ∧ iv = .int .i64 k ∧ Hid (hasI (l.take k) n = false)) (fun iv => l.length - (intOf iv).toNat)
  case atStart => exact ⟨0, Nat.zero_le _, rfl, Lib.hid rfl⟩
  case round =>
    obtain ⟨k, hk, rfl, HJ⟩ := hrel
    by_cases hlt : k < l.length
    · obtain ⟨b, off, x, rfl, hx, hb, hwf, c0⟩ := HL.out.at_ hlt
      have HX := Lib.hid hx
      clear hx hb hwf
      rcases Bool.eq_false_or_eq_true (x == n) with h1 | h1
      · have HF : Hid (hasI l n = true) := Lib.hid (by
          unfold hasI
          have e : x = n := by simpa using h1
          subst e
          simpa using List.mem_of_getElem? HX.out)
        go_wp2
        go_ret
        exact ⟨by rw [HF.out]; rfl, rfl⟩
      · have HF : Hid (hasI (l.take (k + 1)) n = false) := Lib.hid (by
          have hj := HJ.out
          unfold hasI at hj ⊢
          rw [take_snocN HX.out]
          have e : x ≠ n := by simpa using h1
          simp at hj ⊢
          exact ⟨hj, fun e' => e e'.symm⟩)
        go_wp2
        exact ⟨⟨k + 1, by omega, by go_num, HF⟩, by simp [intOf]; omega⟩
    · obtain rfl : k = l.length := by omega
      rw [List.take_length] at HJ
      go_wp2
      go_ret
      exact ⟨by rw [HJ.out]; rfl, rfl⟩

/-- The indexes that some actors handled. -/
def sqN (ws : List Int) (h : List Nt) : List Int := (h.filter fun x => hasI ws x.who).map (·.seq)
/-- None came twice. -/
def ndB (ws : List Int) (h : List Nt) : Bool := decide (sqN ws h).Nodup
theorem sqN_snocT {ws : List Int} {h : List Nt} {x : Nt} (hw : hasI ws x.who = true) : sqN ws (h ++ [x]) = sqN ws h ++ [x.seq] := by unfold sqN; rw [filter_snocT (f := fun y : Nt => hasI ws y.who) hw, List.map_append]; rfl
theorem sqN_snocF {ws : List Int} {h : List Nt} {x : Nt} (hw : hasI ws x.who = false) : sqN ws (h ++ [x]) = sqN ws h := by unfold sqN; rw [filter_snocF (f := fun y : Nt => hasI ws y.who) hw]
theorem sqN_len (ws : List Int) (h : List Nt) : (sqN ws h).length ≤ h.length := by unfold sqN; rw [List.length_map]; exact List.length_filter_le _ _
theorem mem_sqN (ws : List Int) (h : List Nt) (s : Int) : s ∈ sqN ws h ↔ (h.any fun b => b.seq == s && hasI ws b.who) = true := by
  unfold sqN
  simp only [List.mem_map, List.mem_filter, List.any_eq_true, Bool.and_eq_true, beq_iff_eq]
  constructor
  · rintro ⟨x, ⟨hx, hw⟩, rfl⟩; exact ⟨x, hx, rfl, hw⟩
  · rintro ⟨x, hx, rfl, hw⟩; exact ⟨x, ⟨hx, hw⟩, rfl⟩
theorem ndB_snoc (ws : List Int) (h : List Nt) (a : Nt) : ndB ws (h ++ [a]) = (ndB ws h && !(hasI ws a.who && h.any fun b => b.seq == a.seq && hasI ws b.who)) := by
  unfold ndB
  cases hw : hasI ws a.who with
  | false => rw [sqN_snocF hw]; simp
  | true =>
    rw [sqN_snocT hw, Bool.eq_iff_iff]
    have hm := mem_sqN ws h a.seq
    simp only [List.nodup_append, decide_eq_true_eq, Bool.and_eq_true, Bool.not_eq_true', Bool.true_and]
    constructor
    · rintro ⟨h1, -, h2⟩
      refine ⟨h1, ?_⟩
      rw [← Bool.not_eq_true, ← hm]
      intro hmem
      exact h2 _ hmem _ (by simp) rfl
    · rintro ⟨h1, h2⟩
      refine ⟨h1, by simp, fun x hx y hy e => ?_⟩
      simp at hy; subst hy; subst e
      rw [← Bool.not_eq_true, ← hm] at h2
      exact h2 hx
theorem ndB_nil (ws : List Int) : ndB ws [] = true := by simp [ndB, sqN]
theorem ndB_cut {ws : List Int} {h : List Nt} {k : Nat} (hf : ndB ws (h.take k) = false) : ndB ws h = false := by
  unfold ndB at hf ⊢
  rw [decide_eq_false_iff_not] at hf ⊢
  intro hn
  refine hf (List.Nodup.sublist ?_ hn)
  unfold sqN
  exact ((List.take_sublist k h).filter _).map _

theorem NtsAt.grown {w w' : World} {v : Value} {l : List Nt} {g : Nat} (h : NtsAt w v l) (hg : w.grownBy w' (some g)) (hne : v.ownBlock ≠ some g) : NtsAt w' v l := by
  obtain ⟨p, c, rfl, h1, h2, hw, h3⟩ := h
  refine ⟨p, c, rfl, h1, h2, hw, ?_⟩
  rcases h3 with h3 | ⟨b, off, rfl, hlt, hc⟩
  · exact .inl h3
  · have hbg : b ≠ g := fun e => hne (by simp [Value.ownBlock, e])
    refine .inr ⟨b, off, rfl, Nat.lt_of_lt_of_le hlt hg.size, fun j x hj => ?_⟩
    have hcx := hc j x hj
    have k : ∀ o u, w.cell? ⟨b, o, none⟩ = some u → w'.cell? ⟨b, o, none⟩ = some u := fun o u hu => grown_cell hg hu hbg
    exact ⟨k _ _ hcx.c0, k _ _ hcx.c1, k _ _ hcx.c2, k _ _ hcx.c3, k _ _ hcx.c4, k _ _ hcx.c5, k _ _ hcx.c6, k _ _ hcx.c7⟩
theorem Cnt.look_put {K T : TypeId} {w : World} {b n : Nat} {f : Int → Int} {z : Bool} {a c : Int} (h : Cnt K w b n (fun y => if y = a then c else f y) z) (hK : Try.prog.underlying K = some (.int .i64)) (hT : Try.prog.underlying T = some (.map K 3)) (ha : i64Ok a) :
    (Instr.lookup T (.map (some b)) (.int .i64 a) false).run Try.prog w = .ok (.int .i64 c) w := by
  have := h.look hK hT ha
  simpa using this
theorem nt_cell4 {w w' : World} {g : Nat} {u0 u1 u2 u3 u4 u5 u6 u7 : Value} {t : TypeId} (hg : (w.alloc (.cells #[u0, u1, u2, u3, u4, u5, u6, u7] t)).grownBy w' (some g)) (hne : g < w.heap.size) : w'.cell? ⟨w.heap.size, 4, none⟩ = some u4 :=
  grown_cell hg (by rw [obj_cell (obj_new w _)]; rfl) (by omega)
theorem hasI_occ (l : List Int) (a : Int) : hasI l a = decide (0 < occ l a) := (occ_pos l a).symm

set_option maxRecDepth 100000 in
set_option maxHeartbeats 4000000 in
theorem tonce {W : World} {v vw : Value} {l : List Nt} {ring : Int} {ws : List Int} (hl : NtsAt W v l) (h120 : l.length ≤ 1000) (hd : IntsR W vw ws) (hdl : ws.length ≤ 1000) :
    Calls Try.prog 26 #[v, .int .i64 ring, vw] W fun e w' => e = .returned (.bool (ndB ws (l.filter (atB ring [2])))) ∧ Below W.heap.size W w' := by
  obtain ⟨p, c, rfl, hc, hm⟩ := hl.form
  obtain ⟨pd, cd, rfl, hcd, hmd⟩ := hd.form
  have HL := Lib.hid hl
  have HD := Lib.hid hd
  clear hl hd
  have hmm := @run_makeMap Try.prog
  go_enter Try.func26, Try.ntmps26
  go_wp2_with fail
  go_loopw [16] (fun iv wl => ∃ k : Nat, k ≤ ws.length ∧ iv = .int .i64 k ∧ Hid (Cnt 3 wl W.heap.size k (occ (ws.take k)) (ws.take k).isEmpty ∧ Below W.heap.size W wl)) (fun iv _ => ws.length - (intOf iv).toNat)
  case atStart => exact ⟨0, Nat.zero_le _, rfl, Lib.hid ⟨by rw [List.take_zero, occ_nil]; exact Cnt.made _ W, (Below.refl _ _).alloc (Nat.le_refl _) _⟩⟩
  case round =>
    obtain ⟨k, hk, rfl, HJ⟩ := hrel
    by_cases hlt : k < ws.length
    · obtain ⟨b, off, x, rfl, hx, hb, hwf, c0⟩ := (HD.out.keep HJ.out.2).at_ hlt
      have HW := Lib.hid hwf
      have hlook := HJ.out.1.look Try.underlying3 Try.underlying65 hwf
      have HT : Hid (ws.take (k + 1) = ws.take k ++ [x]) := Lib.hid (take_snocN hx)
      have hoc := occ_le (ws.take k) x
      have htl : (ws.take k).length ≤ 1000 := by rw [List.length_take]; omega
      have HO : Hid (occ (ws.take (k + 1)) = fun y => if y = x then occ (ws.take k) x + 1 else occ (ws.take k) y) := Lib.hid (by rw [HT.out, occ_snoc])
      have HZ : Hid ((ws.take (k + 1)).isEmpty = false) := Lib.hid (by rw [HT.out]; simp)
      obtain ⟨q, hq⟩ : ∃ q, occ (ws.take k) x = q := ⟨_, rfl⟩
      rw [hq] at hlook hoc HO
      clear hx hwf hb hq
      have hq0 : 0 ≤ q := hoc.1
      have hq1 : q ≤ 1000 := by have := hoc.2; omega
      clear hoc htl
      go_wp2_with (at_mapUpdate; refine wpList_cnt_put rfl _ _ _ rfl Try.underlying3 Try.underlying65 rfl HJ.out.1 (by unfold maxLen; omega) x (q + 1) rfl rfl HW.out ⟨by omega, by omega⟩ ?_; intro w1 hcn1 hg1; have HC1 := Lib.hid hcn1; have HG1 := Lib.hid hg1; clear hcn1 hg1)
      exact ⟨⟨k + 1, by omega, by go_num, Lib.hid ⟨by rw [HO.out, HZ.out]; exact HC1.out, grown_below HJ.out.2 HJ.out.2.size HG1.out (Nat.le_refl _)⟩⟩, by simp [intOf]; omega⟩
    · obtain rfl : k = ws.length := by omega
      rw [List.take_length] at HJ
      have hb1 : Below W.heap.size W ((wr.alloc (.map #[] 0)).alloc (.cells #[.int .i64 2] 27)) := (HJ.out.2.alloc HJ.out.2.size _).alloc (by have := HJ.out.2.size; simp; omega) _
      have hd1 : IntsR ((wr.alloc (.map #[] 0)).alloc (.cells #[.int .i64 2] 27)) (.slice (some ⟨wr.heap.size + 1, 0, none⟩) 1 1) [2] := by
        have := i64_box (wr.alloc (.map #[] 0)) 2 27
        rw [World.alloc_size] at this
        exact IntsR.one _ _ ⟨by decide, by decide⟩ this
      have hc1 : Cnt 3 ((wr.alloc (.map #[] 0)).alloc (.cells #[.int .i64 2] 27)) W.heap.size ws.length (occ ws) ws.isEmpty := HJ.out.1.keep (((Below.refl _ _).alloc (Nat.le_refl _) _).alloc (by simp) _) HJ.out.1.lt
      have hc2 : Cnt 2 ((wr.alloc (.map #[] 0)).alloc (.cells #[.int .i64 2] 27)) wr.heap.size 0 (fun _ => 0) true := (Cnt.made 2 wr).keep ((Below.refl _ _).alloc (Nat.le_refl _) _) (Cnt.made 2 wr).lt
      have HA := Lib.hid (tat (ring := ring) (HL.out.keep hb1) h120 hd1 (by decide))
      have HF1 : Hid (Below W.heap.size W ((wr.alloc (.map #[] 0)).alloc (.cells #[.int .i64 2] 27)) ∧ Cnt 3 ((wr.alloc (.map #[] 0)).alloc (.cells #[.int .i64 2] 27)) W.heap.size ws.length (occ ws) ws.isEmpty ∧ Cnt 2 ((wr.alloc (.map #[] 0)).alloc (.cells #[.int .i64 2] 27)) wr.heap.size 0 (fun _ => 0) true ∧ W.heap.size ≤ wr.heap.size ∧ wr.heap.size < ((wr.alloc (.map #[] 0)).alloc (.cells #[.int .i64 2] 27)).heap.size ∧ W.heap.size < wr.heap.size) :=
        Lib.hid ⟨hb1, hc1, hc2, HJ.out.2.size, by simp; omega, HJ.out.1.lt⟩
      clear hb1 hd1 hc1 hc2 HJ hlt
      go_wp2_with (go_at_call 14; refine HA.out.mono ?_; rintro e w2 ⟨v2, rfl, ho, hb⟩; have HO := Lib.hid ho; have HB := Lib.hid hb; obtain ⟨p1, cq, rfl, -⟩ := row_form ho.own; clear ho hb)
      have HLL : Hid ((l.filter (atB ring [2])).length ≤ 1000) := Lib.hid (Nat.le_trans (List.length_filter_le _ _) h120)
      obtain ⟨h, hh⟩ : ∃ h, l.filter (atB ring [2]) = h := ⟨_, rfl⟩
      have HH := Lib.hid hh
      rw [hh] at HO HLL
      rw [hh]
      clear HA hh
      have hhl := HLL.out
      have HNE : Hid ((Value.slice p1 h.length cq).ownBlock ≠ some wr.heap.size) := Lib.hid (fun e => by have := (HO.out.own.lt _ e).1; have := HF1.out.2.2.2.2.1; omega)
      have HS0 : Hid (Below W.heap.size W w2 ∧ Cnt 3 w2 W.heap.size ws.length (occ ws) ws.isEmpty ∧ Cnt 2 w2 wr.heap.size 0 (fun _ => 0) true ∧ NtsAt w2 (.slice p1 h.length cq) h) :=
        Lib.hid ⟨bthen HF1.out.1 HB.out, HF1.out.2.1.keep HB.out HF1.out.2.1.lt, HF1.out.2.2.1.keep HB.out HF1.out.2.2.1.lt, HO.out.read⟩
      have HSZ : Hid (W.heap.size < wr.heap.size) := Lib.hid HF1.out.2.2.2.2.2
      clear HF1 HB HO
      obtain ⟨cb, hcb⟩ : ∃ cb, cb = wr.heap.size := ⟨_, rfl⟩
      rw [← hcb] at HS0 HSZ HNE
      rw [← hcb]
      clear hcb
      go_loopw [31] (fun iv wl => ∃ k : Nat, k ≤ h.length ∧ iv = .int .i64 k ∧ Hid ((Below W.heap.size W wl ∧ Cnt 3 wl W.heap.size ws.length (occ ws) ws.isEmpty ∧ NtsAt wl (.slice p1 h.length cq) h) ∧ (∃ z, Cnt 2 wl cb k (occ (sqN ws (h.take k))) z) ∧ ndB ws (h.take k) = true)) (fun iv _ => h.length - (intOf iv).toNat)
      case atStart => exact ⟨0, Nat.zero_le _, rfl, Lib.hid ⟨⟨HS0.out.1, HS0.out.2.1, HS0.out.2.2.2⟩, ⟨true, by rw [List.take_zero]; show Cnt _ _ _ _ (occ []) _; rw [occ_nil]; exact HS0.out.2.2.1⟩, ndB_nil ws⟩⟩
      case round =>
        obtain ⟨k, hk, rfl, HJ⟩ := hrel
        by_cases hlt : k < h.length
        · obtain ⟨b, off, x, rfl, hx, hb, hwf, ⟨c0, c1, c2, c3, c4, c5, c6, c7⟩⟩ := HJ.out.1.2.2.at_ hlt
          have HT : Hid (h.take (k + 1) = h.take k ++ [x]) := Lib.hid (take_snocN hx)
          have HWF := Lib.hid hwf
          obtain ⟨z, hcz⟩ := HJ.out.2.1
          have HCZ := Lib.hid hcz
          have HAL : Hid (∀ cs : Array Value, (Below W.heap.size W (wr.alloc (.cells cs 33)) ∧ Cnt 3 (wr.alloc (.cells cs 33)) W.heap.size ws.length (occ ws) ws.isEmpty ∧ NtsAt (wr.alloc (.cells cs 33)) (.slice (some ⟨b, off, none⟩) h.length cq) h) ∧ Cnt 2 (wr.alloc (.cells cs 33)) cb k (occ (sqN ws (h.take k))) z) := Lib.hid fun cs => by
            have hb := (Below.refl wr.heap.size wr).alloc (Nat.le_refl _) (.cells cs 33)
            exact ⟨⟨HJ.out.1.1.trans (hb.mono HJ.out.1.1.size), HJ.out.1.2.1.keep hb HJ.out.1.2.1.lt, HJ.out.1.2.2.keep hb⟩, HCZ.out.keep hb HCZ.out.lt⟩
          have hlook1 : ∀ cs : Array Value, (Instr.lookup 65 (.map (some W.heap.size)) (.int .i64 x.who) false).run Try.prog (wr.alloc (.cells cs 33)) = .ok (.int .i64 (occ ws x.who)) (wr.alloc (.cells cs 33)) :=
            fun cs => (HAL.out cs).1.2.1.look Try.underlying3 Try.underlying65 hwf.who
          have hlook2 : ∀ cs : Array Value, (Instr.lookup 66 (.map (some cb)) (.int .i64 x.seq) false).run Try.prog (wr.alloc (.cells cs 33)) = .ok (.int .i64 (occ (sqN ws (h.take k)) x.seq)) (wr.alloc (.cells cs 33)) :=
            fun cs => (HAL.out cs).2.look Try.underlying2 Try.underlying66 hwf.seq
          have hol := occ_le ws x.who
          have hos := occ_le (sqN ws (h.take k)) x.seq
          have hsl : (sqN ws (h.take k)).length ≤ 1000 := Nat.le_trans (sqN_len _ _) (by rw [List.length_take]; omega)
          have HIN : Hid (hasI ws x.who = decide (0 < occ ws x.who)) := Lib.hid (hasI_occ _ _)
          have HMS : Hid ((x.seq ∈ sqN ws (h.take k)) ↔ 0 < occ (sqN ws (h.take k)) x.seq) := Lib.hid (by unfold occ; rw [show ((0 : Int) < ((List.count x.seq (sqN ws (h.take k)) : Nat) : Int)) ↔ 0 < List.count x.seq (sqN ws (h.take k)) by omega, List.count_pos_iff])
          have HOS : Hid (occ (sqN ws (h.take k) ++ [x.seq]) = fun y => if y = x.seq then occ (sqN ws (h.take k)) x.seq + 1 else occ (sqN ws (h.take k)) y) := Lib.hid (occ_snoc _ _)
          obtain ⟨ow, how⟩ : ∃ ow, occ ws x.who = ow := ⟨_, rfl⟩
          obtain ⟨os_, hos_⟩ : ∃ os_, occ (sqN ws (h.take k)) x.seq = os_ := ⟨_, rfl⟩
          rw [how] at hlook1 hol HIN
          rw [hos_] at hlook2 hos HMS HOS
          have a1 := hol.1
          have a2 := hos.1
          have a3 : os_ ≤ 1000 := by have := hos.2; omega
          have hkb : k < 1000 := by omega
          clear how hos_ hol hos hsl hcz hx hb hwf
          by_cases h1 : ow = 0
          · subst h1
            have HSQ : Hid (sqN ws (h.take (k + 1)) = sqN ws (h.take k)) := Lib.hid (by rw [HT.out]; exact sqN_snocF (by rw [HIN.out]; rfl))
            have HND : Hid (ndB ws (h.take (k + 1)) = true) := Lib.hid (by unfold ndB; rw [HSQ.out]; exact HJ.out.2.2)
            go_wp2
            exact ⟨⟨k + 1, by omega, by go_num, Lib.hid ⟨(HAL.out _).1, ⟨z, by rw [HSQ.out]; exact (HAL.out _).2.mono (by omega)⟩, HND.out⟩⟩, by simp [intOf]; omega⟩
          · have h1b : (ow == 0) = false := by simpa using h1
            have HINT : Hid (hasI ws x.who = true) := Lib.hid (by rw [HIN.out]; simp; omega)
            have HSQ : Hid (sqN ws (h.take (k + 1)) = sqN ws (h.take k) ++ [x.seq]) := Lib.hid (by rw [HT.out]; exact sqN_snocT HINT.out)
            clear h1
            by_cases h2 : os_ = 0
            · subst h2
              have HND : Hid (ndB ws (h.take (k + 1)) = true) := Lib.hid (by
                have hn := HJ.out.2.2
                unfold ndB at hn ⊢
                rw [HSQ.out]
                simp only [decide_eq_true_eq] at hn ⊢
                refine List.nodup_append.2 ⟨hn, by simp, fun a ha b hb e => ?_⟩
                simp at hb; subst hb; subst e
                exact absurd (HMS.out.1 ha) (by omega))
              go_wp2_with (at_mapUpdate; refine wpList_cnt_put rfl _ _ _ rfl Try.underlying2 Try.underlying66 rfl (HAL.out _).2 (by unfold maxLen; omega) x.seq 1 rfl rfl HWF.out.seq ⟨by omega, by omega⟩ ?_; intro w3 hcn1 hg1; have hl3 := hcn1.look_put Try.underlying2 Try.underlying66 HWF.out.seq; have d4 := nt_cell4 hg1 HCZ.out.lt; have HC3 := Lib.hid hcn1; have HG3 := Lib.hid hg1; clear hcn1 hg1)
              have HK3 : Hid ((Below W.heap.size W w3 ∧ Cnt 3 w3 W.heap.size ws.length (occ ws) ws.isEmpty ∧ NtsAt w3 (.slice (some ⟨b, off, none⟩) h.length cq) h)) := Lib.hid ⟨grown_below (HAL.out _).1.1 (HAL.out _).1.1.size HG3.out (Nat.le_of_lt HSZ.out), (HAL.out _).1.2.1.grown HG3.out (by have := HSZ.out; simp; omega), (HAL.out _).1.2.2.grown HG3.out HNE.out⟩
              go_wp2
              exact ⟨⟨k + 1, by omega, by go_num, Lib.hid ⟨HK3.out, ⟨false, by rw [HSQ.out, HOS.out]; exact HC3.out⟩, HND.out⟩⟩, by simp [intOf]; omega⟩
            · have h2b : 1 ≤ os_ := by omega
              have HND : Hid (ndB ws h = false) := Lib.hid (ndB_cut (k := k + 1) (by
                unfold ndB
                rw [HSQ.out]
                simp only [decide_eq_false_iff_not]
                intro hn
                exact (List.nodup_append.1 hn).2.2 x.seq (HMS.out.2 (by omega)) x.seq (by simp) rfl))
              clear h2
              go_wp2_with (at_mapUpdate; refine wpList_cnt_put rfl _ _ _ rfl Try.underlying2 Try.underlying66 rfl (HAL.out _).2 (by unfold maxLen; omega) x.seq (os_ + 1) rfl rfl HWF.out.seq ⟨by omega, by omega⟩ ?_; intro w3 hcn1 hg1; have hl3 := hcn1.look_put Try.underlying2 Try.underlying66 HWF.out.seq; have d4 := nt_cell4 hg1 HCZ.out.lt; have HG3 := Lib.hid hg1; clear hcn1 hg1)
              go_ret
              exact ⟨by rw [HH.out, HND.out]; rfl, grown_below (HAL.out _).1.1 (HAL.out _).1.1.size HG3.out (Nat.le_of_lt HSZ.out)⟩
        · obtain rfl : k = h.length := by omega
          rw [List.take_length] at HJ
          go_wp2
          go_ret
          exact ⟨by rw [HH.out, HJ.out.2.2]; rfl, HJ.out.1.1⟩
end Go.Proofs.Ytnblkkmandlllaa
