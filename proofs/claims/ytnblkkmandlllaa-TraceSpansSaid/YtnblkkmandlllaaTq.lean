/-
  right, published, Shown, Length of package trace, and the document's Right, by contract. Condition: at most 1000 notes.
-/
import Derived.Test.YtnblkkmandlllaaTm
namespace Go.Proofs.Ytnblkkmandlllaa
open Go.RowKit Go.Shelf
set_option linter.unusedVariables false
set_option linter.unusedSimpArgs false

theorem tright (W : World) (x : Nt) : Calls Try.prog 36 #[.agg x.cs.toArray] W fun e w' => e = .returned (.bool (rightB x)) ∧ Below W.heap.size W w' := by
  have hB : Hid (rightB x = (decide (0 ≤ x.lo) && decide (x.lo ≤ x.seq) && decide (x.seq ≤ 4611686018427387904))) := Lib.hid rfl
  rw [hB.out]
  unfold Nt.cs
  go_enter Try.func36, Try.ntmps36
  go_wp2
  all_goals go_ret
  all_goals exact ⟨by (first | (simp_all; done) | (simp_all; omega)), (Below.refl _ _).alloc (Nat.le_refl _) _⟩
theorem rright (W : World) (x : Nt) : Calls Try.prog 34 #[.agg x.cs.toArray] W fun e w' => e = .returned (.bool (rightB x)) ∧ Below W.heap.size W w' := by
  have hB : Hid (rightB x = (decide (0 ≤ x.lo) && decide (x.lo ≤ x.seq) && decide (x.seq ≤ 4611686018427387904))) := Lib.hid rfl
  rw [hB.out]
  unfold Nt.cs
  go_enter Try.func34, Try.ntmps34
  go_wp2
  all_goals go_ret
  all_goals exact ⟨by (first | (simp_all; done) | (simp_all; omega)), (Below.refl _ _).alloc (Nat.le_refl _) _⟩

theorem new_block (w : World) (o : Obj) : (w.alloc o).heap[w.heap.size]? = some o := heap_alloc_new w o

set_option maxRecDepth 100000 in
set_option maxHeartbeats 2000000 in
theorem tpublished {W : World} {v : Value} {l : List Nt} {ring : Int} (hl : NtsAt W v l) (h120 : l.length ≤ 1000) :
    Calls Try.prog 33 #[v, .int .i64 ring] W fun e w' => ∃ v' ps, e = .returned v' ∧ SpsAt w' v' ps ∧ ps.Perm (pubN l ring) ∧ ps.Pairwise (fun x y => x.1 ≤ y.1) ∧ Below W.heap.size W w' := by
  obtain ⟨i0, hi, hz0, hz1, hz2⟩ := info_parts infoSp
  have h1 : Below W.heap.size W (W.alloc (.cells #[.int .i64 1] 27)) := (Below.refl _ _).alloc (Nat.le_refl _) _
  have hd : IntsR (W.alloc (.cells #[.int .i64 1] 27)) (.slice (some ⟨W.heap.size, 0, none⟩) 1 1) [1] := IntsR.one _ _ ⟨by decide, by decide⟩ (i64_box W 1 _)
  have HC := Lib.hid (tat (ring := ring) (hl.keep h1) h120 hd (by decide))
  have H1 := Lib.hid h1
  obtain ⟨p, c, rfl, hc, hm⟩ := hl.form
  clear hl h1 hd
  go_enter Try.func33, Try.ntmps33
  go_wp2_with (go_at_call 14; refine HC.out.mono ?_; rintro e w1 ⟨v1, rfl, ho, hb⟩; have HO := Lib.hid ho; have HB : Hid (Below W.heap.size W w1) := Lib.hid (H1.out.trans (hb.mono H1.out.size)); obtain ⟨p1, c1, rfl, -⟩ := row_form ho.own; clear ho hb)
  have HLL : Hid ((l.filter (atB ring [1])).length ≤ 1000) := Lib.hid (Nat.le_trans (List.length_filter_le _ _) h120)
  have HPN : Hid (pubN l ring = ((l.filter (atB ring [1])).filter rightB).map spN) := Lib.hid rfl
  clear HC
  generalize l.filter (atB ring [1]) = q at *
  have hq := HLL.out
  obtain ⟨cq, hcq⟩ : ∃ cq, cq = c1 := ⟨_, rfl⟩
  rw [← hcq] at HO ⊢
  clear hcq
  go_loopw [5, 13] (fun ov iv wl => ∃ k : Nat, k ≤ q.length ∧ iv = .int .i64 k ∧ Hid (wl.ownsRow w1.heap.size 43 2 ov (((q.take k).filter rightB).map spN).length (flatS (((q.take k).filter rightB).map spN)) ∧ Below w1.heap.size w1 wl)) (fun _ iv _ => q.length - (intOf iv).toNat)
  case atStart => exact ⟨0, Nat.zero_le _, rfl, Lib.hid ⟨World.ownsRow_nil _ _ _ _, Below.refl _ _⟩⟩
  case round =>
    obtain ⟨k, hk, rfl, HJ⟩ := hrel
    have HLK : Hid ((((q.take k).filter rightB).map spN).length ≤ k) := Lib.hid (by rw [List.length_map]; exact Nat.le_trans (List.length_filter_le _ _) (by rw [List.length_take]; omega))
    by_cases hlt : k < q.length
    · obtain ⟨b, off, x, rfl, hx, hb, hwf, ⟨c0, c1, c2, c3, c4, c5, c6, c7⟩⟩ := (HO.out.read.keep HJ.out.2).at_ hlt
      have HT : Hid (q.take (k + 1) = q.take k ++ [x]) := Lib.hid (take_snocN hx)
      have HA1 : Hid (Below wr.heap.size wr (wr.alloc (.cells #[.int .i64 x.who, .int .i64 x.ring, .int .i64 x.deed, .int .i64 x.lo, .int .i64 x.seq, .int .i64 x.key, .int .i64 x.val, .int .i64 x.code] 33))) := Lib.hid ((Below.refl _ _).alloc (Nat.le_refl _) _)
      clear hx hb hwf
      go_wp2_with fail
      refine (tright _ x).mono ?_
      rintro e w2 ⟨rfl, hb2⟩
      have d3 : w2.cell? ⟨wr.heap.size, 3, none⟩ = some (.int .i64 x.lo) := keepc hb2 (by simp)
      have d4 : w2.cell? ⟨wr.heap.size, 4, none⟩ = some (.int .i64 x.seq) := keepc hb2 (by simp)
      have HB2 : Hid (Below wr.heap.size wr w2) := Lib.hid (HA1.out.trans (hb2.mono (by simp)))
      have HN : Hid (w2.ownsRow w1.heap.size 43 2 u5 (((q.take k).filter rightB).map spN).length (flatS (((q.take k).filter rightB).map spN)) ∧ Below w1.heap.size w1 w2) :=
        Lib.hid ⟨Frm.row (Frm.of_below HB2.out fun _ => False) HJ.out.1 fun _ _ => id, HJ.out.2.trans (HB2.out.mono HJ.out.2.size)⟩
      clear hb2 c0 c1 c2 c3 c4 c5 c6 c7
      cases hf : rightB x with
      | true =>
        have HS : Hid (((q.take (k + 1)).filter rightB).map spN = ((q.take k).filter rightB).map spN ++ [spN x]) := Lib.hid (by rw [HT.out, filter_snocT hf, List.map_append]; rfl)
        clear hf
        obtain ⟨ss, hss⟩ : ∃ ss, ((q.take k).filter rightB).map spN = ss := ⟨_, rfl⟩
        rw [hss] at HN HLK HS HJ
        clear hss
        have hlk := HLK.out
        go_wp2_with (at_builtin; refine wpList_append_own _ rfl _ _ 40 rfl w1.heap.size 43 i0 _ 2 16 Try.underlying40 hi hz0 hz1 hz2 rfl (by decide) u5 ss.length _ rfl (HN.out.1.alloc _) ⟨w2.heap.size, 0, none⟩ 1 1 (encS (spN x)) rfl rfl (sp_cell _ (spN x) _) (encS_one _) (by unfold maxLen; omega) (by omega) (by have := HN.out.2.size; simp; omega) ?_; intro v' w3 hown hg hnil; have HO3 := Lib.hid hown; have HG := Lib.hid hg; clear hown hg hnil)
        have HB3 : Hid (Below w1.heap.size w1 w3) := Lib.hid (Below.app HN.out.2 HN.out.2.size HN.out.1 HG.out)
        exact ⟨⟨k + 1, by omega, by go_num, Lib.hid ⟨by rw [HS.out, flatS_append, flatS_one, List.length_append]; exact HO3.out, HB3.out⟩⟩, by simp [intOf]; omega⟩
      | false =>
        have HS : Hid (((q.take (k + 1)).filter rightB).map spN = ((q.take k).filter rightB).map spN) := Lib.hid (by rw [HT.out, filter_snocF hf])
        clear hf
        go_wp2
        exact ⟨⟨k + 1, by omega, by go_num, Lib.hid ⟨by rw [HS.out]; exact HN.out.1, HN.out.2⟩⟩, by simp [intOf]; omega⟩
    · obtain rfl : k = q.length := by omega
      rw [List.take_length] at HJ HLK
      rw [← HPN.out] at HJ HLK
      have HBW : Hid (Below W.heap.size W wr) := Lib.hid (bthen HB.out HJ.out.2)
      have HSZ : Hid (W.heap.size ≤ w1.heap.size) := Lib.hid HB.out.size
      have HLK2 : Hid ((pubN l ring).length ≤ 1000) := Lib.hid (by have := HLK.out; have := HLL.out; omega)
      clear HO HB HLK
      rcases HJ.out.1.2 with ⟨rfl, h0⟩ | ⟨g, cap, cur, rfl, hgb, -, -, hcm, -⟩
      · have HE : Hid (pubN l ring = []) := Lib.hid (List.eq_nil_of_length_eq_zero h0)
        have hs := fun w => AnyF.slices_SortFunc_none Try.laysSort none 0 (.func (.func 38) #[] #[]) w
        change ∀ w, Calls Try.prog 37 _ w _ at hs
        have HS := Lib.hid hs
        clear hs h0
        go_wp2_with (go_at_call 37; refine (HS.out _).mono ?_; rintro e w2 ⟨rfl, rfl⟩)
        go_ret
        exact ⟨_, [], rfl, ⟨none, 0, rfl, Nat.zero_le _, .inl rfl⟩, by rw [HE.out], List.Pairwise.nil, HBW.out⟩
      · have HG : Hid (w1.heap.size ≤ g) := Lib.hid hgb
        have HS := Lib.hid (tsort HJ.out.1 HLK2.out hcm)
        clear hgb hcm
        go_wp2_with (go_at_call 37; refine HS.out.mono ?_; rintro e w2 ⟨rfl, l', hp, hpw, hat, hgr⟩; have HR : Hid (l'.Perm (pubN l ring) ∧ l'.Pairwise (fun x y => x.1 ≤ y.1) ∧ SpsAt w2 (.slice (some ⟨g, 0, none⟩) (pubN l ring).length cap) l' ∧ wr.grownBy w2 (some g)) := Lib.hid ⟨hp, hpw, hat, hgr⟩; clear hp hpw hat hgr)
        go_ret
        exact ⟨_, l', rfl, HR.out.2.2.1, HR.out.1, HR.out.2.1, grown_below HBW.out HBW.out.size HR.out.2.2.2 (by have := HG.out; have := HSZ.out; omega)⟩
end Go.Proofs.Ytnblkkmandlllaa
