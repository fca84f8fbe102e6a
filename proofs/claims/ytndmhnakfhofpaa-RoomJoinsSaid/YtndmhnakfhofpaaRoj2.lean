/-
  RoomJoins: the walk. Conditions: at most 80 rows, of at most 20 numbers.
-/
import Derived.Test.YtndmhnakfhofpaaRoj1
namespace Go.Proofs.Ytndmhnakfhofpaa
open Go.RowKit
set_option linter.unusedVariables false

/-- Where the loop of those who join stands. -/
def RjI (RA : Rest) (W : World) (a t : Nat) (z : Nat → Value × Nat × (Nat → Int)) (k : Nat) (av : Value) (wl : World) : Prop :=
  ∃ tv, Mv ((RA.row W.heap.size 2 1 av (allF z k).length ((allF z k).map (Value.int .i64))).tbl W.heap.size t tv (List.replicate (min k 64) (0, false, 0))) W wl a (allF z k) 0

theorem joins_start {W w : World} {r a c t : Nat} (h : RmNew W w r a c t) (z : Nat → Value × Nat × (Nat → Int)) : RjI (R0.box W.heap.size r #[.pointer (some ⟨a, 0, none⟩), .pointer (some ⟨c, 0, none⟩), .pointer (some ⟨t, 0, none⟩), .slice none 0 0] 182) W a t z 0 (.slice none 0 0) w := by
  have h1 := h.mv
  obtain ⟨⟨⟨i1, i2, i3, i4⟩, i5, i6, i7⟩, i8, i9, i10⟩ := h1.inv
  refine ⟨.slice none 0 0, h1.less (fun g hg => ?_) ⟨⟨⟨trivial, i8, fun e => e.elim, i10⟩, World.ownsRow_nil _ _ _ _, fun k _ e => by simp [Value.ownBlock] at e⟩, ⟨i5, World.ownsRow_nil _ _ _ _⟩, ⟨i7, fun g hg => by simp [Value.ownBlock] at hg⟩, fun k hk e => ?_⟩⟩
  · rcases hg with ((hg | rfl) | hg) | (rfl | hg)
    · exact hg.elim
    · exact .inr rfl
    · simp [Value.ownBlock] at hg
    · exact .inl (.inr rfl)
    · simp [Value.ownBlock] at hg
  · rcases e with rfl | e
    · rcases hk with (hk | rfl) | hk
      · exact hk.elim
      · exact i9 (.inr rfl)
      · simp [Value.ownBlock] at hk
    · simp [Value.ownBlock] at e

set_option maxHeartbeats 8000000 in
set_option maxRecDepth 100000 in
theorem joins_walk (W : World) (n cap : Nat) (p : Option Addr) (z : Nat → Value × Nat × (Nat → Int)) (hn : n ≤ 80)
    (hc : n = 0 ∨ ∃ b off, p = some ⟨b, off, none⟩ ∧ ∀ j, j < n → W.cell? ⟨b, off + j, none⟩ = some (z j).1 ∧ LongsAt W (z j).1 (z j).2.1 (z j).2.2) :
    Calls Try.prog 4 #[.slice p n cap] W fun e w' => e = .returned (.bool true) ∧ Below W.heap.size W w' := by
  obtain ⟨i0, hi0, hz0, hz1, hz2⟩ := info_parts infoI64
  have HC := Lib.hid hc
  clear hc
  go_enter Try.func4, Try.ntmps4
  go_wp2_with fail
  go_loopw [23] (fun i wl => ∃ k : Nat, k ≤ n ∧ i = .int .i64 k ∧ W = wl ∧ Hid (∀ j, j < k → (z j).2.1 ≤ 20)) (fun i _ => n - (intOf i).toNat)
  case atStart => exact ⟨0, Nat.zero_le _, rfl, rfl, Lib.hid fun j hj => absurd hj (by omega)⟩
  case round =>
    obtain ⟨k, hk, rfl, rfl, HL⟩ := hrel
    by_cases hlt : k < n
    · obtain ⟨bb, off, rfl, hcell⟩ := HC.out.resolve_left (by omega)
      obtain ⟨q0, pv, cv, hV, hmx, _⟩ := hcell k hlt
      rw [hV] at q0
      have HN : Hid ((z k).2.1 ≤ 20 → ∀ j, j < k + 1 → (z j).2.1 ≤ 20) := Lib.hid fun h j hj => by
        by_cases e : j = k
        · subst e; exact h
        · exact HL.out j (by omega)
      clear hcell hV
      generalize (z k).2.1 = m at *
      have hm9 : m ≤ 9223372036854775807 := by unfold maxLen at hmx; omega
      clear hmx
      by_cases h20 : m ≤ 20
      · have HN2 := Lib.hid (HN.out h20)
        go_wp2_with fail
        exact ⟨⟨k + 1, by omega, by go_num, trivial, HN2⟩, by simp [intOf]; omega⟩
      · go_wp2_with (go_at_call 15; refine (awake14 _).mono ?_; rintro e w3 ⟨rfl, hb3⟩)
        go_ret
        exact ⟨rfl, hb3⟩
    · obtain rfl : n = k := by omega
      clear hlt
      go_wp2_with fail
      refine (rnew _).mono ?_
      rintro e w1 ⟨r, a, c, t, rfl, hnw⟩
      obtain ⟨RA, hR⟩ : ∃ RA, RA = (R0.box W.heap.size r #[.pointer (some ⟨a, 0, none⟩), .pointer (some ⟨c, 0, none⟩), .pointer (some ⟨t, 0, none⟩), .slice none 0 0] 182) := ⟨_, rfl⟩
      have hr : ∀ w, RA.inv w → RmC w r a c t := fun w hi => by subst hR; exact RmC.of hi.2.1
      have H1 : Hid (RjI RA W a t z 0 (.slice none 0 0) w1) := Lib.hid (by subst hR; exact joins_start hnw z)
      have HAC : Hid (∀ w, RA.inv w → Calls Try.prog 17 #[.pointer (some ⟨r, 0, none⟩)] w fun e w' => e = .returned (.pointer (some ⟨t, 0, none⟩)) ∧ w = w') := Lib.hid fun w hi => ractors (hr w hi)
      have HAR : Hid (∀ w, RA.inv w → Calls Try.prog 28 #[.pointer (some ⟨r, 0, none⟩)] w fun e w' => e = .returned (.pointer (some ⟨a, 0, none⟩)) ∧ w = w') := Lib.hid fun w hi => rarena 0 (hr w hi)
      have HR := Lib.hid hr
      clear hnw hr hR
      go_wp2_with fail
      go_loopw [6, 35] (fun av iv wl => ∃ k : Nat, k ≤ n ∧ iv = .int .i64 k ∧ Hid (RjI RA W a t z k av wl)) (fun _ i _ => n - (intOf i).toNat)
      case atStart => exact ⟨0, Nat.zero_le _, rfl, H1⟩
      case round =>
        obtain ⟨k, hk, rfl, HK⟩ := hrel
        obtain ⟨tv, hmv⟩ := HK.out
        obtain ⟨pa, ca, rfl, _⟩ := row_form hmv.inv.1.2.1
        have HM := Lib.hid hmv
        have hfew := allF_few (z := z) (k := k) fun j hj => HL.out j (by omega)
        clear HK hmv H1
        by_cases hlt : k < n
        · obtain ⟨bb, off, rfl, hcell⟩ := HC.out.resolve_left (by omega)
          obtain ⟨q0', hlg⟩ := hcell k hlt
          have hm20 := HL.out k hlt
          obtain ⟨pv, cv, hV, hmx, hvc⟩ := id hlg
          rw [hV] at q0' hlg
          have q0 := keepc HM.out.below q0'
          by_cases h64 : k < 64
          · have hac : (List.replicate (min k 64) ((0 : Int), false, (0 : Int))).length = k := by rw [List.length_replicate]; omega
            have hjn := rjoin_ok (R := RA.row W.heap.size 2 1 (.slice pa (allF z k).length ca) (allF z k).length ((allF z k).map (Value.int .i64))) (fun w hi => HR.out w hi.1) HM.out (by rw [hac]; omega) hlg hm20 (by omega)
            have HJ : Hid (Calls Try.prog 26 #[.pointer (some ⟨r, 0, none⟩), .slice pv (z k).2.1 cv] wr fun e w' => ∃ p cap tv', e = .returned (.tuple #[.int .i64 k, .slice p (z k).2.1 cap, .nilIface]) ∧ Mv (((RA.tbl W.heap.size t tv' (List.replicate (k + 1) (0, false, 0))).row W.heap.size 3 1 (.slice p (z k).2.1 cap) (z k).2.1 ((idsF (allF z k).length (z k).2.1).map (Value.int .i64))).row W.heap.size 2 1 (.slice pa (allF z k).length ca) (allF z k).length ((allF z k).map (Value.int .i64))) W w' a (allF z k ++ valF (z k).2.2 (z k).2.1) 0) := Lib.hid (hjn.mono fun e w' ⟨p, cap, tv', he, hh⟩ => by
              rw [hac] at he
              rw [show List.replicate (min k 64) ((0 : Int), false, (0 : Int)) ++ [(0, false, 0)] = List.replicate (k + 1) (0, false, 0) by rw [show min k 64 = k by omega, List.replicate_succ']] at hh
              exact ⟨p, cap, tv', he, hh.joined⟩)
            have HF := Lib.hid (allF_yes (z := z) h64)
            clear hjn hac hcell q0' hlg
            generalize allF z k = A at *
            generalize (z k).2.2 = zk at *
            generalize (z k).2.1 = m at *
            have d64 : decide ((64 : Int) ≤ (k : Int)) = false := decide_eq_false (by omega)
            have e64 : decide (64 ≤ k) = false := decide_eq_false (by omega)
            go_wp2_with (first
              | (go_at_call 26; refine HJ.out.mono ?_; rintro e w4 ⟨pi, ci, tv4, rfl, hh⟩; have H4 := Lib.hid hh; clear hh)
              | (go_at_call 17; refine (HAC.out _ H4.out.inv.1.1.1).mono ?_; rintro e y ⟨rfl, rfl⟩)
              | (go_at_call 24; refine (tstate_in _ t tv4 _ k (0, false, 0) H4.out.inv.1.1.2.1 (by simp)).mono ?_; rintro e w5 ⟨rfl, hb⟩; have H5 := Lib.hid (H4.out.keep hb); clear hb))
            have HVC := Lib.hid hvc
            clear hvc HJ d64 e64 q0 H4 HAR
            go_loopw [6, 98] (fun av iv wl => ∃ j : Nat, j ≤ m ∧ iv = .int .i64 j ∧ Hid (Mv (((RA.tbl W.heap.size t tv4 (List.replicate (k + 1) (0, false, 0))).row W.heap.size 3 1 (.slice pi m ci) m ((idsF A.length m).map (Value.int .i64))).row W.heap.size 2 1 av (A.length + j) ((A ++ valF zk j).map (Value.int .i64))) W wl a (A ++ valF zk m) 0)) (fun _ i _ => m - (intOf i).toNat)
            case atStart => exact ⟨0, Nat.zero_le _, rfl, by rw [show A ++ valF zk 0 = A by simp [valF]]; exact H5⟩
            case round =>
              obtain ⟨j, hj, rfl, HJJ⟩ := hrel
              obtain ⟨pb, cb, rfl, _⟩ := row_form HJJ.out.rowIs
              clear H5 HM
              by_cases hjl : j < m
              · obtain ⟨gi, ci2, hsl, _⟩ := row_some HJJ.out.inv.1.2.1 (by omega)
                obtain rfl : pi = some ⟨gi, 0, none⟩ := by simp at hsl; exact hsl.1
                obtain ⟨b3, o3, rfl, hcc⟩ := HVC.out.resolve_left (by omega)
                have q1 := keepc HJJ.out.below (hcc j hjl).1
                have ki : wr.cell? ⟨gi, j, none⟩ = some (.int .i64 ((A.length + j : Nat) : Int)) := by
                  rw [HJJ.out.inv.1.2.1.cellAt j (by omega)]
                  simp [idsF, hjl]
                have HNX : Hid (∀ (w4 : World) (v' : Value), w4.ownsRow 0 2 1 v' (A.length + j + 1) ((A ++ valF zk j).map (Value.int .i64) ++ [.int .i64 (zk j)]) → Frm (fun q => (Value.slice pb (A.length + j) cb).ownBlock = some q) (wr.alloc (.cells #[.int .i64 (zk j)] 2)) w4 → (v'.ownBlock = (Value.slice pb (A.length + j) cb).ownBlock ∨ ∀ g, v'.ownBlock = some g → (wr.alloc (.cells #[.int .i64 (zk j)] 2)).heap.size ≤ g) → Mv (((RA.tbl W.heap.size t tv4 (List.replicate (k + 1) (0, false, 0))).row W.heap.size 3 1 (.slice (some ⟨gi, 0, none⟩) m ci) m ((idsF A.length m).map (Value.int .i64))).row W.heap.size 2 1 v' (A.length + (j + 1)) ((A ++ valF zk (j + 1)).map (Value.int .i64))) W w4 a (A ++ valF zk m) 0) := Lib.hid fun w4 v' ho hf hv' => by
                  have := (HJJ.out.keep (balloc (Below.refl _ _) (.cells #[.int .i64 (zk j)] 2))).app ho hf hv'
                  rw [show (A ++ valF zk j).map (Value.int .i64) ++ [.int .i64 (zk j)] = (A ++ valF zk (j + 1)).map (Value.int .i64) by rw [valF_succ]; simp] at this
                  exact this
                have hqb : A.length + j ≤ 4000 := by omega
                clear hsl hcc
                generalize A.length + j = q at *
                generalize zk j = y at *
                go_wp2_with (at_builtin; refine wpList_append_row rfl _ _ 46 rfl 2 i0 (.int .i64 0) 1 8 Try.underlying46 hi0 hz0 hz1 hz2 rfl (by decide) (.slice pb q cb) q _ rfl ((row_base HJJ.out.rowIs (Nat.zero_le _)).alloc _) ⟨wr.heap.size, 0, none⟩ 1 1 [.int .i64 y] rfl rfl (one_cell _ _ _) (fun x hx => by simp at hx; subst hx; rfl) (by unfold maxLen; omega) (by omega) ?_; intro v' w4 hown4 hf4 hv4; have H6 := Lib.hid (HNX.out _ _ hown4 hf4 hv4); clear hown4 hf4 hv4)
                exact ⟨⟨j + 1, by omega, by go_num, H6⟩, by simp [intOf]; omega⟩
              · obtain rfl : m = j := by omega
                have HNXT : Hid (RjI RA W a t z (k + 1) (.slice pb (A.length + m) cb) wr) := Lib.hid (by
                  unfold RjI
                  rw [HF.out, show min (k + 1) 64 = k + 1 by omega, List.length_append, valF_len]
                  exact ⟨tv4, HJJ.out.parted⟩)
                go_wp2_with fail
                exact ⟨⟨k + 1, by omega, by go_num, HNXT⟩, by simp [intOf]; omega⟩
          · have hac : (List.replicate (min k 64) ((0 : Int), false, (0 : Int))).length = 64 := by rw [List.length_replicate]; omega
            have HJ := Lib.hid (rjoin_full (R := RA.row W.heap.size 2 1 (.slice pa (allF z k).length ca) (allF z k).length ((allF z k).map (Value.int .i64))) (p := pv) (m := (z k).2.1) (cap := cv) (fun w hi => HR.out w hi.1) HM.out (by rw [hac]; omega) hm20 (by omega))
            have HLEN : Hid (∀ w, Mv ((RA.row W.heap.size 2 1 (.slice pa (allF z k).length ca) (allF z k).length ((allF z k).map (Value.int .i64))).tbl W.heap.size t tv (List.replicate (min k 64) (0, false, 0))) W w a (allF z k) 0 → Calls Try.prog 30 #[.pointer (some ⟨t, 0, none⟩)] w fun e w' => e = .returned (.int .i64 64) ∧ w = w') := Lib.hid fun w h => by
              have := tlen w t tv _ h.tbIs
              rw [hac] at this
              exact this
            have HNX : Hid (∀ w, Mv ((RA.row W.heap.size 2 1 (.slice pa (allF z k).length ca) (allF z k).length ((allF z k).map (Value.int .i64))).tbl W.heap.size t tv (List.replicate (min k 64) (0, false, 0))) W w a (allF z k) 0 → RjI RA W a t z (k + 1) (.slice pa (allF z k).length ca) w) := Lib.hid fun w h => by
              unfold RjI
              rw [allF_no h64, show min (k + 1) 64 = min k 64 by omega]
              exact ⟨tv, h⟩
            clear hac hcell q0' hlg
            generalize allF z k = A at *
            generalize (z k).2.1 = m at *
            have d64 : decide ((64 : Int) ≤ (k : Int)) = true := decide_eq_true (by omega)
            have e64 : decide (64 ≤ k) = true := decide_eq_true (by omega)
            go_wp2_with (first
              | (go_at_call 26; refine HJ.out.mono ?_; rintro e w4 ⟨qe, rfl, hch, hb⟩; have H4 := Lib.hid (HM.out.keep hb); have HCH := Lib.hid hch; clear hch hb)
              | (go_at_call 27; refine (isN_chain 8 _ 2 8 HCH.out (by decide)).mono ?_; rintro e y ⟨rfl, rfl⟩)
              | (go_at_call 28; refine (HAR.out _ H4.out.inv.1.1).mono ?_; rintro e y ⟨rfl, rfl⟩)
              | (go_at_call 29; refine (len_mv H4.out).mono ?_; rintro e y ⟨rfl, rfl⟩)
              | (go_at_call 17; refine (HAC.out _ H4.out.inv.1.1).mono ?_; rintro e y ⟨rfl, rfl⟩)
              | (go_at_call 30; refine (HLEN.out _ H4.out).mono ?_; rintro e y ⟨rfl, rfl⟩))
            exact ⟨⟨k + 1, by omega, by go_num, Lib.hid (HNX.out _ H4.out)⟩, by simp [intOf]; omega⟩
        · obtain rfl : n = k := by omega
          clear hlt
          have HTL : Hid (∀ w st, Mv ((RA.row W.heap.size 2 1 (.slice pa (allF z n).length ca) (allF z n).length ((allF z n).map (Value.int .i64))).tbl W.heap.size t tv (List.replicate (min n 64) (0, false, 0))) W w a (allF z n) st → Calls Try.prog 30 #[.pointer (some ⟨t, 0, none⟩)] w fun e w' => e = .returned (.int .i64 (min n 64 : Nat)) ∧ w = w') := Lib.hid fun w st h => by
            have := tlen w t tv _ h.tbIs
            rw [List.length_replicate] at this
            exact this
          have hmn : min (n : Int) 64 = ((min n 64 : Nat) : Int) := by omega
          generalize List.replicate (min n 64) ((0 : Int), false, (0 : Int)) = acts at *
          generalize min n 64 = N at *
          generalize allF z n = A at *
          go_wp2_with fail
          go_loopw [119] (fun iv wl => ∃ j : Nat, j ≤ A.length ∧ iv = .int .i64 j ∧ Hid (Mv ((RA.row W.heap.size 2 1 (.slice pa A.length ca) A.length (A.map (Value.int .i64))).tbl W.heap.size t tv acts) W wl a A j)) (fun i _ => A.length - (intOf i).toNat)
          case atStart => exact ⟨0, Nat.zero_le _, rfl, HM⟩
          case round =>
            obtain ⟨j, hj, rfl, HJJ⟩ := hrel
            clear HM
            by_cases hjl : j < A.length
            · obtain ⟨ga, ca2, hsl, _⟩ := row_some HJJ.out.inv.1.2.1 (by omega)
              obtain rfl : pa = some ⟨ga, 0, none⟩ := by simp at hsl; exact hsl.1
              have ka : wr.cell? ⟨ga, j, none⟩ = some (.int .i64 (A.getD j 0)) := by
                rw [HJJ.out.inv.1.2.1.cellAt j (by omega)]
                simp [List.getD, hjl]
              have HLD := Lib.hid (load_mv HJJ.out j (A.getD j 0) (by simp [List.getD, hjl]) (by omega) (by omega))
              have HJ1 : Hid (∀ w, Mv ((RA.row W.heap.size 2 1 (.slice (some ⟨ga, 0, none⟩) A.length ca) A.length (A.map (Value.int .i64))).tbl W.heap.size t tv acts) W w a A ((j : Int) + 1) → Mv ((RA.row W.heap.size 2 1 (.slice (some ⟨ga, 0, none⟩) A.length ca) A.length (A.map (Value.int .i64))).tbl W.heap.size t tv acts) W w a A ((j + 1 : Nat) : Int)) := Lib.hid fun w h => by
                rw [show ((j + 1 : Nat) : Int) = (j : Int) + 1 by omega]
                exact h
              clear hsl
              generalize A.getD j 0 = y at *
              go_wp2_with (first
                | (go_at_call 28; refine (HAR.out _ HJJ.out.inv.1.1).mono ?_; rintro e y ⟨rfl, rfl⟩)
                | (go_at_call 31; refine HLD.out.mono ?_; rintro e w5 ⟨rfl, hh⟩; have H5 := Lib.hid (HJ1.out _ hh); clear hh))
              exact ⟨⟨j + 1, by omega, by go_num, H5⟩, by simp [intOf]; omega⟩
            · obtain rfl : j = A.length := by omega
              go_wp2_with (first
                | (go_at_call 15; refine (awake14 _).mono ?_; rintro e w4 ⟨rfl, hb⟩; have H4 := Lib.hid (HJJ.out.keep hb); clear hb)
                | (go_at_call 28; refine (HAR.out _ H4.out.inv.1.1).mono ?_; rintro e y ⟨rfl, rfl⟩)
                | (go_at_call 29; refine (len_mv H4.out).mono ?_; rintro e y ⟨rfl, rfl⟩)
                | (go_at_call 17; refine (HAC.out _ H4.out.inv.1.1).mono ?_; rintro e y ⟨rfl, rfl⟩)
                | (go_at_call 30; refine (HTL.out _ _ H4.out).mono ?_; rintro e y ⟨rfl, rfl⟩))
              all_goals go_ret
              all_goals exact ⟨by simp, H4.out.below⟩
end Go.Proofs.Ytndmhnakfhofpaa
