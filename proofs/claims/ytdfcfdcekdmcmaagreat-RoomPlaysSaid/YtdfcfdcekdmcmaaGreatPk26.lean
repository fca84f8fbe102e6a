/-
  One more ring of a room that has some, of either kind, by contract; what a sequencer of many knows, as boxes beside an arena; what a room's ring of many is laid as in an arena that has cells. Conditions: fewer than eight rings; the arena has room.
  What is known of what stands beside an arena, in another order. No condition.
  One more ring of a room that has some, of either kind; a ring from which many claim, laid in an arena that has cells; by contract. Conditions: fewer than eight rings; the arena has room.
  One more ring of a room that has some, of either kind, by contract. Conditions: fewer than eight rings; how a ring is laid is known.
  A rest as a list of layers, rows and blocks: who knows them in one order knows them in every one. No condition but those that each theorem names.
  The document's world of layer 14 in memory, as layers of a rest: its block, its table, its rows, each ring's rows; its cells, read. No condition but those that each theorem names.
  The document's world of layer 14: what is read of it; Cursor, Last, Show, Published by contract. No condition but those that each theorem names.
-/
import Derived.Test.YtdfcfdcekdmcmaaGreatPk16
import Derived.Test.YtdfcfdcekdmcmaaGreatPk25
import Derived.Deep.CutBlock
set_option linter.unusedVariables false
set_option linter.unusedSimpArgs false
set_option linter.unusedSimpArgs false
namespace Go.Proofs.YtdfcfdcekdmcmaaGreat
open Go.RowKit
set_option linter.unusedVariables false
structure Ba (W0 : World) (Pd : Rest → World → Prop) : Prop extends Bm W0 Pd where
  app : ∀ (R : Rest) (w w' : World) (T : TypeId) (z : Nat) (v v' : Value) (n n' : Nat) (xs ys : List Value), T ≠ 268 → Pd (R.row W0.heap.size T z v n xs) w → w'.ownsRow 0 T z v' n' ys → Frm (fun k => v.ownBlock = some k) w w' → (v'.ownBlock = v.ownBlock ∨ ∀ g, v'.ownBlock = some g → w.heap.size ≤ g) → Pd (R.row W0.heap.size T z v' n' ys) w'
section
variable {W0 w w' : World} {Pd : Rest → World → Prop}
theorem mv_ba (W0 : World) (a : Nat) (xs : List Int) (st : Int) : Ba W0 fun R w => Mv R W0 w a xs st :=
  ⟨mv_bm W0 a xs st, fun R w w' T z v v' n n' xs ys hT h ho hf hv => h.app ho hf hv⟩
theorem ba_box (hB : Ba W0 Pd) (g : Nat) (x : Array Value) (U : TypeId) : Ba W0 fun R w => Pd (R.box W0.heap.size g x U) w :=
  ⟨bm_box hB.toBm g x U, fun R w w' T z v v' n n' xs ys hT h ho hf hv => hB.toBx.boxOut (hB.app _ _ _ _ _ _ _ _ _ _ _ hT (hB.toBx.boxIn h) ho hf hv)⟩
theorem ba_row (hB : Ba W0 Pd) (T : TypeId) (z : Nat) (v : Value) (n : Nat) (ys : List Value) : Ba W0 fun R w => Pd (R.row W0.heap.size T z v n ys) w :=
  ⟨bm_row hB.toBm T z v n ys, fun R w w' T z v v' n n' xs ys hT h ho hf hv => hB.toBx.rowSwap (hB.app _ _ _ _ _ _ _ _ _ _ _ hT (hB.toBx.rowSwap h) ho hf hv)⟩
theorem ba_ex {ι : Type} {P : ι → Rest → World → Prop} (hB : ∀ i, Ba W0 (P i)) : Ba W0 fun R w => ∃ i, P i R w :=
  ⟨bm_ex fun i => (hB i).toBm, fun R w w' T z v v' n n' xs ys hT h ho hf hv => h.elim fun i h => ⟨i, (hB i).app _ _ _ _ _ _ _ _ _ _ _ hT h ho hf hv⟩⟩
theorem ba_and (C : Prop) (hB : Ba W0 Pd) : Ba W0 fun R w => C ∧ Pd R w :=
  ⟨bm_and C hB.toBm, fun R w w' T z v v' n n' xs ys hT h ho hf hv => ⟨h.1, hB.app _ _ _ _ _ _ _ _ _ _ _ hT h.2 ho hf hv⟩⟩
theorem sg_ba (W0 : World) (p a k cur : Nat) (ids : List Int) (cl pub sn sc : Int) (xs : List Int) (st : Int) : Ba W0 fun R w => Sg R W0 w p a k cur ids cl pub sn sc xs st :=
  ba_ex fun cs => ba_and _ (ba_box (mv_ba W0 a xs st) p cs _)
theorem ms_ba (W0 : World) (s : Sh) (ids : List Int) (sw : Int) (xs : List Int) (st : Int) : Ba W0 fun R w => Ms R W0 w s ids sw xs st :=
  ⟨⟨ms_bx W0 s ids sw xs st, fun R w w' T z v n ys h hb ho => h.rowTo hb ho⟩, fun R W w T z v v' n n' us ys hT h hown hf hv => by
    have h0 := h.below.size
    have hr := h.inv.2.1
    have hlow : ∀ g, v'.ownBlock = some g → W0.heap.size ≤ g := fun g hg => by
      rcases hv with hv | hv
      · exact (hr.lt g (hv ▸ hg)).1
      · have := hv g hg
        omega
    refine h.turn2 hf (fun g hg => ⟨(hr.lt g hg).1, .inr hg, fun c m e => ?_⟩) (fun g hg => ?_) ⟨R.ok _ _ h.inv.1 fun k hk => hf.block k (h.prot_lt (.inl hk)) (h.inv.2.2 k hk), row_up hown hlow, fun k hk e => ?_⟩
    · obtain ⟨cur, hc⟩ := ownsRow_obj h.inv.2.1 hg
      rw [hc] at e
      cases e
      exact hT rfl
    · rcases hg with hg | hg
      · exact .inl (.inl hg)
      · rcases hv with hv | hv
        · exact .inl (.inr (hv ▸ hg))
        · exact .inr ⟨hv g hg, (hown.lt g hg).2⟩
    · rcases hv with hv | hv
      · exact h.inv.2.2 k hk (hv ▸ e)
      · have := hv k e
        have := h.prot_lt (k := k) (.inl hk)
        omega⟩
theorem peOne_ba (W0 : World) (a k cur : Nat) (ids : List Int) (cl pub sn sc : Int) (xs : List Int) (st : Int) (L : List Ev) (i : Ri) : Ba W0 (PeOne W0 a k cur ids cl pub sn sc xs st L i) :=
  ba_box (ba_row (sg_ba W0 i.p a k cur ids cl pub sn sc xs st) _ _ _ _ _) _ _ _
end
def bfA (f k : Nat) : Array Value := #[.int .i64 f, .int .u8 k]
section
variable {X : Rest} {W0 W w : World} {s : Sh} {ids xs : List Int} {sw st : Int} {cs : Array Value}
theorem Ms.boxed (h : Ms X W0 w s ids sw xs st) : ∃ cs, SqF cs s ids sw ∧ Mv (X.box W0.heap.size s.p cs 219) W0 w s.b xs st := by
  obtain ⟨cs, h1, h2, h3, h4⟩ := h
  have hm := h4.mv
  exact ⟨cs, h1, hm.less (fun _ h => h) ⟨hm.inv.1, hm.inv.2, h3, h2⟩⟩
theorem Mv.seq (hcs : SqF cs s ids sw) (hk : s.k ≤ 20) (hf : (s.f : Int) ≤ 2097152) (hbf : X.inv w → w.heap[s.q]? = some (.cells (bfA s.f s.k) 268 (0, 0))) (h : Mv (X.box W0.heap.size s.p cs 219) W0 w s.b xs st) : Ms X W0 w s ids sw xs st := by
  have hi := h.inv
  have h2 : Mv (X.and s.p cs 219) W0 w s.b xs st := h.less (fun _ h => h) ⟨hi.1, hi.2.1⟩
  obtain ⟨v, h1, h3, h4, h5, h6⟩ := h2
  exact ⟨cs, hcs, hi.2.2.2, hi.2.2.1, v, h1, ⟨hbf hi.1, hk, hf⟩, h3, h4, h5, h6⟩
end
set_option maxRecDepth 100000 in
set_option maxHeartbeats 2000000 in
theorem anew_new {R : Rest} {W0 W : World} {b : Nat} {xs : List Int} {st : Int} (h : Mv R W0 W b xs st) (k n : Nat) (hk : k ≤ 20) (hn : (n : Int) = two k) (hl : (xs.length : Int) + n ≤ 2097152) :
    Calls Tryz.prog 147 #[.pointer (some ⟨b, 0, none⟩), .agg #[.int .u8 k]] W fun e w' => ∃ q, e = .returned (.tuple #[.pointer (some ⟨q, 0, none⟩), .nilIface]) ∧ Av R W0 w' b q xs.length k (xs ++ List.replicate n (-1)) st ∧ W.heap.size ≤ q := by
  have hb1 : Below W.heap.size W (W.alloc (.cells #[.int .u8 k] 100)) := (Below.refl _ W).alloc (Nat.le_refl _) _
  have HM1 := Lib.hid (h.keep hb1)
  have HSZ1 : Hid (W.heap.size ≤ (W.alloc (.cells #[.int .u8 k] 100)).heap.size) := Lib.hid hb1.size
  have n0 : ∀ x1 : Later (W.alloc (.cells #[.int .u8 k] 100)), x1.to.cell? ⟨W.heap.size, 0, none⟩ = some (.int .u8 k) := fun x1 => keepc x1.below ((obj_cell (obj_new W _) 0).trans rfl)
  have HO1 := Lib.hid (obj_new W (.cells #[.int .u8 k] 100))
  have HS1 : Hid (∀ x1 : Later (W.alloc (.cells #[.int .u8 k] 100)), Calls Tryz.prog 46 #[.pointer (some ⟨b, 0, none⟩)] x1.to fun e w'' => e = .returned (.int .i64 xs.length) ∧ ∃ y1 : Later (W.alloc (.cells #[.int .u8 k] 100)), w'' = y1.to) :=
    fun x1 => (len_mv ((h.keep hb1).keep x1.below)).mono fun e w h => ⟨h.1, x1, h.2.symm⟩
  have HN := Lib.hid hn
  have HW : Hid (∃ z, z = W.heap.size) := Lib.hid ⟨_, rfl⟩
  obtain ⟨z0, hz0⟩ := HW.out
  rw [← hz0] at HSZ1
  rw [← hz0]
  have hnb : (n : Int) ≤ 1048576 := by have := two_le hk; omega
  clear h hb1 hn HW
  have hz1 := hz0
  clear hz0
  go_enter Tryz.func147, Tryz.ntmps147
  go_wp2_with fail
  generalize W.alloc (.cells #[.int .u8 k] 100) = w1 at *
  clear hz1
  generalize W.heap.size = ob at *
  refine wp_region_later_tail 4 (by kernel_rfl) (by kernel_rfl) ?_
  simp only [List.take_succ_cons, List.take_zero, List.drop_succ_cons, List.drop_zero]
  repeat (go_big_quiet_step ((go_at_call 46; exact HS1.out _)))
  refine wpQuiet_nil ?_
  intro w2 hw'
  obtain ⟨⟨w2', hb2⟩, hw2⟩ := hw'
  obtain rfl : w2 = w2' := hw2
  have HA2 := Lib.hid (av_start (f := xs.length) (HM1.out.keep hb2) hk (by omega))
  have HO2 := Lib.hid ((hb2.block _ (lt_of_block HO1.out)).trans HO1.out)
  have HSZ2 : Hid (z0 ≤ w2.heap.size) := Lib.hid (Nat.le_trans HSZ1.out hb2.size)
  clear n0 hb2 HSZ1
  have d1 : decide ((2097152 : Int) < (xs.length : Int) + (n : Int)) = false := decide_eq_false (by omega)
  go_wp2_with (first
    | (go_at_call 164; refine (end_some _ _ _ k HA2.out.bf n HN.out).mono ?_; rintro e w3 ⟨rfl, hb⟩; have H3 := Lib.hid (HA2.out.keep hb); have o3 := (obj_cell ((balloc (Below.refl _ w2) (.cells #[.int .i64 xs.length, .int .u8 k] 268)).block _ (lt_of_block HO2.out) |>.trans HO2.out) 0); have o4 := keepc hb (o3.trans rfl); clear hb o3)
    | (go_at_call 51; refine (slots_any k hk _).mono ?_; rintro e w4 ⟨rfl, hw⟩; have H4 := Lib.hid (H3.out.keep (slots_below hw)); clear hw))
  have hn1 : (n : Int) ≤ two k := by have := HN.out; omega
  have hn2 : two k ≤ (n : Int) := by have := HN.out; omega
  generalize w2.heap.size = q at *
  clear o4
  have HS : Hid (Av R W0 w4 b q xs.length k (xs ++ List.replicate 0 (-1)) st) := Lib.hid (by simpa using H4.out)
  go_loopw [29] (fun i wl => ∃ j : Nat, j ≤ n ∧ i = .int .i64 j ∧ Hid (Av R W0 wl b q xs.length k (xs ++ List.replicate j (-1)) st)) (fun i _ => n - (intOf i).toNat)
  case atStart => exact ⟨0, Nat.zero_le _, rfl, HS⟩
  case round =>
    obtain ⟨j, hj, rfl, HJ⟩ := hrel
    by_cases hlt : j < n
    · have hjt : (j : Int) < two k := by omega
      go_wp2_with (go_at_call 34; refine (alloc_v HJ.out (-1) (by simp; omega)).mono ?_; rintro e w5 ⟨rfl, hh, hd⟩; rw [List.append_assoc, ← List.replicate_succ'] at hh; have H5 := Lib.hid hh; clear hh hd)
      exact ⟨⟨j + 1, by omega, by go_num, H5⟩, by simp [intOf]; omega⟩
    · obtain rfl : j = n := by omega
      have hjt : ¬ (j : Int) < two k := by omega
      go_wp2
      go_ret2
      exact ⟨q, rfl, HJ.out, HSZ2.out⟩
section
variable {R : Rest} {W0 W w w' : World} {b p q k : Nat} {cs : Array Value} {xs : List Int} {st : Int}
theorem Nw.doneG {f c1 c2 : Nat} (h : Av (R.and p cs 219) W0 w b q f k xs st) (hlow : W0.heap.size ≤ p) (hnp : ∀ k, R.prot k → k < p) {s : Sh} (hs : s = ⟨p, b, q, f, k, c1, c2⟩) (hq : SqF (cs.setIfInBounds 4 (.pointer (some ⟨q, 0, none⟩))) s [] (-1)) :
    Ms R W0 (w.setCell ⟨p, 4, none⟩ (.pointer (some ⟨q, 0, none⟩))) s [] (-1) xs st := by
  subst hs
  have hp := h.inv.2
  have hf : Frm (fun k => k = p) w (w.setCell ⟨p, 4, none⟩ (.pointer (some ⟨q, 0, none⟩))) := (Frm.refl (fun k => k = p) w).setCell (p := ⟨p, 4, none⟩) rfl _
  obtain ⟨r, ha, hb, _⟩ := id h
  refine ⟨_, hq, hlow, fun e => Nat.lt_irrefl _ (hnp _ e), h.turn hf (fun g o ho e => ?_) (fun g hg => .inl hg) ⟨?_, obj_setCell _ hp⟩⟩
  · subst e
    rw [hp] at ho
    cases ho
    exact ⟨hlow, obj_ne hp ha.1 (by decide), obj_ne hp hb.1 (by decide), fun c e => by injection e with _ e2 _; exact absurd e2 (by decide)⟩
  · exact R.ok _ _ h.inv.1 fun k hk => hf.block k (Nat.lt_trans (hnp k hk) (lt_of_block hp)) (by have := hnp k hk; omega)
end
set_option maxHeartbeats 2000000 in
set_option maxRecDepth 100000 in
theorem mnew_gen {R : Rest} {W0 W : World} {b : Nat} {xs : List Int} {st : Int} (h : Mv R W0 W b xs st) (k n : Nat) (hk : k ≤ 20) (hn : (n : Int) = two k) (hl : (xs.length : Int) + n + 2 ≤ 2097152) :
    Calls Tryz.prog 121 #[.pointer (some ⟨b, 0, none⟩), .int .i64 (two k)] W fun e w' => ∃ p q : Nat, e = .returned (.tuple #[.pointer (some ⟨p, 0, none⟩), .nilIface]) ∧ Ms (R.box W0.heap.size q (bfA (xs.length + 2) k) 268) W0 w' ⟨p, b, q, xs.length + 2, k, xs.length, xs.length + 1⟩ [] (-1) (xs ++ mk (-1) (-1) (List.replicate n (-1)) []) st := by
  obtain ⟨c1, hc1⟩ : ∃ c1, c1 = xs.length := ⟨_, rfl⟩
  obtain ⟨c2, hc2⟩ : ∃ c2, c2 = xs.length + 1 := ⟨_, rfl⟩
  obtain ⟨f, hf⟩ : ∃ f, f = xs.length + 2 := ⟨_, rfl⟩
  rw [← hf, ← hc2, ← hc1]
  have HM := Lib.hid h
  have HN := Lib.hid hn
  have t1 := two_le hk
  have t2 := two_pos k
  have hsz := sq0_size b k
  have HBU := Lib.hid (built_sq0 b k)
  have HQF : Hid (∀ p q : Nat, SqF ((((sq0 b k).setIfInBounds 2 (.int .i64 c1)).setIfInBounds 3 (.int .i64 c2)).setIfInBounds 4 (.pointer (some ⟨q, 0, none⟩))) ⟨p, b, q, f, k, c1, c2⟩ [] (-1)) := fun p q => sq0_f ⟨p, b, q, f, k, c1, c2⟩
  have HC : Hid ((sq0 b k)[2]? = some (.int .i64 0) ∧ (sq0 b k)[3]? = some (.int .i64 0) ∧ (sq0 b k)[4]? = some (.pointer none)) := ⟨rfl, rfl, rfl⟩
  have HLEN : Hid (∀ R w, Mv R W0 w b xs st → Calls Tryz.prog 46 #[.pointer (some ⟨b, 0, none⟩)] w fun e w' => e = .returned (.int .i64 c1) ∧ w = w') := fun R w h => by rw [hc1]; exact len_mv h
  have HA1 : Hid (∀ (R : Rest) w p cs, Nw R W0 w b p cs xs st → Calls Tryz.prog 34 #[.pointer (some ⟨b, 0, none⟩), .int .i64 (-1)] w fun e w' => e = .returned (.tuple #[.int .i64 c1, .nilIface]) ∧ Nw R W0 w' b p cs (xs ++ [-1]) st) :=
    fun R w p cs h => (alloc_mv (-1) h.mv (by omega)).mono fun e w' k => ⟨by rw [hc1]; exact k.1, ⟨k.2, h.low, h.np⟩⟩
  have HA2 : Hid (∀ (R : Rest) w p cs, Nw R W0 w b p cs (xs ++ [-1]) st → Calls Tryz.prog 34 #[.pointer (some ⟨b, 0, none⟩), .int .i64 (-1)] w fun e w' => e = .returned (.tuple #[.int .i64 c2, .nilIface]) ∧ Nw R W0 w' b p cs (xs ++ [-1, -1]) st) :=
    fun R w p cs h => (alloc_mv (-1) h.mv (by simp; omega)).mono fun e w' k => ⟨by rw [hc2]; simpa using k.1, ⟨by simpa using k.2, h.low, h.np⟩⟩
  have HA3 : Hid (∀ (R : Rest) w, Mv R W0 w b (xs ++ [-1, -1]) st → Calls Tryz.prog 147 #[.pointer (some ⟨b, 0, none⟩), .agg #[.int .u8 k]] w fun e w' => ∃ q, e = .returned (.tuple #[.pointer (some ⟨q, 0, none⟩), .nilIface]) ∧ Av R W0 w' b q f k (xs ++ [-1, -1] ++ List.replicate n (-1)) st ∧ w.heap.size ≤ q) :=
    fun R w h => (anew_new h k n hk hn (by simp; omega)).mono fun e w' ⟨q, h1, h2, h3⟩ => ⟨q, h1, by rw [hf]; simpa using h2, h3⟩
  have d1 : decide (2097152 - (c1 : Int) < two k + 2) = false := decide_eq_false (by omega)
  have b1 : (c1 : Int) ≤ 2097152 := by omega
  have HXS : Hid (xs ++ [-1, -1] ++ List.replicate n (-1) = xs ++ mk (-1) (-1) (List.replicate n (-1)) []) := Lib.hid (by simp [mk])
  clear h hn hsz hl hc1 hc2 hf
  generalize sq0 b k = cs at *
  go_enter Tryz.func121, Tryz.ntmps121
  go_wp2_with (first
    | (go_at_call 79; refine (of_yes k hk _).mono ?_; rintro e w1 ⟨rfl, hb⟩; have HM1 := Lib.hid (Mv.with (HM.out.keep (balloc hb (.cells #[.int .u8 k] 100))) (obj_new _ _) (by decide) (by decide)); clear hb)
    | (go_at_call 46; refine (HLEN.out _ _ HM1.out).mono ?_; rintro e w' ⟨rfl, rfl⟩; have cz := (obj_cell HM1.out.inv.2 0); generalize w1.alloc (.cells #[.int .u8 k] 100) = w2 at *; generalize w1.heap.size = sb at *)
    | (refine wpList_build3 rfl 219 0 1 6 (.tmp 33) (.tmp 34) (.const (.int .i64 (-1))) rfl _ _ _ rfl rfl rfl cs ?_ ?_; exact HBU.out)
    | (go_at_call 34; have N1 := Lib.hid (Nw.start HM1.out cs); generalize w2.alloc (.cells cs 219) = w3 at *; generalize w2.heap.size = p at *; refine (HA1.out _ _ _ _ N1.out).mono ?_; rintro e w4 ⟨rfl, hn⟩; have N2 := Lib.hid hn; have c2' := (obj_cell hn.blk 2).trans HC.out.1; have f2 := obj_free hn.blk 2; have N3 := Lib.hid (hn.set 2 (.int .i64 c1)); clear hn cz)
    | (go_at_call 34; refine (HA2.out _ _ _ _ N3.out).mono ?_; rintro e w5 ⟨rfl, hn⟩; have N4 := Lib.hid hn; have c3 := (obj_cell hn.blk 3).trans ((Array.getElem?_setIfInBounds_ne (by omega)).trans HC.out.2.1); have f3 := obj_free hn.blk 3; have N5 := Lib.hid (hn.set 3 (.int .i64 c2)); have cz := (obj_cell N5.out.mv.inv.1.2 0); clear hn c2' f2)
    | (go_at_call 147; refine (HA3.out _ _ N5.out.mv).mono ?_; rintro e w6 ⟨q, rfl, hv, hq⟩; have V6 := Lib.hid hv; have HPQ := Lib.hid (Nat.lt_of_lt_of_le (lt_of_block N5.out.blk) hq); clear hq; have c4 := (obj_cell hv.inv.2 4).trans ((Array.getElem?_setIfInBounds_ne (by omega)).trans ((Array.getElem?_setIfInBounds_ne (by omega)).trans HC.out.2.2)); have f4 := obj_free hv.inv.2 4; clear hv c3 f3 cz))
  go_ret2
  have hms := Nw.doneG V6.out N1.out.low N1.out.np (s := ⟨p, b, q, f, k, c1, c2⟩) rfl (HQF.out p q)
  refine ⟨p, q, rfl, ?_⟩
  rw [← HXS.out]
  have hd := hms.drop
  have hbf := hd.bf
  have hnp : ¬ R.prot q := fun e => by have := N1.out.np _ (.inl e); have := HPQ.out; omega
  have hlo : W0.heap.size ≤ q := by have := N1.out.low; have := HPQ.out; omega
  refine hd.turn (S := fun _ => False) (Frm.refl _ _) (fun _ _ _ h => h.elim) ?_ ⟨hd.inv, hbf.1, hnp, hlo⟩
  rintro g (hg | rfl)
  · exact .inl hg
  · exact .inr ⟨_, _, _, hbf.1, by decide, by decide, by decide⟩
end Go.Proofs.YtdfcfdcekdmcmaaGreat
namespace Go.Proofs.YtdfcfdcekdmcmaaGreat
open Go.RowKit
set_option linter.unusedVariables false
def Rest.le (R R' : Rest) : Prop := (∀ k, R'.prot k → R.prot k) ∧ ∀ w, R.inv w → R'.inv w
section
variable {R R' R2 : Rest} {B p q : Nat} {T U V : TypeId} {z n n2 z2 : Nat} {v v2 : Value} {xs xs2 : List Value} {cs ds : Array Value}
theorem Rest.le.trans (h : R.le R') (k : R'.le R2) : R.le R2 := ⟨fun i hi => h.1 i (k.1 i hi), fun w hw => k.2 w (h.2 w hw)⟩
theorem Rest.le.row (h : R.le R') : (R.row B T z v n xs).le (R'.row B T z v n xs) := ⟨fun k hk => hk.imp (h.1 k) id, fun w hw => ⟨h.2 w hw.1, hw.2.1, fun k hk => hw.2.2 k (h.1 k hk)⟩⟩
theorem Rest.le.box (h : R.le R') : (R.box B p cs U).le (R'.box B p cs U) := ⟨fun k hk => hk.imp (h.1 k) id, fun w hw => ⟨h.2 w hw.1, hw.2.1, fun e => hw.2.2.1 (h.1 _ e), hw.2.2.2⟩⟩
theorem Rest.rr : ((R.row B T z v n xs).row B U z2 v2 n2 xs2).le ((R.row B U z2 v2 n2 xs2).row B T z v n xs) := by
  refine ⟨fun k hk => ?_, fun w hw => ?_⟩
  · rcases hk with (hk | hk) | hk
    · exact .inl (.inl hk)
    · exact .inr hk
    · exact .inl (.inr hk)
  · obtain ⟨⟨i1, i2, i3⟩, i4, i5⟩ := hw
    refine ⟨⟨i1, i4, fun k hk => i5 k (.inl hk)⟩, i2, fun k hk => ?_⟩
    rcases hk with hk | hk
    · exact i3 k hk
    · exact fun e => i5 k (.inr e) hk
theorem Rest.rb : ((R.row B T z v n xs).box B p cs U).le ((R.box B p cs U).row B T z v n xs) := by
  refine ⟨fun k hk => ?_, fun w hw => ?_⟩
  · rcases hk with (hk | hk) | hk
    · exact .inl (.inl hk)
    · exact .inr hk
    · exact .inl (.inr hk)
  · obtain ⟨⟨i1, i5, i6⟩, i2, i3, i4⟩ := hw
    refine ⟨⟨i1, i2, fun e => i3 (.inl e), i4⟩, i5, fun k hk => ?_⟩
    rcases hk with hk | rfl
    · exact i6 k hk
    · exact fun e => i3 (.inr e)
theorem Rest.br : ((R.box B p cs U).row B T z v n xs).le ((R.row B T z v n xs).box B p cs U) := by
  refine ⟨fun k hk => ?_, fun w hw => ?_⟩
  · rcases hk with (hk | hk) | hk
    · exact .inl (.inl hk)
    · exact .inr hk
    · exact .inl (.inr hk)
  · obtain ⟨⟨i1, i2, i3, i4⟩, i5, i6⟩ := hw
    refine ⟨⟨i1, i5, fun k hk => i6 k (.inl hk)⟩, i2, fun e => ?_, i4⟩
    rcases e with e | e
    · exact i3 e
    · exact i6 p (.inr rfl) e
theorem Rest.bb : ((R.box B p cs U).box B q ds V).le ((R.box B q ds V).box B p cs U) := by
  refine ⟨fun k hk => ?_, fun w hw => ?_⟩
  · rcases hk with (hk | hk) | hk
    · exact .inl (.inl hk)
    · exact .inr hk
    · exact .inl (.inr hk)
  · obtain ⟨⟨i1, i2, i3, i4⟩, i5, i6, i7⟩ := hw
    refine ⟨⟨i1, i5, fun e => i6 (.inl e), i7⟩, i2, fun e => ?_, i4⟩
    rcases e with e | e
    · exact i3 e
    · exact i6 (.inr e.symm)
theorem Rest.boxLe : (R.box B p cs U).le R := ⟨fun _ h => .inl h, fun _ h => h.1⟩
theorem Rest.rowLe : (R.row B T z v n xs).le R := ⟨fun _ h => .inl h, fun _ h => h.1⟩
theorem Rest.le.refl (R : Rest) : R.le R := ⟨fun _ h => h, fun _ h => h⟩
end
end Go.Proofs.YtdfcfdcekdmcmaaGreat
set_option linter.unusedSimpArgs false
namespace Go.Proofs.YtdfcfdcekdmcmaaGreat
open Go.RowKit
set_option linter.unusedVariables false
section
variable {R R' : Rest} {B sb rg rc k : Nat} {L : List Ev}
end
section
variable {W0 w w' : World} {Pd : Rest → World → Prop}
theorem Mv.le {R R' : Rest} {a : Nat} {xs : List Int} {st : Int} (h : Mv R W0 w a xs st) (hl : R.le R') : Mv R' W0 w a xs st := h.less hl.1 (hl.2 _ h.inv)
theorem Bx.lee {R R' : Rest} (hB : Bx W0 Pd) (h : Pd R w) (hl : R.le R') : Pd R' w := hB.le h hl.1 (hl.2 _ (hB.inv h))
theorem ms_bs (W0 : World) (s : Sh) (ids : List Int) (sw : Int) (xs : List Int) (st : Int) : Bs W0 fun R w => Ms R W0 w s ids sw xs st :=
  ⟨⟨ms_bx W0 s ids sw xs st, fun R w w' T z v n ys h hb ho => h.rowTo hb ho⟩, fun R R' w w' h hb hp hi => h.turn2 (Frm.of_below hb fun _ => False) (fun _ h => h.elim) hp hi⟩
theorem bs_box (hB : Bs W0 Pd) (hlt : ∀ R w, Pd R w → ∀ k, R.prot k → k < w.heap.size) (g : Nat) (x : Array Value) (U : TypeId) : Bs W0 fun R w => Pd (R.box W0.heap.size g x U) w :=
  ⟨bm_box hB.toBm g x U, fun R R' w w' h hb hp hi => by
    obtain ⟨i1, i2, i3, i4⟩ := hB.inv h
    have hl := lt_of_block i2
    refine hB.grow _ _ _ _ h hb (fun k hk => ?_) ⟨hi, blk_keep i2 hb, fun e => ?_, i4⟩
    · rcases hk with hk | rfl
      · exact (hp k hk).imp .inl id
      · exact .inl (.inr rfl)
    · rcases hp g e with e | e
      · exact i3 e
      · omega⟩
end
def PeMg (W0 : World) (a k : Nat) (xs ys : List Int) (st : Int) (L : List Ev) (j : Rj) (R : Rest) (w : World) : Prop :=
  j.s = ⟨j.s.p, a, j.s.q, xs.length + 2, k, xs.length, xs.length + 1⟩ ∧ Ms ((R.slots W0.heap.size j.sb j.rg j.rc k L).box W0.heap.size j.s.q (bfA (xs.length + 2) k) 268) W0 w j.s [] (-1) ys st
theorem ms_bq (W0 : World) (s : Sh) (ids : List Int) (sw : Int) (xs : List Int) (st : Int) (q : Nat) (x : Array Value) : Bs W0 fun R w => Ms (R.box W0.heap.size q x 268) W0 w s ids sw xs st :=
  bs_box (ms_bs W0 s ids sw xs st) (fun R w h k hk => h.prot_lt hk) q x _
theorem ms_bqs (W0 : World) (s : Sh) (ids : List Int) (sw : Int) (xs : List Int) (st : Int) (q : Nat) (x : Array Value) (sb rg rc k : Nat) (L : List Ev) : Bx W0 fun R w => Ms ((R.slots W0.heap.size sb rg rc k L).box W0.heap.size q x 268) W0 w s ids sw xs st :=
  (bm_box (bm_row (ms_bq W0 s ids sw xs st q x).toBm _ _ _ _ _) _ _ _).toBx
section
variable {R : Rest} {W0 W w : World} {a k n : Nat} {xs : List Int} {st : Int}
set_option maxHeartbeats 1000000 in
set_option maxRecDepth 100000 in
theorem lay_many_gen (h : Mv R W0 W a xs st) (hk : k ≤ 20) (hn : (n : Int) = two k) (hl : (xs.length : Int) + n + 2 ≤ 2097152) :
    Calls Tryz.prog 80 #[.pointer (some ⟨a, 0, none⟩), .int .i64 (two k), .int .i64 1] W fun e w' => ∃ j g, e = .returned (.tuple #[.pointer (some ⟨g, 0, none⟩), .nilIface]) ∧ PeMg W0 a k xs (xs ++ mk (-1) (-1) (List.replicate n (-1)) []) st (List.replicate n (0, 0)) j (R.box W0.heap.size g (gMany j) 149) w' := by
  have hm := mnew_gen (h.boxNew #[.pointer none, .pointer none, .pointer none, .slice none 0 0] 149) k n hk hn hl
  have g2 := (obj_cell (obj_new W (.cells #[.pointer none, .pointer none, .pointer none, .slice none 0 0] 149)) 2).trans rfl
  have HM := Lib.hid hm
  have HS := Lib.hid (rnew_ok k n hk hn)
  clear h hm
  generalize hys : xs ++ mk (-1) (-1) (List.replicate n (-1)) [] = ys at *
  obtain ⟨f, hf⟩ : ∃ f, f = xs.length + 2 := ⟨_, rfl⟩
  obtain ⟨c2, hc2⟩ : ∃ c2, c2 = xs.length + 1 := ⟨_, rfl⟩
  obtain ⟨c1, hc1⟩ : ∃ c1, c1 = xs.length := ⟨_, rfl⟩
  unfold PeMg
  rw [← hf, ← hc2, ← hc1] at HM ⊢
  clear hys hf hc2 hc1 hl hn
  have HBQ := Lib.hid (fun (s : Sh) (q : Nat) => ms_bq W0 s [] (-1) ys st q (bfA f k))
  have HBS := Lib.hid (fun (s : Sh) (q sb rg rc : Nat) => ms_bqs W0 s [] (-1) ys st q (bfA f k) sb rg rc k (List.replicate n (0, 0)))
  go_enter Tryz.func80, Tryz.ntmps80
  go_wp2_with (first
    | (go_at_call 121; refine HM.out.mono ?_; rintro e w1 ⟨p, q, rfl, hl⟩; have HL0 := Lib.hid hl; have hbx := (HBQ.out ⟨p, a, q, f, k, c1, c2⟩ q).toBx.is hl; have k2 := (obj_cell hbx 2).trans rfl; have f2 := obj_free hbx 2; have HL := Lib.hid ((HBQ.out ⟨p, a, q, f, k, c1, c2⟩ q).turn (by decide) hl ((Frm.refl (fun k => k = W.heap.size) w1).setCell (p := ⟨W.heap.size, 2, none⟩) rfl _) (obj_setCell (i := 2) (.pointer (some ⟨p, 0, none⟩)) hbx)); generalize W.heap.size = g at *; clear hl hbx)
    | (go_at_call 123; refine (HS.out _).mono ?_; rintro e w2 ⟨sb, rg, rc, rfl, hrg, hb, q1, q2⟩; have H2 := Lib.hid ((HBQ.out ⟨p, a, q, f, k, c1, c2⟩ q).slots HL.out HL.out.below.size (fun g hg => HL.out.prot_lt (.inl hg)) hb hrg (by omega) (by omega)); have hbx2 := (HBS.out ⟨p, a, q, f, k, c1, c2⟩ q sb rg rc).is H2.out; have k0 := (obj_cell hbx2 0).trans rfl; have f0 := obj_free hbx2 0; clear hb hrg q1 q2))
  go_ret2
  exact ⟨⟨⟨p, a, q, f, k, c1, c2⟩, sb, rg, rc⟩, g, rfl, rfl, (HBS.out ⟨p, a, q, f, k, c1, c2⟩ q sb rg rc).turn (by decide) H2.out ((Frm.refl (fun k => k = g) w2).setCell (p := ⟨g, 0, none⟩) rfl _) (obj_setCell _ ((HBS.out ⟨p, a, q, f, k, c1, c2⟩ q sb rg rc).is H2.out))⟩
end
end Go.Proofs.YtdfcfdcekdmcmaaGreat
set_option linter.unusedSimpArgs false
namespace Go.Proofs.YtdfcfdcekdmcmaaGreat
open Go.RowKit
set_option linter.unusedVariables false
def Rest.rms (R : Rest) (B r a c t : Nat) (rv : Value) (n : Nat) (ps : List Value) : Rest :=
  (R.row B 143 1 rv n ps).box B r #[.pointer (some ⟨a, 0, none⟩), .pointer (some ⟨c, 0, none⟩), .pointer (some ⟨t, 0, none⟩), rv] 109
section
variable {W0 W w w' : World} {Pd : Rest → World → Prop} {R : Rest}
set_option maxHeartbeats 1000000 in
set_option maxRecDepth 100000 in
theorem rring_gen {ι : Type} {Pe : ι → Rest → World → Prop} (G : ι → Array Value) {r a c t k n : Nat} {rv : Value} {ps : List Value} (kd : Int) (hkd : kd = 0 ∨ kd = 1) (hk : k ≤ 20) (hn : n < 8) (hB : Bx W0 Pd) (hE : ∀ i, Ba W0 (Pe i))
    (hm : Pd (R.rms W0.heap.size r a c t rv n ps) W)
    (hlay : ∀ (R : Rest) (w : World), Pd R w → Calls Tryz.prog 80 #[.pointer (some ⟨a, 0, none⟩), .int .i64 (two k), .int .i64 kd] w fun e w' => ∃ i g, e = .returned (.tuple #[.pointer (some ⟨g, 0, none⟩), .nilIface]) ∧ Pe i (R.box W0.heap.size g (G i) 149) w') :
    Calls Tryz.prog 23 #[.pointer (some ⟨r, 0, none⟩), .int .i64 (two k), .int .i64 kd] W fun e w' => e = .returned (.tuple #[.int .i64 n, .nilIface]) ∧ ∃ i g rv', Pe i ((R.box W0.heap.size g (G i) 149).rms W0.heap.size r a c t rv' (n + 1) (ps ++ [.pointer (some ⟨g, 0, none⟩)])) w' := by
  obtain ⟨i1, hi1, hy0, hy1, hy2⟩ := info_parts infoRn
  have HM := Lib.hid hm
  have HB := Lib.hid hB
  have HE := Lib.hid hE
  have HLAY := Lib.hid hlay
  have hrow := (hB.inv hm).1.2.1
  obtain ⟨p, cap, rfl, hcap⟩ := row_form hrow
  have HN : Hid (n < 8) := Lib.hid hn
  have d8 : decide ((8 : Int) ≤ (n : Int)) = false := decide_eq_false (by omega)
  -- the ring's block stands innermost
  have HIN : Hid (∀ (i : ι) (g : Nat) (w : World), Pe i ((R.rms W0.heap.size r a c t (.slice p n cap) n ps).box W0.heap.size g (G i) 149) w → Pe i ((R.box W0.heap.size g (G i) 149).rms W0.heap.size r a c t (.slice p n cap) n ps) w) := Lib.hid fun i g w h => (HE.out i).toBx.lee h (Rest.bb.trans Rest.rb.box)
  have HAPP : Hid (∀ (i : ι) (g : Nat) (w w3 : World) (v' : Value) (o : Obj), Pe i ((R.box W0.heap.size g (G i) 149).rms W0.heap.size r a c t (.slice p n cap) n ps) w → w3.ownsRow 0 143 1 v' (n + 1) (ps ++ [.pointer (some ⟨g, 0, none⟩)]) → Frm (fun k => (Value.slice p n cap).ownBlock = some k) (w.alloc o) w3 → (v'.ownBlock = (Value.slice p n cap).ownBlock ∨ ∀ q, v'.ownBlock = some q → (w.alloc o).heap.size ≤ q) → w3.heap[r]? = some (.cells #[.pointer (some ⟨a, 0, none⟩), .pointer (some ⟨c, 0, none⟩), .pointer (some ⟨t, 0, none⟩), .slice p n cap] 109 (0, 0)) ∧ Pe i ((R.box W0.heap.size g (G i) 149).rms W0.heap.size r a c t v' (n + 1) (ps ++ [.pointer (some ⟨g, 0, none⟩)])) (w3.setCell ⟨r, 3, none⟩ v')) := Lib.hid fun i g w w3 v' o h ho hf hv => by
    have h1 := (HE.out i).toBx.boxIn ((HE.out i).keep h (balloc (Below.refl _ w) o))
    have h2 := (HE.out i).toBx.boxOut ((HE.out i).app _ _ _ _ _ _ _ _ _ _ _ (by decide) h1 ho hf hv)
    have hb := (HE.out i).toBx.is h2
    exact ⟨hb, (HE.out i).turn (by decide) h2 ((Frm.refl (fun k => k = r) w3).setCell (p := ⟨r, 3, none⟩) rfl v') (obj_setCell (i := 3) v' hb)⟩
  clear hm hB hE hlay hrow hcap hn
  rcases hkd with rfl | rfl
  all_goals
    go_enter Tryz.func23, Tryz.ntmps23
    go_wp2_with (first
      | (go_at_call 79; refine (of_yes k hk _).mono ?_; rintro e w1 ⟨rfl, hb⟩; have HM1 := Lib.hid (HB.out.keep HM.out (balloc hb (.cells #[.int .u8 k] 100))); have k3 := (obj_cell (HB.out.is HM1.out) 3).trans rfl; have k0 := (obj_cell (HB.out.is HM1.out) 0).trans rfl; clear hb)
      | (go_at_call 80; refine (HLAY.out _ _ HM1.out).mono ?_; rintro e w2 ⟨i, g, rfl, hf⟩; have HF := Lib.hid (HIN.out _ _ _ hf); have k3 : w2.cell? ⟨r, 3, none⟩ = some (.slice p n cap) := (obj_cell ((HE.out i).toBx.is HF.out) 3).trans rfl; clear hf)
      | (at_builtin; refine wpList_append_row rfl _ _ 107 rfl 143 i1 (.pointer none) 1 8 Tryz.underlying107 hi1 hy0 hy1 hy2 rfl (by decide) (.slice p n cap) n _ rfl ((row_base ((HE.out i).toBx.inv HF.out).1.2.1 (Nat.zero_le _)).alloc _) ⟨w2.heap.size, 0, none⟩ 1 1 [.pointer (some ⟨g, 0, none⟩)] rfl rfl (one_cellA _ _ _) (fun x hx => by simp at hx; subst hx; rfl) (by have := HN.out; unfold maxLen; omega) (by have := HN.out; omega) ?_; intro v' w3 hown3 hf3 hv3; obtain ⟨he1, he2⟩ := HAPP.out _ _ _ _ _ _ HF.out hown3 hf3 hv3; have k4 : w3.cell? ⟨r, 3, none⟩ = some (.slice p n cap) := (obj_cell he1 3).trans rfl; have f4 := obj_free he1 3; have HFIN := Lib.hid he2; obtain ⟨p', c', rfl, hc'⟩ := row_form hown3; clear he1 he2 hown3 hf3 hv3 hc'))
    go_ret2
    exact ⟨rfl, i, g, _, HFIN.out⟩
end
end Go.Proofs.YtdfcfdcekdmcmaaGreat
namespace Go.Proofs.YtdfcfdcekdmcmaaGreat
open Go.RowKit
set_option linter.unusedVariables false
set_option linter.unusedSimpArgs false
inductive Ly where
  | box (p : Nat) (cs : Array Value) (T : TypeId)
  | row (T : TypeId) (z : Nat) (v : Value) (n : Nat) (xs : List Value)
def Ly.on (B : Nat) : Ly → Rest → Rest
  | .box p cs T, R => R.box B p cs T
  | .row T z v n xs, R => R.row B T z v n xs
def lay (B : Nat) : List Ly → Rest → Rest
  | [], R => R
  | l :: ls, R => l.on B (lay B ls R)
section
variable {B : Nat} {R R' : Rest} {a b l : Ly} {ls ms ns : List Ly}
theorem Ly.mono (h : R.le R') : (a.on B R).le (a.on B R') := by
  cases a
  · exact h.box
  · exact h.row
theorem Ly.swap : (a.on B (b.on B R)).le (b.on B (a.on B R)) := by
  cases a <;> cases b
  · exact Rest.bb
  · exact Rest.rb
  · exact Rest.br
  · exact Rest.rr
theorem lay_mono (h : R.le R') (ls : List Ly) : (lay B ls R).le (lay B ls R') := by
  induction ls with
  | nil => exact h
  | cons a ls ih => exact Ly.mono ih
theorem lay_perm (h : ls.Perm ms) : (lay B ls R).le (lay B ms R) := by
  induction h with
  | nil => exact Rest.le.refl _
  | cons a _ ih => exact Ly.mono ih
  | swap a b l => exact Ly.swap
  | trans _ _ h1 h2 => exact h1.trans h2
theorem lay_app (ls ms : List Ly) : lay B (ls ++ ms) R = lay B ls (lay B ms R) := by
  induction ls with
  | nil => rfl
  | cons a ls ih => simp [lay, ih]
theorem lay_up (ls ms : List Ly) (a : Ly) : (lay B (ls ++ a :: ms) R).le (a.on B (lay B (ls ++ ms) R)) := lay_perm (ms := a :: (ls ++ ms)) List.perm_middle
theorem lay_upg (ls ms gs : List Ly) : (lay B (ls ++ (gs ++ ms)) R).le (lay B gs (lay B (ls ++ ms) R)) := by
  rw [← lay_app]
  refine lay_perm ?_
  rw [← List.append_assoc, ← List.append_assoc]
  exact List.Perm.append_right ms List.perm_append_comm
theorem lay_downg (ls ms gs : List Ly) : (lay B gs (lay B (ls ++ ms) R)).le (lay B (ls ++ (gs ++ ms)) R) := by
  rw [← lay_app]
  refine lay_perm ?_
  rw [← List.append_assoc, ← List.append_assoc]
  exact List.Perm.append_right ms List.perm_append_comm
theorem Ly.drop : (a.on B R).le R := by
  cases a
  · exact Rest.boxLe
  · exact Rest.rowLe
theorem lay_drop (ls : List Ly) : (lay B ls R).le R := by
  induction ls with
  | nil => exact Rest.le.refl _
  | cons a ls ih => exact Ly.drop.trans ih
end
section
variable {α : Type} {B : Nat} {R : Rest} {f : α → List Ly}
def lays (f : α → List Ly) (L : List α) : List Ly := (L.map f).flatten
theorem lays_split {L : List α} {i : Nat} {x : α} (h : L[i]? = some x) : lays f L = lays f (L.take i) ++ (f x ++ lays f (L.drop (i + 1))) := by
  have hi := (List.getElem?_eq_some_iff.1 h).1
  have hx : L[i] = x := (List.getElem?_eq_some_iff.1 h).2
  have e : L = L.take i ++ x :: L.drop (i + 1) := by
    rw [← hx, List.getElem_cons_drop, List.take_append_drop]
  conv => lhs; rw [e]
  simp [lays]
theorem lays_set {L : List α} {i : Nat} (y : α) (h : i < L.length) : lays f (L.set i y) = lays f (L.take i) ++ (f y ++ lays f (L.drop (i + 1))) := by
  rw [List.set_eq_take_append_cons_drop, if_pos h]
  simp [lays]
theorem lays_snoc (L : List α) (x : α) : lays f (L ++ [x]) = lays f L ++ f x := by simp [lays]
end
end Go.Proofs.YtdfcfdcekdmcmaaGreat
namespace Go.Proofs.YtdfcfdcekdmcmaaGreat
open Go.RowKit
set_option linter.unusedVariables false
set_option linter.unusedSimpArgs false
theorem fl_at {α : Type} (f : α → List Value) (k : Nat) : ∀ (L : List α) (j : Nat) (x : α), (∀ x ∈ L, (f x).length = k) → L[j]? = some x → ∀ i, i < k → ((L.map f).flatten)[j * k + i]? = (f x)[i]?
  | [], j, x, _, hx, _, _ => by simp at hx
  | y :: L, 0, x, h, hx, i, hi => by
    simp only [List.getElem?_cons_zero, Option.some.injEq] at hx
    subst hx
    simp only [List.map_cons, List.flatten_cons, Nat.zero_mul, Nat.zero_add]
    rw [List.getElem?_append_left (by rw [h y (by simp)]; exact hi)]
  | y :: L, j + 1, x, h, hx, i, hi => by
    simp only [List.getElem?_cons_succ] at hx
    simp only [List.map_cons, List.flatten_cons]
    have hy := h y (by simp)
    rw [List.getElem?_append_right (by rw [hy, Nat.add_mul]; omega), hy, show (j + 1) * k + i - k = j * k + i by rw [Nat.add_mul]; omega]
    exact fl_at f k L j x (fun z hz => h z (List.mem_cons_of_mem _ hz)) hx i hi
theorem fl_set {α : Type} (f : α → List Value) (k : Nat) (y : α) (i : Nat) (u : Value) : ∀ (L : List α) (j : Nat) (x : α), (∀ x ∈ L, (f x).length = k) → L[j]? = some x → f y = (f x).set i u → i < k →
    ((L.map f).flatten).set (j * k + i) u = ((L.set j y).map f).flatten
  | [], j, x, _, hx, _, _ => by simp at hx
  | z :: L, 0, x, h, hx, hy, hi => by
    simp only [List.getElem?_cons_zero, Option.some.injEq] at hx
    subst hx
    have hz := h z (by simp)
    simp only [List.map_cons, List.flatten_cons, Nat.zero_mul, Nat.zero_add, List.set_cons_zero]
    rw [List.set_append_left _ _ (by omega), hy]
  | z :: L, j + 1, x, h, hx, hy, hi => by
    simp only [List.getElem?_cons_succ] at hx
    have hz := h z (by simp)
    have ih := fl_set f k y i u L j x (fun w hw => h w (List.mem_cons_of_mem _ hw)) hx hy hi
    simp only [List.map_cons, List.flatten_cons, List.set_cons_succ]
    rw [List.set_append_right _ _ (by rw [hz, Nat.add_mul]; omega), hz, show (j + 1) * k + i - k = j * k + i by rw [Nat.add_mul]; omega, ih]
theorem fl_range {w : World} {base k n cap b j : Nat} {e : TypeId} {α : Type} {f : α → List Value} {L : List α} {x : α} (h : w.ownsRow base e k (.slice (some ⟨b, 0, none⟩) n cap) n ((L.map f).flatten)) (hf : ∀ x ∈ L, (f x).length = k) (hx : L[j]? = some x) : w.rangeAt b (j * k) (f x) := by
  intro i v hv
  have hi : i < k := by
    rw [← hf x (List.mem_of_getElem? hx)]
    exact (List.getElem?_eq_some_iff.1 hv).1
  have := h.cells (g := b) rfl (j * k + i) v (by rw [fl_at f k L j x hf hx i hi]; exact hv)
  rwa [Addr.add_mid, Nat.zero_add] at this
structure Dr where
  k : Nat
  many : Bool
  c : Int
  p : Int
  sn : Int
  shown : List Int
  ws : List Int
  shv : Value
  slv : Value
  wv : Value
  sl : List Value
def Dr.cells (x : Dr) : List Value := [.int .i64 (two x.k), .bool x.many, .int .i64 x.c, .int .i64 x.p, .int .i64 x.sn, x.shv, x.slv, .slice none 0 0, x.wv]
theorem Dr.cells_len (x : Dr) : x.cells.length = 9 := rfl
def Dr.lys (x : Dr) : List Ly := [.row 2 1 x.shv x.shown.length (x.shown.map (Value.int .i64)), .row 86 2 x.slv (two x.k).toNat x.sl, .row 3 1 x.wv x.ws.length (x.ws.map (Value.int .i64))]
def ringsOf (L : List Dr) : List Value := (L.map Dr.cells).flatten
structure Dw where
  wb : Nat
  tb : Nat
  now : Int
  ms : List (Int × Int)
  xs : List Ac
  L : List Dr
  tv : Value
  v1 : Value
  v2 : Value
  v3 : Value
  rv : Value
def Dw.cells (d : Dw) : Array Value := #[.int .i64 d.now, d.tv, .pointer (some ⟨d.tb, 0, none⟩), .slice none 0 0, d.rv]
def Dw.head (d : Dw) : List Ly := [.box d.wb d.cells 120, .row 139 9 d.rv d.L.length (ringsOf d.L)]
def Dw.clock (d : Dw) : List Ly := [.row 237 2 d.tv d.ms.length (flat d.ms)]
def Dw.table (d : Dw) : List Ly := [.box d.tb #[d.v1, d.v2, d.v3] 113, .row 3 1 d.v1 d.xs.length (d.xs.map fun a => .int .i64 a.1), .row 4 1 d.v2 d.xs.length (d.xs.map fun a => .bool a.2.1), .row 3 1 d.v3 d.xs.length (d.xs.map fun a => .int .i64 a.2.2)]
def Dw.lys (d : Dw) : List Ly := d.head ++ (d.clock ++ (d.table ++ lays Dr.lys d.L))
end Go.Proofs.YtdfcfdcekdmcmaaGreat
namespace Go.Proofs.YtdfcfdcekdmcmaaGreat
open Go.RowKit
set_option linter.unusedVariables false
set_option linter.unusedSimpArgs false
def Ly.is (B : Nat) (w : World) : Ly → Prop
  | .box p cs T => w.heap[p]? = some (.cells cs T (0, 0))
  | .row T z v n xs => w.ownsRow B T z v n xs
theorem lay_is {B : Nat} {R : Rest} {w : World} {l : Ly} : ∀ {ls : List Ly}, (lay B ls R).inv w → l ∈ ls → l.is B w
  | [], _, h => by simp at h
  | a :: ls, hi, hl => by
    rcases List.mem_cons.1 hl with rfl | hl2
    · cases l
      · exact hi.2.1
      · exact hi.2.1
    · cases a
      · exact lay_is hi.1 hl2
      · exact lay_is hi.1 hl2
def Dm (R : Rest) (W0 w : World) (a : Nat) (cs : List Int) (st : Int) (d : Dw) : Prop := Mv (lay W0.heap.size d.lys R) W0 w a cs st
section
variable {R : Rest} {W0 W w : World} {a : Nat} {cs : List Int} {st : Int} {d : Dw} {i : Nat} {x : Dr}
theorem Dm.keep (h : Dm R W0 W a cs st d) (hb : Below W.heap.size W w) : Dm R W0 w a cs st d := Mv.keep h hb
theorem Dm.is (h : Dm R W0 W a cs st d) {l : Ly} (hl : l ∈ d.lys) : l.is W0.heap.size W := lay_is h.inv hl
theorem Dm.box (h : Dm R W0 W a cs st d) : W.heap[d.wb]? = some (.cells d.cells 120 (0, 0)) := h.is (l := .box d.wb d.cells 120) (by simp [Dw.lys, Dw.head])
theorem Dm.rings (h : Dm R W0 W a cs st d) : W.ownsRow W0.heap.size 139 9 d.rv d.L.length (ringsOf d.L) := h.is (l := .row 139 9 d.rv d.L.length (ringsOf d.L)) (by simp [Dw.lys, Dw.head])
theorem Dm.tbox (h : Dm R W0 W a cs st d) : W.heap[d.tb]? = some (.cells #[d.v1, d.v2, d.v3] 113 (0, 0)) := h.is (l := .box d.tb #[d.v1, d.v2, d.v3] 113) (by simp [Dw.lys, Dw.table])
theorem mem_lays {f : Dr → List Ly} {L : List Dr} (hx : L[i]? = some x) {l : Ly} (hl : l ∈ f x) : l ∈ lays f L := by
  unfold lays
  rw [List.mem_flatten]
  exact ⟨f x, List.mem_map.2 ⟨x, List.mem_of_getElem? hx, rfl⟩, hl⟩
theorem Dm.sh (h : Dm R W0 W a cs st d) (hx : d.L[i]? = some x) : W.ownsRow W0.heap.size 2 1 x.shv x.shown.length (x.shown.map (Value.int .i64)) := h.is (l := .row 2 1 x.shv x.shown.length (x.shown.map (Value.int .i64))) (by
  have := mem_lays (f := Dr.lys) hx (l := .row 2 1 x.shv x.shown.length (x.shown.map (Value.int .i64))) (by simp [Dr.lys])
  simp only [Dw.lys, List.mem_append]
  exact .inr (.inr (.inr this)))
theorem Dm.wt (h : Dm R W0 W a cs st d) (hx : d.L[i]? = some x) : W.ownsRow W0.heap.size 3 1 x.wv x.ws.length (x.ws.map (Value.int .i64)) := h.is (l := .row 3 1 x.wv x.ws.length (x.ws.map (Value.int .i64))) (by
  have := mem_lays (f := Dr.lys) hx (l := .row 3 1 x.wv x.ws.length (x.ws.map (Value.int .i64))) (by simp [Dr.lys])
  simp only [Dw.lys, List.mem_append]
  exact .inr (.inr (.inr this)))
theorem Dm.at (h : Dm R W0 W a cs st d) (hx : d.L[i]? = some x) : ∃ rb cap, d.rv = .slice (some ⟨rb, 0, none⟩) d.L.length cap ∧ (∀ j v, x.cells[j]? = some v → W.cell? ⟨rb, i * 9 + j, none⟩ = some v) ∧ ∀ j, W.frozen? ⟨rb, j, none⟩ = false := by
  have hi : i < d.L.length := (List.getElem?_eq_some_iff.1 hx).1
  have hr := h.rings
  rcases hr.2 with ⟨_, h0⟩ | ⟨g, cap, cur, hv, _⟩
  · omega
  · rw [hv] at hr
    refine ⟨g, cap, hv, fun j v hj => ?_, fun j => hr.frozenAt j⟩
    have hj9 : j < 9 := by
      have := (List.getElem?_eq_some_iff.1 hj).1
      rwa [Dr.cells_len] at this
    have e := fl_at Dr.cells 9 d.L i x (fun x _ => rfl) hx j hj9
    rw [hr.cellAt (i * 9 + j) (by have : (i + 1) * 9 ≤ d.L.length * 9 := Nat.mul_le_mul_right 9 hi; omega)]
    exact e.trans hj
theorem dcursor (h : Dm R W0 W a cs st d) (hx : d.L[i]? = some x) (hl : d.L.length ≤ 8) :
    Calls Tryz.prog 68 #[.pointer (some ⟨d.wb, 0, none⟩), .int .i64 i] W fun e w' => e = .returned (.int .i64 (if x.many = true then x.c else x.p)) ∧ W = w' := by
  obtain ⟨rb, cap, hv, hc, -⟩ := h.at hx
  have hi : i < d.L.length := (List.getElem?_eq_some_iff.1 hx).1
  have k4 : W.cell? ⟨d.wb, 4, none⟩ = some (.slice (some ⟨rb, 0, none⟩) d.L.length cap) := (obj_cell h.box 4).trans (by simp [Dw.cells, hv])
  have r1 := hc 1 _ rfl
  have r2 := hc 2 _ rfl
  have r3 := hc 3 _ rfl
  have b0 : (0 : Int) ≤ (i : Int) := by omega
  have b1 : (i : Int) < (d.L.length : Int) := by omega
  generalize d.L.length = n at *
  generalize d.wb = wb at *
  generalize x.c = xc at *
  generalize x.p = xp at *
  clear h hx hc hv hi
  cases hm : x.many with
  | false =>
    rw [hm] at r1
    clear hm r2
    go_enter Tryz.func68, Tryz.ntmps68
    go_wp2
    go_ret
    exact ⟨rfl, rfl⟩
  | true =>
    rw [hm] at r1
    clear hm r3
    go_enter Tryz.func68, Tryz.ntmps68
    go_wp2
    go_ret
    exact ⟨rfl, rfl⟩
theorem Mv.rowSet {T : TypeId} {z n g cap : Nat} {xs : List Value} (h : Mv (R.row W0.heap.size T z (.slice (some ⟨g, 0, none⟩) n cap) n xs) W0 W a cs st) (j : Nat) (u : Value) :
    Mv (R.row W0.heap.size T z (.slice (some ⟨g, 0, none⟩) n cap) n (xs.set j u)) W0 (W.setCell ⟨g, j, none⟩ u) a cs st := by
  have hr := h.inv.2.1
  have hg : (Value.slice (some ⟨g, 0, none⟩) n cap).ownBlock = some g := by simp [Value.ownBlock]
  have hf : Frm (fun k => k = g) W (W.setCell ⟨g, j, none⟩ u) := (Frm.refl (fun k => k = g) W).setCell (p := ⟨g, j, none⟩) rfl u
  refine h.turn2 hf (fun k hk => ?_) (fun k hk => .inl hk) ⟨R.ok _ _ h.inv.1 fun k hk => hf.block k (h.prot_lt (.inl hk)) fun e => h.inv.2.2 k hk (e ▸ hg), (hr.stored j u).1, h.inv.2.2⟩
  subst hk
  exact ⟨(hr.lt _ hg).1, .inr hg⟩
theorem lays_same {f : Dr → List Ly} {L : List Dr} {y : Dr} (hx : L[i]? = some x) (hy : f y = f x) : lays f (L.set i y) = lays f L := by
  rw [lays_set y (List.getElem?_eq_some_iff.1 hx).1, lays_split hx, hy]
theorem Dm.set (h : Dm R W0 W a cs st d) (hx : d.L[i]? = some x) {rb cap j : Nat} {u : Value} {y : Dr} (hv : d.rv = .slice (some ⟨rb, 0, none⟩) d.L.length cap) (hj : j < 9) (hy : y.cells = x.cells.set j u) (hl : y.lys = x.lys) :
    Dm R W0 (W.setCell ⟨rb, i * 9 + j, none⟩ u) a cs st { d with L := d.L.set i y } := by
  have h1 : Mv (lay W0.heap.size (.box d.wb d.cells 120 :: .row 139 9 d.rv d.L.length (ringsOf d.L) :: (d.clock ++ (d.table ++ lays Dr.lys d.L))) R) W0 W a cs st := h
  have h2 : Mv ((lay W0.heap.size (.box d.wb d.cells 120 :: (d.clock ++ (d.table ++ lays Dr.lys d.L))) R).row W0.heap.size 139 9 d.rv d.L.length (ringsOf d.L)) W0 W a cs st := Mv.le h1 (lay_perm (List.Perm.swap _ _ _))
  rw [hv] at h2
  have h3 := Mv.rowSet h2 (i * 9 + j) u
  rw [show (ringsOf d.L).set (i * 9 + j) u = ringsOf (d.L.set i y) from fl_set Dr.cells 9 y j u d.L i x (fun x _ => rfl) hx hy hj, ← hv] at h3
  have h4 := Mv.le h3 (lay_perm (R := R) (ls := .row 139 9 d.rv d.L.length (ringsOf (d.L.set i y)) :: .box d.wb d.cells 120 :: (d.clock ++ (d.table ++ lays Dr.lys d.L))) (List.Perm.swap _ _ _))
  rw [← lays_same (f := Dr.lys) hx hl] at h4
  show Mv (lay W0.heap.size (.box d.wb d.cells 120 :: .row 139 9 d.rv (d.L.set i y).length (ringsOf (d.L.set i y)) :: (d.clock ++ (d.table ++ lays Dr.lys (d.L.set i y)))) R) W0 _ a cs st
  rw [List.length_set]
  exact h4
theorem rings_same {L : List Dr} {y : Dr} (hx : L[i]? = some x) (hy : y.cells = x.cells) : ringsOf (L.set i y) = ringsOf L := by
  unfold ringsOf
  congr 1
  apply List.ext_getElem?
  intro k
  simp only [List.getElem?_map]
  by_cases e : i = k
  · subst e
    rw [List.getElem?_set_self (List.getElem?_eq_some_iff.1 hx).1, hx]
    simp [hy]
  · rw [List.getElem?_set_ne e]
theorem Dm.turn (h : Dm R W0 W a cs st d) (hx : d.L[i]? = some x) {y : Dr} (hy : y.cells = x.cells) (ht : ∀ R' : Rest, Mv (lay W0.heap.size x.lys R') W0 W a cs st → Mv (lay W0.heap.size y.lys R') W0 w a cs st) :
    Dm R W0 w a cs st { d with L := d.L.set i y } := by
  have hi := (List.getElem?_eq_some_iff.1 hx).1
  have e1 : d.lys = (d.head ++ (d.clock ++ (d.table ++ lays Dr.lys (d.L.take i)))) ++ (x.lys ++ lays Dr.lys (d.L.drop (i + 1))) := by
    unfold Dw.lys
    rw [lays_split hx]
    simp [List.append_assoc]
  have h1 : Mv (lay W0.heap.size d.lys R) W0 W a cs st := h
  rw [e1] at h1
  have h2 := ht _ (Mv.le h1 (lay_upg _ _ _))
  have h3 := Mv.le h2 (lay_downg _ _ _)
  have e2 : ({ d with L := d.L.set i y } : Dw).lys = (d.head ++ (d.clock ++ (d.table ++ lays Dr.lys (d.L.take i)))) ++ (y.lys ++ lays Dr.lys (d.L.drop (i + 1))) := by
    unfold Dw.lys
    simp only [Dw.clock, Dw.table, Dw.head]
    rw [lays_set y hi, rings_same hx hy, List.length_set]
    simp [List.append_assoc, Dw.cells]
  unfold Dm
  rw [e2]
  exact h3
end
end Go.Proofs.YtdfcfdcekdmcmaaGreat
