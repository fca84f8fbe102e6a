/-
  Add of package graph, whatever is handed in, by contract. Conditions: a graph in which nobody is behind itself; at most 100 names.
-/
import Derived.Test.YtggjimeligbmcabGr14
namespace Go.Proofs.Ytggjimeligbmcab
open Go.RowKit
set_option linter.unusedVariables false

theorem getD_mem {l : List Int} {j : Nat} (h : j < l.length) : l.getD j 0 ∈ l := by
  rw [List.getD_eq_getElem?_getD, List.getElem?_eq_getElem h]
  exact List.getElem_mem _
theorem takeI {l : List Int} {n : Nat} (h : n < l.length) : l.take (n + 1) = l.take n ++ [l.getD n 0] := by
  rw [List.take_add_one, List.getD_eq_getElem?_getD]
  simp [h]
theorem dropI {l : List Int} {n : Nat} (h : n < l.length) : l.drop n = l.getD n 0 :: l.drop (n + 1) := by
  rw [List.drop_eq_getElem_cons h]
  simp [h]
/-- The new node's number; 0 where there is none. -/
def addNo (G : List Nd) (l : List Int) : Int := if addBadG G l = 0 then (G.length : Int) else 0
/-- Marks of names. -/
def namB (l : List Int) : Nat → Bool := fun x => l.contains (x : Int)
theorem namB_snoc (l : List Int) (n : Nat) : upd (namB l) n = namB (l ++ [(n : Int)]) := by
  funext y
  unfold upd namB
  rw [Bool.eq_iff_iff]
  by_cases e : y = n
  · simp [e]
  · have : ¬ (y : Int) = n := fun h => e (Int.ofNat_inj.1 h)
    simp [e, this]
structure AddS (G : List Nd) (W w : World) (mb : Nat) (l : List Int) (j : Nat) : Prop where
  m : Mk w mb (namB (l.take j))
  b : Below W.heap.size W w
  lo : W.heap.size ≤ mb
  e : nmBad G [] l = nmBad G (l.take j) (l.drop j)
theorem place_info : (Try.prog.info? 70).map (fun i => (i.zero.map (·.cells.size), i.size, i.bytes)) = some (some 2, 2, 32) := by kernel_rfl
theorem info_parts3 {P : Program} {e : TypeId} {a b c : Nat} (h : (P.info? e).map (fun i => (i.zero.map (·.cells.size), i.size, i.bytes)) = some (some a, b, c)) : ∃ i z, P.info? e = some i ∧ i.zero = some z ∧ z.cells.size = a ∧ i.size = b ∧ i.bytes = c := by
  cases hi : P.info? e with
  | none => simp [hi] at h
  | some i =>
    simp only [hi, Option.map_some, Option.some.injEq, Prod.mk.injEq] at h
    obtain ⟨h1, h2, h3⟩ := h
    obtain ⟨z, hz, h4⟩ := Option.map_eq_some_iff.1 h1
    exact ⟨i, z, rfl, hz, h4, h2, h3⟩
theorem two_cell (w : World) (x y : Value) (t : TypeId) : ∀ j u, [x, y][j]? = some u → (w.alloc (.cells #[x, y] t)).cell? ((⟨w.heap.size, 0, none⟩ : Addr).add j) = some u := by
  intro j u hj
  have hj0 : j < 2 := (List.getElem?_eq_some_iff.1 hj).1
  rw [Addr.add_mid, obj_cell (obj_new _ _)]
  rcases j with _ | _ | j
  · exact hj
  · exact hj
  · omega
theorem row_alloc4 {B : Nat} {w w4 : World} {e : TypeId} {size n : Nat} {v : Value} {xs : List Value} (h : w.ownsRow B e size v n xs) (hb : Below w.heap.size w w4) (o : Obj) : (w4.alloc o).ownsRow B e size v n xs :=
  (Frm.of_below (balloc hb o) fun _ => False).row h fun _ _ h => h
section
variable {B : Nat} {W w w' : World} {g : Nat} {G : List Nd} {N : List (Bool × Value)} {vn v : Value} {l : List Int}
def ldP : Op := .load 61 (.tmp 49)
attribute [local go_sem ↓] Go.wp_at_zero Go.wp_at_succ ldP
set_option maxRecDepth 100000 in
set_option maxHeartbeats 4000000 in
theorem gadd (h : Gw B W g G N vn) (hG : GOk G) (hB : B ≤ W.heap.size) (hl : IntsAt W v l) (h100 : l.length ≤ 100) :
    Calls Try.prog 12 #[.pointer (some ⟨g, 0, none⟩), v] W fun e w' => ∃ E, e = .returned (.tuple #[.int .i64 (addNo G l), E]) ∧ ErrIs w' E (addBadG G l) ∧ Gs B W w' g G N vn (addN G l) := by
  obtain ⟨pn, c, q, hvn, hg⟩ := h.gr
  have hlen := hG.len
  have c0 := hg.c0
  have HH := Lib.hid hg
  have HW := Lib.hid h
  have HG := Lib.hid hG
  have HL := Lib.hid hl
  have HBW := Lib.hid hB
  have HBAD : Hid (∀ n : Int, n ≠ 0 → addBadG G l = n → ∀ w E, Refused W w E n → ErrIs w E (addBadG G l) ∧ Gs B W w g G N vn (addN G l) ∧ (addNo G l) = 0) := Lib.hid fun n hn he w E hr => by
    refine ⟨he ▸ .of hr hn, ?_, by unfold addNo; rw [if_neg (by rw [he]; exact hn)]⟩
    unfold addN
    rw [if_neg (by rw [he]; exact hn)]
    exact .of_below h hr.below
  obtain ⟨pl, cl, rfl, hlc⟩ := hl
  have HLC := Lib.hid hlc
  clear h hG hg hB hlc
  by_cases h64 : 64 ≤ G.length
  · have d1 : decide ((64 : Int) ≤ (G.length : Int)) = true := decide_eq_true (by omega)
    have HE : Hid (addBadG G l = 8) := Lib.hid (by unfold addBadG; rw [if_pos h64])
    go_enter Try.func12, Try.ntmps12
    go_wp2_with (go_at_call 35; refine (wrap_iface _ _ _ _).mono ?_; rintro e w' ⟨rfl, hw⟩; have HR := Lib.hid (refused_of hw); clear hw)
    go_ret2
    obtain ⟨a1, a2, a3⟩ := HBAD.out 8 (by decide) HE.out _ _ HR.out
    rw [a3]
    exact ⟨_, rfl, a1, a2⟩
  · have d1 : decide ((64 : Int) ≤ (G.length : Int)) = false := decide_eq_false (by omega)
    have HEN : Hid (addBadG G l = nmBad G [] l) := Lib.hid (by unfold addBadG; rw [if_neg h64])
    go_enter Try.func12, Try.ntmps12
    go_wp2_with (refine wpList_alloc_marks 7 rfl rfl rfl ?_; intro w1 hm1 hb1 hs1; have HM1 := Lib.hid hm1; have HB1 := Lib.hid hb1; clear hm1 hb1 hs1; simp only [Act.put, List.setIfInBounds_toArray, List.set_cons_zero, List.set_cons_succ])
    have HS0 : Hid (∃ mb, mb = W.heap.size ∧ AddS G W w1 mb l 0) := Lib.hid ⟨_, rfl, HM1.out, HB1.out, Nat.le_refl _, rfl⟩
    obtain ⟨mb, emb, hs0⟩ := HS0.out
    have HS0 := Lib.hid hs0
    rw [← emb]
    clear hs0 emb HM1 HB1 c0
    go_loopw [26] (fun iv wl => ∃ j : Nat, j ≤ l.length ∧ iv = .int .i64 j ∧ Hid (AddS G W wl mb l j)) (fun iv _ => l.length - (intOf iv).toNat)
    case atStart => exact ⟨0, Nat.zero_le _, rfl, HS0⟩
    case round =>
      clear HS0
      obtain ⟨j, hj, rfl, HS⟩ := hrel
      have HK := Lib.hid (HH.out.keep HS.out.b)
      by_cases hlt : j < l.length
      · obtain ⟨b, off, rfl, hc⟩ := HLC.out.resolve_left (by omega)
        have cj := keepc HS.out.b (hc j hlt)
        have HD : Hid (l.drop j = l.getD j 0 :: l.drop (j + 1)) := Lib.hid (dropI hlt)
        have HT : Hid (l.take (j + 1) = l.take j ++ [l.getD j 0]) := Lib.hid (takeI hlt)
        clear hc
        generalize l.getD j 0 = x at *
        cases hh : hasI G x with
        | false =>
          have HHI := Lib.hid hh
          have HE : Hid (addBadG G l = 3) := Lib.hid (by rw [HEN.out, HS.out.e, HD.out, nm_none hh])
          clear hh
          go_wp2_with (first
            | (go_at_call 22; refine (ghas_some HK.out _).mono ?_; rintro e w1 ⟨rfl, rfl⟩; rw [HHI.out])
            | (go_at_call 35; refine (wrap_iface _ _ _ _).mono ?_; rintro e w' ⟨rfl, hw⟩; have HR := Lib.hid (bad_wrap HS.out.b hw); clear hw))
          go_ret2
          obtain ⟨a1, a2, a3⟩ := HBAD.out 3 (by decide) HE.out _ _ HR.out
          rw [a3]
          exact ⟨_, rfl, a1, a2⟩
        | true =>
          have HHI := Lib.hid hh
          obtain ⟨k, rfl, hk⟩ := hasI_yes hh
          have hk64 : k < 64 := by have := has_lt hk; omega
          have cm := HS.out.m.cell hk64
          have fm := HS.out.m.free k
          cases hm : namB (l.take j) k with
          | true =>
            rw [hm] at cm
            have HE : Hid (addBadG G l = 4) := Lib.hid (by
              rw [HEN.out, HS.out.e, HD.out]
              exact nm_there hh (List.contains_iff_mem.1 hm))
            clear hh hm hk
            go_wp2_with (first
              | (go_at_call 22; refine (ghas_some HK.out _).mono ?_; rintro e w1 ⟨rfl, rfl⟩; rw [HHI.out])
              | (go_at_call 35; refine (wrap_iface _ _ _ _).mono ?_; rintro e w' ⟨rfl, hw⟩; have HR := Lib.hid (bad_wrap HS.out.b hw); clear hw))
            go_ret2
            obtain ⟨a1, a2, a3⟩ := HBAD.out 4 (by decide) HE.out _ _ HR.out
            rw [a3]
            exact ⟨_, rfl, a1, a2⟩
          | false =>
            rw [hm] at cm
            have HX : Hid (AddS G W (wr.setCell ⟨mb, k, none⟩ (.bool true)) mb l (j + 1)) := Lib.hid (by
              refine ⟨?_, HS.out.b.setCell HS.out.lo _, HS.out.lo, ?_⟩
              · rw [HT.out, ← namB_snoc]
                exact HS.out.m.set hk64
              · rw [HS.out.e, HD.out, HT.out]
                refine nm_cons hh fun hx => ?_
                have : namB (l.take j) k = true := List.contains_iff_mem.2 hx
                rw [hm] at this
                cases this)
            clear hh hm hk
            go_wp2_with (first
              | (go_at_call 22; refine (ghas_some HK.out _).mono ?_; rintro e w1 ⟨rfl, rfl⟩; rw [HHI.out]))
            exact ⟨⟨j + 1, by omega, by go_num, HX⟩, by simp [intOf]; omega⟩
      · obtain rfl : j = l.length := by omega
        have HE : Hid (addBadG G l = 0) := Lib.hid (by rw [HEN.out, HS.out.e, List.drop_length]; rfl)
        have c0 := HK.out.c0
        go_upto_region 16 with fail
        have HBX := Lib.hid HS.out.b
        have HWX := Lib.hid (HW.out.keep HS.out.b)
        have HCN : Hid (IntsN wr (.slice pl l.length cl) (l.map Int.toNat)) := Lib.hid ((HL.out.keep HS.out.b).nat (add_parts HE.out).2.2.2)
        have HML : Hid ((l.map Int.toNat).length = l.length ∧ (l.map Int.toNat).length ≤ 64) := Lib.hid (by
          refine ⟨by simp, ?_⟩
          have := List.Nodup.length_le_of_subset (add_parts HE.out).2.2.1 (l₂ := List.range G.length) (fun a ha => List.mem_range.2 (has_lt ((add_parts HE.out).2.1 a ha)))
          simp at this ⊢
          omega)
        have HAN : Hid (addN G l = addG G (l.map Int.toNat)) := Lib.hid (by unfold addN; rw [if_pos HE.out])
        have HNO : Hid (addNo G l = G.length) := Lib.hid (by unfold addNo; rw [if_pos HE.out])
        have HMB : Hid (vn.ownBlock ≠ some mb) := Lib.hid (row_ne HWX.out.row HS.out.m (by decide))
        have HBK := Lib.hid HWX.out.blk
        have HMG : Hid (mb ≠ g) := Lib.hid (obj_ne HS.out.m HWX.out.blk (by decide))
        have HGB : Hid (vn.ownBlock ≠ some g) := Lib.hid (row_ne HWX.out.row HWX.out.blk (by decide))
        have HFIN : Hid (∀ (w4 w6 : World) (v4 v' : Value), wr.heap.size ≤ w4.heap.size → w4.ownsRow wr.heap.size 3 1 v4 (l.map Int.toNat).length (ints (l.map Int.toNat)) → Below wr.heap.size wr w4 → w6.ownsRow 0 70 2 v' (G.length + 1) (fl2 N ++ [.bool false, v4]) → Frm (fun k => vn.ownBlock = some k) w4 w6 → (v'.ownBlock = vn.ownBlock ∨ ∀ k, v'.ownBlock = some k → w4.heap.size ≤ k) → Gs B W (w6.setCell ⟨g, 0, none⟩ v') g G N vn (addN G l)) := Lib.hid fun w4 w6 v4 v' _ a1 a2 a3 a4 a5 => by
          rw [HAN.out]
          exact Gs.after HW.out HBX.out (HWX.out.add_at (Nat.le_trans HBW.out HBX.out.size) a1 a2 a3 a4 a5)
        obtain ⟨i0, z0, hi, hz0, hzs, hz1, hz2⟩ := info_parts3 place_info
        have HZ := Lib.hid hz0
        have HZS := Lib.hid hzs
        have HROW := Lib.hid HWX.out.row
        have fr0 := obj_free HWX.out.blk 0
        have hgl : G.length ≤ 64 := hlen
        subst hvn
        have kd0 : wr.drew.cell? ⟨g, 0, none⟩ = _ := c0
        have kdm : wr.cell? ⟨mb, 0, none⟩ = some (.bool (namB (l.take l.length) 0)) := HS.out.m.cell (by decide)
        generalize namB (l.take l.length) 0 = bm at *
        have kdd : wr.drew.cell? ⟨mb, 0, none⟩ = _ := kdm
        have nn : ∀ o, (wr.alloc o).cell? ⟨g, 0, none⟩ = _ := fun o => keepc (balloc (Below.refl _ _) o) c0
        clear HS HK HH HW HL HLC HBAD hz0 hzs
        rw [show (Op.load 61 (.tmp 49) : Op) = ldP from rfl]
        go_region_held3 (fun w' => w'.cell? ⟨mb, 0, none⟩ = some (.bool bm)) (first | assumption | exact jm6 _ | exact keepc (balloc (Below.refl _ _) _) (by assumption) | go_simp) (first
          | (go_at_call 36; refine (clone_n (w := wr.drew) HCN.out HML.out.2).mono ?_; rintro e w4 ⟨v4, rfl, hr, hb⟩; have HB4 : Hid (Below wr.heap.size wr w4) := Lib.hid ⟨hb.os, hb.tape, hb.output, hb.size, hb.block⟩; have HR4 := Lib.hid hr; have kg := keepc HB4.out kd0; have km := keepc HB4.out kdd; have nn4 : ∀ o, (w4.alloc o).cell? ⟨g, 0, none⟩ = _ := (fun o => keepc (balloc (Below.refl _ _) o) kg); have nm4 : ∀ o, (w4.alloc o).cell? ⟨mb, 0, none⟩ = _ := (fun o => keepc (balloc (Below.refl _ _) o) km); obtain ⟨p4, c4, hv4, -⟩ := row_form HR4.out; rw [HML.out.1] at hv4; subst hv4; clear hr hb)
          | (refine step_append_row (by rfl) (.tmp 50) (.tmp 54) 61 (by rfl) 70 i0 z0 2 32 Try.underlying61 hi HZ.out hz1 hz2 HZS.out (by decide) (.slice pn G.length c) G.length _ (by rfl) (row_base (row_alloc4 HROW.out HB4.out _) (Nat.zero_le _)) ⟨_, 0, none⟩ 1 1 [.bool false, .slice p4 l.length c4] (by rfl) (by rfl) (two_cell _ _ _ _) (fun x hx => by simp at hx; rcases hx with rfl | rfl <;> rfl) (by unfold maxLen; omega) (by omega) ?_; intro v' w6 hown hf hv; have hf2 : Frm (fun k => (Value.slice pn G.length c).ownBlock = some k) w4 w6 := ((Frm.refl _ w4).alloc _).trans ⟨hf.os, hf.tape, hf.output, hf.size, hf.block⟩; have HF := Lib.hid (HFIN.out w4 w6 _ v' HB4.out.size HR4.out HB4.out hown hf2 (hv.imp id fun hv k hk => Nat.le_trans (by simp) (hv k hk))); have j0 := hf2.cell kg HGB.out; have jm := hf2.cell km HMB.out; have jm6 : ∀ u, (w6.setCell ⟨g, 0, none⟩ u).cell? ⟨mb, 0, none⟩ = some (.bool bm) := (fun u => ((Frm.refl (fun k => k = g) w6).setCell (p := ⟨g, 0, none⟩) rfl u).cell jm HMG.out); have j2 : w6.frozen? ⟨g, 0, none⟩ = false := obj_free (hf2.obj ((HB4.out.block _ (lt_of_block HBK.out)).trans HBK.out) HGB.out) _; obtain ⟨p6, c6, rfl, -⟩ := row_form hown; clear hown hf hv hf2))
        all_goals
          go_wp2
          go_ret2
          exact ⟨_, by rw [HNO.out]; rfl, by rw [HE.out]; exact .none _, HF.out⟩
end
end Go.Proofs.Ytggjimeligbmcab
