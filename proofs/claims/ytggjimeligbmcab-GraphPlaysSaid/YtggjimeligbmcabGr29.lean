/-
  The document's Add of layer 13, walked. Conditions: a graph in which nobody is behind itself; at most 100 names.
-/
import Derived.Test.YtggjimeligbmcabGr28
namespace Go.Proofs.Ytggjimeligbmcab
open Go.RowKit
set_option linter.unusedVariables false

theorem newcell {w : World} {x : Value} {t : TypeId} {g : Nat} (h : g = w.heap.size) : (w.alloc (.cells #[x] t)).cell? ⟨g, 0, none⟩ = some x := by
  subst h
  exact (obj_cell (obj_new w (.cells #[x] t)) 0).trans rfl
theorem newcell2 {w : World} {x : Value} {t : TypeId} {g : Nat} {o : Obj} (h : g = w.heap.size) : ((w.alloc (.cells #[x] t)).alloc o).cell? ⟨g, 0, none⟩ = some x :=
  keepc (balloc (Below.refl _ _) o) (newcell h)
theorem news1 {w : World} {g : Nat} {x : Value} (h : w.cell? ⟨g, 0, none⟩ = some x) : ∀ j u, [x][j]? = some u → w.cell? ((⟨g, 0, none⟩ : Addr).add j) = some u := by
  intro j u hj
  have hj0 : j < 1 := (List.getElem?_eq_some_iff.1 hj).1
  obtain rfl : j = 0 := by omega
  rw [Addr.add_mid, h]
  exact hj
theorem infoL : (Try.prog.info? 31).map (fun i => (i.zero, i.size, i.bytes)) = some (some (.slice none 0 0), 1, 24) := by kernel_rfl
theorem infoB : (Try.prog.info? 4).map (fun i => (i.zero, i.size, i.bytes)) = some (some (.bool false), 1, 1) := by kernel_rfl
/-- Both rows, appended to or not. -/
structure A2 (w0 w : World) (va vg va' : Value) (na : Nat) (xa : List Value) (vg' : Value) (ng : Nat) (xg : List Value) : Prop where
  ra : w.ownsRow 0 31 1 va' na xa
  rg : w.ownsRow 0 4 1 vg' ng xg
  fr : Frm (fun k => va.ownBlock = some k ∨ vg.ownBlock = some k) w0 w
  ha : va'.ownBlock = va.ownBlock ∨ ∀ k, va'.ownBlock = some k → w0.heap.size ≤ k
  hg : vg'.ownBlock = vg.ownBlock ∨ ∀ k, vg'.ownBlock = some k → w0.heap.size ≤ k
section
variable {w0 w w' w6 : World} {va vg va' vg' v' x : Value} {na ng : Nat} {xa xg : List Value}
theorem A2.keep (h : A2 w0 w va vg va' na xa vg' ng xg) (hb : Below w.heap.size w w') : A2 w0 w' va vg va' na xa vg' ng xg :=
  ⟨(Frm.of_below hb fun _ => False).row h.ra fun _ _ h => h, (Frm.of_below hb fun _ => False).row h.rg fun _ _ h => h, h.fr.then (Frm.of_below hb fun _ => False) fun _ _ h => h.elim, h.ha, h.hg⟩
theorem A2.appA (h : A2 w0 w va vg va' na xa vg' ng xg) (hown : w6.ownsRow 0 31 1 v' (na + 1) (xa ++ [x])) (hf : Frm (fun k => va'.ownBlock = some k) w w6) (hv : v'.ownBlock = va'.ownBlock ∨ ∀ g, v'.ownBlock = some g → w.heap.size ≤ g) :
    A2 w0 w6 va vg v' (na + 1) (xa ++ [x]) vg' ng xg := by
  have hs := h.fr.size
  refine ⟨hown, hf.row h.rg fun k hk e => row_t_ne h.ra h.rg (by decide) e hk, h.fr.then hf fun k hk e => ?_, ?_, h.hg⟩
  · rcases h.ha with h1 | h1
    · exact .inl (h1 ▸ e)
    · have := h1 k e; omega
  · rcases hv with h1 | h1
    · rw [h1]; exact h.ha
    · exact .inr fun k hk => by have := h1 k hk; omega
theorem A2.appG (h : A2 w0 w va vg va' na xa vg' ng xg) (hown : w6.ownsRow 0 4 1 v' (ng + 1) (xg ++ [x])) (hf : Frm (fun k => vg'.ownBlock = some k) w w6) (hv : v'.ownBlock = vg'.ownBlock ∨ ∀ g, v'.ownBlock = some g → w.heap.size ≤ g) :
    A2 w0 w6 va vg va' na xa v' (ng + 1) (xg ++ [x]) := by
  have hs := h.fr.size
  refine ⟨hf.row h.ra fun k hk e => row_t_ne h.ra h.rg (by decide) hk e, hown, h.fr.then hf fun k hk e => ?_, h.ha, ?_⟩
  · rcases h.hg with h1 | h1
    · exact .inr (h1 ▸ e)
    · have := h1 k e; omega
  · rcases hv with h1 | h1
    · rw [h1]; exact h.hg
    · exact .inr fun k hk => by have := h1 k hk; omega
end
theorem Rz.add_end {B : Nat} {W w2 w6 y : World} {va vg va' vg' v4 : Value} {G : List Nd} {N : List Value} {l : List Nat} (h : Rw B W va vg G N) (hB : B ≤ W.heap.size) (hb : Below W.heap.size W w2) (hlt : W.heap.size + 1 < w2.heap.size) (hc : w2.ownsRow 0 3 1 v4 l.length (ints l)) (hv4 : ∀ k, v4.ownBlock = some k → W.heap.size + 2 ≤ k)
    (hs : A2 w2 w6 va vg va' (G.length + 1) (N ++ [v4]) vg' (G.length + 1) (gonesV G ++ [.bool false])) (hf : Frm (fun k => k = W.heap.size + 1) w6 y) : Rz B W y va vg N va' vg' (addG G l) := by
  have hb2 := hb.size
  have h2 := h.keep hb
  obtain ⟨h3, h4⟩ := h2.add_at (Nat.le_trans hB hb2) hc (fun k hk => ⟨by have := hv4 k hk; omega, fun e => by have := hv4 k hk; have := (h.own_lt e).2; omega⟩) hs.ra hs.rg hs.fr hs.ha hs.hg
  refine ⟨⟨_, h3.frm hf fun k hk e => ?_, fun k hk => ?_⟩, ((Frm.of_below hb _).then hs.fr fun k _ hk => hk.elim .inl fun e => .inr (.inl e)).then hf fun k hk e => by omega⟩
  · rcases h4 k hk with h5 | h5 | h5
    · have := (h.own_lt h5).2; omega
    · have := hv4 k h5; omega
    · omega
  · rcases h4 k hk with h5 | h5 | h5
    · exact .inl h5
    · exact .inr (by have := hv4 k h5; omega)
    · exact .inr (by omega)
section
variable {B : Nat} {W w w' : World} {va vg v : Value} {G : List Nd} {N : List Value} {l : List Int}
set_option maxRecDepth 100000 in
set_option maxHeartbeats 4000000 in
theorem radd (h : Rw B W va vg G N) (hG : GOk G) (hB : B ≤ W.heap.size) (hl : IntsAt W v l) (hcap : CapOk v l) (h100 : l.length ≤ 100) :
    Calls Try.prog 13 #[.agg #[va, vg], v] W fun e w' => ∃ va' vg', e = .returned (.tuple #[.agg #[va', vg'], .int .i64 (addBadG G l)]) ∧ Rz B W w' va vg N va' vg' (addN G l) := by
  obtain ⟨qa, qg, hr⟩ := h.rr
  have HH := Lib.hid hr
  have HW := Lib.hid h
  have HG := Lib.hid hG
  have hlen := hG.len
  have HL := Lib.hid hl
  have HBW := Lib.hid hB
  have HX := Lib.hid (Bx.start W va vg)
  have HBAD : Hid (∀ n : Int, n ≠ 0 → addBadG G l = n → ∀ w, Below W.heap.size W w → Rz B W w va vg N va vg (addN G l)) := Lib.hid fun n hn he w hb => by
    unfold addN
    rw [if_neg (by rw [he]; exact hn)]
    exact .of_below h hb
  obtain ⟨pa, ca, rfl, ha⟩ := hr.a
  obtain ⟨pg, cg, rfl, hg⟩ := hr.g
  obtain ⟨pl, cl, rfl, hlc⟩ := hl
  obtain ⟨pl', cl', ecl, hlcap⟩ := hcap
  simp only [Value.slice.injEq] at ecl
  obtain ⟨rfl, -, rfl⟩ := ecl
  have HLC := Lib.hid hlc
  clear h hG hr ha hg hB hlc
  go_enter Try.func13, Try.ntmps13
  go_upto_region 1 with fail
  generalize (W.alloc (.cells #[.slice pa G.length ca, .slice pg G.length cg] 30)).alloc (.cells #[.slice none 0 0, .slice none 0 0] 30) = w1 at *
  have b0 : w1.cell? ⟨W.heap.size, 0, none⟩ = some (.slice pa G.length ca) := (obj_cell HX.out.b 0).trans rfl
  have b1 : w1.cell? ⟨W.heap.size, 1, none⟩ = some (.slice pg G.length cg) := (obj_cell HX.out.b 1).trans rfl
  have r0 : w1.cell? ⟨W.heap.size + 1, 0, none⟩ = some (.slice none 0 0) := (obj_cell HX.out.r 0).trans rfl
  have r1 : w1.cell? ⟨W.heap.size + 1, 1, none⟩ = some (.slice none 0 0) := (obj_cell HX.out.r 1).trans rfl
  have f0 := obj_free HX.out.r 0
  have f1 := obj_free HX.out.r 1
  by_cases h64 : 64 ≤ G.length
  · have d1 : decide ((64 : Int) ≤ (G.length : Int)) = true := decide_eq_true (by omega)
    have HE : Hid (addBadG G l = 8) := Lib.hid (by unfold addBadG; rw [if_pos h64])
    go_wp2_with fail
    refine bodyPost_ret (by simp [results, Try.results13, go_sem, r0, r1]; try rfl) rfl ?_
    rw [HE.out]
    exact ⟨_, _, rfl, HBAD.out 8 (by decide) HE.out _ ((HX.out.lo.setCell (p := ⟨W.heap.size + 1, 0, none⟩) (by simp) _).setCell (p := ⟨W.heap.size + 1, 1, none⟩) (by simp) _)⟩
  · have d1 : decide ((64 : Int) ≤ (G.length : Int)) = false := decide_eq_false (by omega)
    have HEN : Hid (addBadG G l = nmBad G [] l) := Lib.hid (by unfold addBadG; rw [if_neg h64])
    go_wp2_with fail
    clear b0 b1 r0 r1 f0 f1
    go_loopw [6] (fun iv wl => ∃ j : Nat, j ≤ l.length ∧ iv = .int .i64 j ∧ Hid (Bx W wl (.slice pa G.length ca) (.slice pg G.length cg) (.slice none 0 0) (.slice none 0 0)) ∧ Hid (nmBad G [] l = nmBad G (l.take j) (l.drop j))) (fun iv _ => l.length - (intOf iv).toNat)
    case atStart => exact ⟨0, Nat.zero_le _, rfl, HX, Lib.hid rfl⟩
    case round =>
      clear HX
      obtain ⟨j, hj, rfl, HX, HN⟩ := hrel
      have b0 : wr.cell? ⟨W.heap.size, 0, none⟩ = some (.slice pa G.length ca) := (obj_cell HX.out.b 0).trans rfl
      have b1 : wr.cell? ⟨W.heap.size, 1, none⟩ = some (.slice pg G.length cg) := (obj_cell HX.out.b 1).trans rfl
      by_cases hlt : j < l.length
      · obtain ⟨b, off, rfl, hc⟩ := HLC.out.resolve_left (by omega)
        have cj := keepc HX.out.lo (hc j hlt)
        have HD : Hid (l.drop j = l.getD j 0 :: l.drop (j + 1)) := Lib.hid (dropI hlt)
        have HT : Hid (l.take (j + 1) = l.take j ++ [l.getD j 0]) := Lib.hid (takeI hlt)
        have HU : Hid (∀ y, Below W.heap.size W y → IntsAt y (.slice (some ⟨b, off, none⟩) j cl) (l.take j)) := Lib.hid fun y hy => (HL.out.keep hy).upto hj
        have HTL : Hid ((l.take j).length ≤ 1000) := Lib.hid (by simp; omega)
        clear hc
        generalize l.getD j 0 = x at *
        obtain ⟨hb, hhb⟩ : ∃ hb, hasI G x = hb := ⟨_, rfl⟩
        have HHB := Lib.hid hhb
        clear hhb
        have kd0 : wr.drew.cell? ⟨W.heap.size, 0, none⟩ = _ := b0
        have kd1 : wr.drew.cell? ⟨W.heap.size, 1, none⟩ = _ := b1
        have kdj : wr.drew.cell? ⟨b, off + j, none⟩ = _ := cj
        have HXD := Lib.hid (HX.out.keep (Below.drew (Below.refl _ wr)))
        have ij0 : (0 : Int) ≤ (j : Int) := by omega
        have ij1 : (j : Int) < (l.length : Int) := by omega
        cases hb with
        | false =>
          have HE : Hid (addBadG G l = 3) := Lib.hid (by rw [HEN.out, HN.out, HD.out, nm_none HHB.out])
          go_upto_region 6 with fail
          go_region_held3 (fun w' => w'.cell? ⟨W.heap.size, 0, none⟩ = some (.slice pa G.length ca) ∧ w'.cell? ⟨W.heap.size, 1, none⟩ = some (.slice pg G.length cg) ∧ w'.cell? ⟨b, off + j, none⟩ = some (.int .i64 x)) (first | exact ⟨by assumption, by assumption, by assumption⟩ | exact ⟨kd0, kd1, kdj⟩ | exact ⟨keepc (by assumption) kd0, keepc (by assumption) kd1, keepc (by assumption) kdj⟩ | go_simp) (first
            | (go_at_call 23; refine (rhas (HH.out.keep HXD.out.lo) _ hlen).mono ?_; rintro e w2 ⟨rfl, hb⟩; rw [HHB.out]; have hb2 := hb; have HX2 := Lib.hid (HXD.out.keep hb); clear hb))
          have r0 : w2.cell? ⟨W.heap.size + 1, 0, none⟩ = some (.slice none 0 0) := (obj_cell HX2.out.r 0).trans rfl
          have r1 : w2.cell? ⟨W.heap.size + 1, 1, none⟩ = some (.slice none 0 0) := (obj_cell HX2.out.r 1).trans rfl
          have g0 : w2.cell? ⟨W.heap.size, 0, none⟩ = some (.slice pa G.length ca) := (obj_cell HX2.out.b 0).trans rfl
          have g1 : w2.cell? ⟨W.heap.size, 1, none⟩ = some (.slice pg G.length cg) := (obj_cell HX2.out.b 1).trans rfl
          have f0 := obj_free HX2.out.r 0
          have f1 := obj_free HX2.out.r 1
          go_wp2_with fail
          refine bodyPost_ret (by simp [results, Try.results13, go_sem, r0, r1]; try rfl) rfl ?_
          rw [HE.out]
          exact ⟨_, _, rfl, HBAD.out 3 (by decide) HE.out _ ((HX2.out.lo.setCell (p := ⟨W.heap.size + 1, 0, none⟩) (by simp) _).setCell (p := ⟨W.heap.size + 1, 1, none⟩) (by simp) _)⟩
        | true =>
          go_upto_region 6 with fail
          go_region_held3 (fun w' => w'.cell? ⟨W.heap.size, 0, none⟩ = some (.slice pa G.length ca) ∧ w'.cell? ⟨W.heap.size, 1, none⟩ = some (.slice pg G.length cg) ∧ w'.cell? ⟨b, off + j, none⟩ = some (.int .i64 x)) (first | exact ⟨by assumption, by assumption, by assumption⟩ | exact ⟨kd0, kd1, kdj⟩ | exact ⟨keepc (by assumption) kd0, keepc (by assumption) kd1, keepc (by assumption) kdj⟩ | go_simp) (first
            | (go_at_call 23; refine (rhas (HH.out.keep HXD.out.lo) _ hlen).mono ?_; rintro e w2 ⟨rfl, hb⟩; rw [HHB.out]; have hb2 := hb; have HX2 := Lib.hid (HXD.out.keep hb); clear hb))
          clear hb2 kd0 kd1 kdj b0 b1 cj
          go_upto_region 8 with fail
          have HCJ : Hid (W.cell? ⟨b, off + j, none⟩ = some (.int .i64 x)) := Lib.hid (by
            have h1 := HL.out
            obtain ⟨p', c', he, hh⟩ := h1
            simp only [Value.slice.injEq] at he
            obtain ⟨rfl, -, rfl⟩ := he
            obtain ⟨b', off', he2, hc'⟩ := hh.resolve_left (by omega)
            simp only [Option.some.injEq, Addr.mk.injEq] at he2
            obtain ⟨rfl, rfl, -⟩ := he2
            have hq := hc' j hlt
            have hx : l.getD j 0 = x := by
              have h2 := HD.out
              rw [dropI hlt] at h2
              exact (List.cons.inj h2).1
            rw [hx] at hq
            exact hq)
          have kdj : w2.drew.cell? ⟨b, off + j, none⟩ = some (.int .i64 x) := keepc HX2.out.lo HCJ.out
          have HX2D := Lib.hid (HX2.out.keep (Below.drew (Below.refl _ w2)))
          have ijc : j ≤ cl := by omega
          obtain ⟨cb, hcb⟩ : ∃ cb, (l.take j).contains x = cb := ⟨_, rfl⟩
          have HCB := Lib.hid hcb
          clear hcb
          cases cb with
          | true =>
            have HE : Hid (addBadG G l = 4) := Lib.hid (by rw [HEN.out, HN.out, HD.out]; exact nm_there HHB.out (List.contains_iff_mem.1 HCB.out))
            go_region_held3 (fun w' => w'.cell? ⟨b, off + j, none⟩ = some (.int .i64 x)) (first | assumption | exact kdj | go_simp) (first
              | (go_at_call 34; refine (ginZ (HU.out _ HX2D.out.lo) _ HTL.out).mono ?_; rintro e w3 ⟨rfl, rfl⟩; rw [HCB.out]))
            have r0 : w2.cell? ⟨W.heap.size + 1, 0, none⟩ = some (.slice none 0 0) := (obj_cell HX2.out.r 0).trans rfl
            have r1 : w2.cell? ⟨W.heap.size + 1, 1, none⟩ = some (.slice none 0 0) := (obj_cell HX2.out.r 1).trans rfl
            have g0 : w2.cell? ⟨W.heap.size, 0, none⟩ = some (.slice pa G.length ca) := (obj_cell HX2.out.b 0).trans rfl
            have g1 : w2.cell? ⟨W.heap.size, 1, none⟩ = some (.slice pg G.length cg) := (obj_cell HX2.out.b 1).trans rfl
            have f0 := obj_free HX2.out.r 0
            have f1 := obj_free HX2.out.r 1
            go_wp2_with fail
            refine bodyPost_ret (by simp [results, Try.results13, go_sem, r0, r1]; try rfl) rfl ?_
            rw [HE.out]
            exact ⟨_, _, rfl, HBAD.out 4 (by decide) HE.out _ ((HX2D.out.lo.setCell (p := ⟨W.heap.size + 1, 0, none⟩) (by simp) _).setCell (p := ⟨W.heap.size + 1, 1, none⟩) (by simp) _)⟩
          | false =>
            have HNX : Hid (nmBad G [] l = nmBad G (l.take (j + 1)) (l.drop (j + 1))) := Lib.hid (by
              rw [HN.out, HD.out, HT.out]
              refine nm_cons HHB.out fun hm => ?_
              have := List.contains_iff_mem.2 hm
              rw [HCB.out] at this
              cases this)
            go_region_held3 (fun w' => w'.cell? ⟨b, off + j, none⟩ = some (.int .i64 x)) (first | assumption | exact kdj | go_simp) (first
              | (go_at_call 34; refine (ginZ (HU.out _ HX2D.out.lo) _ HTL.out).mono ?_; rintro e w3 ⟨rfl, rfl⟩; rw [HCB.out]))
            go_wp2_with fail
            exact ⟨⟨j + 1, by omega, by go_num, HX2D, HNX⟩, by simp [intOf]; omega⟩
      · obtain rfl : j = l.length := by omega
        have HE : Hid (addBadG G l = 0) := Lib.hid (by rw [HEN.out, HN.out, List.drop_length]; rfl)
        have HAN : Hid (addN G l = addG G (l.map Int.toNat)) := Lib.hid (by unfold addN; rw [if_pos HE.out])
        have HPOS := Lib.hid (add_parts HE.out).2.2.2
        have HLI : Hid (l.map (Value.int .i64) = ints (l.map Int.toNat)) := Lib.hid (by
          unfold ints
          rw [List.map_map]
          refine List.map_congr_left fun y hy => ?_
          have := HPOS.out y hy
          simp only [Function.comp]
          congr 1
          omega)
        obtain ⟨i0, hi, hz0, hz1, hz2⟩ := info_parts infoN
        have HIN := Lib.hid (HL.out.keep HX.out.lo)
        go_upto_region 12 with (at_builtin; refine wpList_append_ints rfl _ _ 31 rfl 3 i0 (.int .i64 0) 8 Try.underlying31 hi hz0 hz1 hz2 rfl (.slice none 0 0) 0 [] rfl (World.ownsRow_nil _ _ _ _) (.slice pl l.length cl) l rfl HIN.out (by unfold maxLen; omega) (by omega) ?_; intro v4 w2 hown hf hv; rw [Nat.zero_add, List.nil_append] at hown; have HO := Lib.hid hown; have HB2 : Hid (Below wr.heap.size wr w2) := Lib.hid (hf.below (Nat.le_refl _) fun k hk => by simp [Value.ownBlock] at hk); have HV := Lib.hid hv; obtain ⟨p4, c4, rfl, -⟩ := row_form hown; clear hown hf hv)
        have HX2 := Lib.hid (HX.out.keep HB2.out)
        have HW2 := Lib.hid (HW.out.keep HX2.out.lo)
        have HOI : Hid (w2.ownsRow 0 3 1 (.slice p4 l.length c4) (l.map Int.toNat).length (ints (l.map Int.toNat))) := Lib.hid (by rw [List.length_map, ← HLI.out]; exact HO.out)
        have HV4 : Hid (∀ k, (Value.slice p4 l.length c4).ownBlock = some k → W.heap.size + 2 ≤ k) := Lib.hid fun k hk => by
          have hr := lt_of_block HX.out.r
          rcases HV.out with h1 | h1
          · rw [h1] at hk; simp [Value.ownBlock] at hk
          · have := h1 k hk; omega
        have HNO : Hid (∀ k, (Value.slice pa G.length ca).ownBlock = some k ∨ (Value.slice pg G.length cg).ownBlock = some k → k < W.heap.size) := Lib.hid fun k hk => hk.elim (fun h => (HW.out.ra.lt k h).2) fun h => (HW.out.rg.lt k h).2
        have HS : Hid (A2 w2 w2.drew (.slice pa G.length ca) (.slice pg G.length cg) (.slice pa G.length ca) G.length N (.slice pg G.length cg) G.length (gonesV G)) := Lib.hid (A2.keep ⟨row_base HW2.out.ra (Nat.zero_le _), row_base HW2.out.rg (Nat.zero_le _), Frm.refl _ _, .inl rfl, .inl rfl⟩ (Below.drew (Below.refl _ _)))
        have HEND : Hid (∀ (w6 y : World) (va' vg' : Value), A2 w2 w6 (.slice pa G.length ca) (.slice pg G.length cg) va' (G.length + 1) (N ++ [.slice p4 l.length c4]) vg' (G.length + 1) (gonesV G ++ [.bool false]) → Frm (fun k => k = W.heap.size + 1) w6 y → Rz B W y (.slice pa G.length ca) (.slice pg G.length cg) N va' vg' (addN G l)) := Lib.hid fun w6 y va' vg' h1 h2 => by
          rw [HAN.out]
          exact Rz.add_end HW.out HBW.out HX2.out.lo (lt_of_block HX2.out.r) HOI.out HV4.out h1 h2
        have HBB : Hid (∀ w6, Frm (fun k => (Value.slice pa G.length ca).ownBlock = some k ∨ (Value.slice pg G.length cg).ownBlock = some k) w2 w6 → w6.cell? ⟨W.heap.size, 0, none⟩ = some (.slice pa G.length ca) ∧ w6.cell? ⟨W.heap.size, 1, none⟩ = some (.slice pg G.length cg) ∧ w6.cell? ⟨W.heap.size + 1, 0, none⟩ = some (.slice none 0 0) ∧ w6.cell? ⟨W.heap.size + 1, 1, none⟩ = some (.slice none 0 0) ∧ w6.frozen? ⟨W.heap.size + 1, 0, none⟩ = false ∧ w6.frozen? ⟨W.heap.size + 1, 1, none⟩ = false) := Lib.hid fun w6 hf => by
          obtain ⟨z1, z2⟩ := HX2.out.frm hf HNO.out
          exact ⟨(obj_cell z1 0).trans rfl, (obj_cell z1 1).trans rfl, (obj_cell z2 0).trans rfl, (obj_cell z2 1).trans rfl, obj_free z2 0, obj_free z2 1⟩
        obtain ⟨kd0, kd1, -, -, -, -⟩ := HBB.out w2.drew HS.out.fr
        obtain ⟨iL, jl, jl0, jl1, jl2⟩ := info_parts infoL
        obtain ⟨iB, jb, jb0, jb1, jb2⟩ := info_parts infoB
        have hgl : G.length ≤ 64 := hlen
        clear HLI HPOS HO HB2 HV HIN HX HOI b0 b1
        go_region_held3 (fun w' => w'.cell? ⟨W.heap.size, 0, none⟩ = some (.slice pa G.length ca) ∧ w'.cell? ⟨W.heap.size, 1, none⟩ = some (.slice pg G.length cg)) (first | exact ⟨by assumption, by assumption⟩ | exact ⟨kd0, kd1⟩ | exact ⟨keepc (balloc (Below.refl _ _) _) kd0, keepc (balloc (Below.refl _ _) _) kd1⟩ | exact ⟨keepc (balloc (balloc (Below.refl _ _) _) _) kd0, keepc (balloc (balloc (Below.refl _ _) _) _) kd1⟩ | exact ⟨keepc (balloc (Below.refl _ _) _) j0, keepc (balloc (Below.refl _ _) _) j1⟩ | go_simp) (first
          | (refine step_append_row (by rfl) (.tmp 40) (.tmp 42) 27 (by rfl) 31 iL (.slice none 0 0) 1 24 Try.underlying27 jl jl0 jl1 jl2 (by rfl) (by decide) (.slice pa G.length ca) G.length N (by rfl) (HS.out.keep (by first | exact balloc (Below.refl _ _) _ | exact balloc (balloc (Below.refl _ _) _) _ | exact Below.refl _ _)).ra ⟨_, 0, none⟩ 1 1 [.slice p4 l.length c4] (by rfl) (by rfl) (news1 (by first | exact newcell (by simp) | exact newcell2 (by simp) | exact hp _ _ (by simp) (newcell (by simp)) | exact hp _ _ (by simp) (newcell2 (by simp)))) (fun x hx => by simp at hx; subst hx; rfl) (by unfold maxLen; omega) (by omega) ?_; intro v' w6 hown hf hv; have hp : ∀ g u, w2.heap.size ≤ g → World.cell? _ ⟨g, 0, none⟩ = some u → w6.cell? ⟨g, 0, none⟩ = some u := (fun g u hg h => hf.cell h fun e => by have := HNO.out g (.inl e); have := HX2.out.lo.size; omega); replace HS := Lib.hid ((HS.out.keep (by first | exact balloc (Below.refl _ _) _ | exact balloc (balloc (Below.refl _ _) _) _ | exact Below.refl _ _)).appA hown hf hv); obtain ⟨pA, cA, rfl, -⟩ := row_form hown; obtain ⟨j0, j1, j2, j3, j4, j5⟩ := HBB.out w6 HS.out.fr; clear hown hf hv)
          | (refine step_append_row (by rfl) (.tmp 45) (.tmp 46) 28 (by rfl) 4 iB (.bool false) 1 1 Try.underlying28 jb jb0 jb1 jb2 (by rfl) (by decide) (.slice pg G.length cg) G.length (gonesV G) (by rfl) (HS.out.keep (by first | exact balloc (Below.refl _ _) _ | exact balloc (balloc (Below.refl _ _) _) _ | exact Below.refl _ _)).rg ⟨_, 0, none⟩ 1 1 [.bool false] (by rfl) (by rfl) (news1 (by first | exact newcell (by simp) | exact newcell2 (by simp) | exact hp _ _ (by simp) (newcell (by simp)) | exact hp _ _ (by simp) (newcell2 (by simp)))) (fun x hx => by simp at hx; subst hx; rfl) (by unfold maxLen; omega) (by omega) ?_; intro v' w6 hown hf hv; have hp : ∀ g u, w2.heap.size ≤ g → World.cell? _ ⟨g, 0, none⟩ = some u → w6.cell? ⟨g, 0, none⟩ = some u := (fun g u hg h => hf.cell h fun e => by have := HNO.out g (.inr e); have := HX2.out.lo.size; omega); replace HS := Lib.hid ((HS.out.keep (by first | exact balloc (Below.refl _ _) _ | exact balloc (balloc (Below.refl _ _) _) _ | exact Below.refl _ _)).appG hown hf hv); obtain ⟨pG, cG, rfl, -⟩ := row_form hown; obtain ⟨j0, j1, j2, j3, j4, j5⟩ := HBB.out w6 HS.out.fr; clear hown hf hv))
        all_goals
          go_wp2_with fail
          refine bodyPost_ret (by simp [results, Try.results13, go_sem, j2, j3]; try rfl) rfl ?_
          rw [HE.out]
          exact ⟨_, _, rfl, HEND.out _ _ _ _ HS.out (((Frm.refl (fun k => k = W.heap.size + 1) _).setCell (p := ⟨W.heap.size + 1, 0, none⟩) rfl _).setCell (p := ⟨W.heap.size + 1, 1, none⟩) rfl _)⟩
end
end Go.Proofs.Ytggjimeligbmcab
