/-
  Link of package graph, by contract: what it refuses, and what it leaves. Conditions: a graph in which nobody is behind itself.
-/
import Derived.Test.YtggjimeligbmcabGr11
import Derived.Deep.RegionHeld3
import Derived.Deep.CutBlock
import Derived.Deep.DeepCutAuto
import Derived.Deep.DrawnRows
import Derived.BigRegion
namespace Go.Proofs.Ytggjimeligbmcab
open Go.RowKit
set_option linter.unusedVariables false

section
variable {B : Nat} {W w w' w6 : World} {g : Nat} {G G' : List Nd} {N N' : List (Bool × Value)} {vn vn' v' : Value}
theorem Gw.link_at (h : Gw B w g G N vn) {n m q c : Nat} (hv : vn = .slice (some ⟨q, 0, none⟩) G.length c) (hn : hasB G n = true) (hB : B ≤ w.heap.size)
    (hown : w6.ownsRow 0 3 1 v' ((aft G n).length + 1) (ints (aft G n) ++ [.int .i64 (m : Int)])) (hf : Frm (fun k => (N.getD n d0).2.ownBlock = some k) w w6) (hv' : v'.ownBlock = (N.getD n d0).2.ownBlock ∨ ∀ k, v'.ownBlock = some k → w.heap.size ≤ k) :
    Gs B w (w6.setCell ⟨q, n * 2 + 1, none⟩ v') g G N vn (linkG G n m) := by
  subst hv
  have hl := h.len
  have hnl := has_lt hn
  have hq : ∀ i, i < G.length → (N.getD i d0).2.ownBlock ≠ some q := fun i hi e => by
    obtain ⟨c1, h1⟩ := ownsRow_obj (h.own i hi) e
    obtain ⟨c2, h2⟩ := ownsRow_obj h.row (g := q) rfl
    rw [h1] at h2
    simp at h2
  have hqg : g ≠ q := fun e => row_ne h.row h.blk (by decide) (by rw [e]; rfl)
  have hg6 : ∀ i, i < G.length → (N.getD i d0).2.ownBlock ≠ some g := fun i hi e => row_ne (h.own i hi) h.blk (by decide) e
  have fr1 : Frm (fun k => k = q ∨ (N.getD n d0).2.ownBlock = some k) w (w6.setCell ⟨q, n * 2 + 1, none⟩ v') := (hf.mono fun _ _ h => .inr h).setCell (p := ⟨q, n * 2 + 1, none⟩) (.inl rfl) _
  have hat : ∀ i, i ≠ n → (N.set n ((N.getD n d0).1, v')).getD i d0 = N.getD i d0 := fun i hi => by
    rw [List.getD_eq_getElem?_getD, List.getElem?_set_ne (Ne.symm hi), ← List.getD_eq_getElem?_getD]
  have hself : (N.set n ((N.getD n d0).1, v')).getD n d0 = ((N.getD n d0).1, v') := by
    rw [List.getD_eq_getElem?_getD, List.getElem?_set_self (by omega)]
    rfl
  have hv6 : v'.ownBlock ≠ some q := fun e => by
    rcases hv' with h1 | h1
    · exact hq n hnl (h1 ▸ e)
    · have := h1 q e
      have h2 := (h.row.lt q rfl).2
      omega
  have hBv : ∀ k, v'.ownBlock = some k → B ≤ k := fun k hk => by
    rcases hv' with h1 | h1
    · exact ((h.own n hnl).lt k (h1 ▸ hk)).1
    · have := h1 k hk
      omega
  refine ⟨⟨N.set n ((N.getD n d0).1, v'), .slice (some ⟨q, 0, none⟩) G.length c, ⟨fr1.obj h.blk (fun e => e.elim hqg (hg6 n hnl)), h.lo, ?_, by simp [hl, linkG_len], fun i hi => ?_, fun i hi => ?_, fun i j hi hj hij b hb => ?_⟩, fun k hk => ?_⟩, fr1.mono fun k _ hk => ?_⟩
  · have h1 := row_put (j := n * 2 + 1) (hf.row h.row fun k hk hkn => by simp only [Value.ownBlock, Option.some.injEq] at hk; exact hq n hnl (hk ▸ hkn)) v'
    rw [fl2_set1 _ (by omega)] at h1
    rw [linkG_len]
    exact h1
  · rw [linkG_len] at hi
    by_cases e : i = n
    · subst e
      rw [hself, nd_link_self hnl]
      show (N.getD i d0).1 = false
      rw [h.gone i hi]
      simpa [hasB] using hn
    · rw [hat i e, nd_link_ne e]; exact h.gone i hi
  · rw [linkG_len] at hi
    by_cases e : i = n
    · subst e
      rw [hself, aft_link_self hn]
      have h1 := row_up hown hBv
      have h2 := ((Frm.refl (fun k => k = q) w6).setCell (p := ⟨q, i * 2 + 1, none⟩) rfl v').row h1 fun k hk hkq => hv6 (hkq ▸ hk)
      rw [List.length_append, List.length_singleton]
      rw [show ints (aft G i ++ [m]) = ints (aft G i) ++ [.int .i64 (m : Int)] by simp [ints]]
      exact h2
    · rw [hat i e, aft_link_ne e]
      exact fr1.row (h.own i hi) fun k hk hkq => hkq.elim (fun e1 => hq i hi (e1 ▸ hk)) fun e1 => h.apart i n hi hnl e k hk e1
  · rw [linkG_len] at hi hj
    by_cases e : i = n
    · subst e
      rw [hself] at hb
      have e2 : j ≠ i := fun e => hij e.symm
      rw [hat j e2]
      rcases hv' with h1 | h1
      · exact h.apart i j hi hj hij b (h1 ▸ hb)
      · intro hk
        have := h1 b hb
        have := ((h.own j hj).lt b hk).2
        omega
    · rw [hat i e] at hb
      by_cases e2 : j = n
      · subst e2
        rw [hself]
        rcases hv' with h1 | h1
        · show v'.ownBlock ≠ some b
          rw [h1]
          exact h.apart i j hi hj hij b hb
        · intro hk
          have := h1 b hk
          have := ((h.own i hi).lt b hb).2
          omega
      · rw [hat j e2]; exact h.apart i j hi hj hij b hb
  · rcases hk with hk | hk | ⟨i, hi, hk⟩
    · exact .inl (.inl hk)
    · exact .inl (.inr (.inl hk))
    · rw [List.length_set] at hi
      by_cases e : i = n
      · subst e
        rw [hself] at hk
        rcases hv' with h1 | h1
        · exact .inl (.inr (.inr ⟨i, hi, h1 ▸ hk⟩))
        · exact .inr (h1 k hk)
      · rw [hat i e] at hk
        exact .inl (.inr (.inr ⟨i, hi, hk⟩))
  · rcases hk with rfl | hk
    · exact .inr (.inl rfl)
    · exact .inr (.inr ⟨n, by omega, hk⟩)
theorem Gs.after (h : Gw B W g G N vn) (hb : Below W.heap.size W w) (hs : Gs B w w' g G N vn G') : Gs B W w' g G N vn G' := by
  obtain ⟨⟨N', vn', h1, h2⟩, h3⟩ := hs
  exact ⟨⟨N', vn', h1, fun k hk => (h2 k hk).imp id fun hk => Nat.le_trans hb.size hk⟩, (Frm.of_below hb _).then h3 fun _ _ hk => hk⟩

def ldN : Op := .load 31 (.tmp 63)
attribute [local go_sem ↓] Go.wp_at_zero Go.wp_at_succ ldN
set_option maxRecDepth 100000 in
set_option maxHeartbeats 4000000 in
theorem glink_ok (h : Gw B W g G N vn) (hG : GOk G) (hB : B ≤ W.heap.size) {n m : Nat} (hn : hasB G n = true) (hm : hasB G m = true) (hne : m ≠ n) (hr : ¬ Rch G m n) (hni : m ∉ aft G n) :
    Calls Try.prog 15 #[.pointer (some ⟨g, 0, none⟩), .int .i64 (n : Int), .int .i64 (m : Int)] W fun e w' => e = .returned .nilIface ∧ Gs B W w' g G N vn (linkG G n m) := by
  obtain ⟨pn, c, q, hvn, hg⟩ := h.gr
  have hnl := has_lt hn
  have hlen := hG.len
  obtain rfl := hg.at_ (by omega)
  have HH := Lib.hid hg
  have HW := Lib.hid h
  have HG := Lib.hid hG
  have HNA : Hid (hasI G (n : Int) = true) := Lib.hid (by rw [hasI_nat]; exact hn)
  have HNB : Hid (hasI G (m : Int) = true) := Lib.hid (by rw [hasI_nat]; exact hm)
  have HHM := Lib.hid hm
  have HHN := Lib.hid hn
  have HRC : Hid (rchB G m n = false) := Lib.hid (by
    cases e : rchB G m n
    · rfl
    · exact absurd (rchB_iff.1 e) hr)
  have HIN : Hid (inI (aft G n) (m : Int) = false) := Lib.hid (by rw [inI_nat]; simpa using hni)
  have hmn : ((m : Int) == (n : Int)) = false := by
    rw [beq_eq_false_iff_ne]
    exact fun e => hne (Int.ofNat_inj.1 e)
  have hn64 : n < 64 := by omega
  have hix := run_index_marks (rchB G m) n hn64
  rw [HRC.out] at hix
  have HL := Lib.hid (aft_len hG n)
  obtain ⟨i0, hi, hz0, hz1, hz2⟩ := info_parts infoN
  have HBW := Lib.hid hB
  clear h hG hg hn hm hne hr hni hB
  go_enter Try.func15, Try.ntmps15
  go_upto_region 9 with (first
    | (go_at_call 38; refine (greached' HH.out HG.out HHM.out).mono ?_; rintro e w2 ⟨rfl, hb⟩; have HB2 := Lib.hid hb; clear hb)
    | (go_at_call_of 22 (Value.int IntKind.i64 (n : Int)); refine (ghas_some HH.out _).mono ?_; rintro e w1 ⟨rfl, rfl⟩; rw [HNA.out])
    | (go_at_call 22; refine (ghas_some HH.out _).mono ?_; rintro e w1 ⟨rfl, rfl⟩; rw [HNB.out]))
  have HK2 := Lib.hid (HH.out.keep HB2.out)
  have HW2 := Lib.hid (HW.out.keep HB2.out)
  have c0 := HK2.out.c0
  have ca := HK2.out.af n hnl
  have HS : Hid ((N.map (·.2)).getD n (.slice none 0 0) = (N.getD n d0).2) := Lib.hid (by
    have := HW.out.len
    rw [List.getD_eq_getElem?_getD, List.getD_eq_getElem?_getD, List.getElem?_map, List.getElem?_eq_getElem (by omega)]
    rfl)
  rw [HS.out] at ca
  have HN2 := Lib.hid (IntsN.of_row (HW2.out.own n hnl))
  have HOW := Lib.hid (HW2.out.own n hnl)
  have HFIN : Hid (∀ (w6 : World) (v' : Value), w6.ownsRow 0 3 1 v' ((aft G n).length + 1) (ints (aft G n) ++ [.int .i64 (m : Int)]) → Frm (fun k => (N.getD n d0).2.ownBlock = some k) w2 w6 → (v'.ownBlock = (N.getD n d0).2.ownBlock ∨ ∀ k, v'.ownBlock = some k → w2.heap.size ≤ k) → Gs B W (w6.setCell ⟨q, n * 2 + 1, none⟩ v') g G N vn (linkG G n m)) := Lib.hid fun w6 v' a1 a2 a3 =>
    Gs.after HW.out HB2.out (HW2.out.link_at hvn HHN.out (Nat.le_trans HBW.out HB2.out.size) a1 a2 a3)
  have HQ : Hid ((N.getD n d0).2.ownBlock ≠ some q ∧ (N.getD n d0).2.ownBlock ≠ some g ∧ ∃ cs, w2.heap[q]? = some (.cells cs 70 (0, 0))) := Lib.hid (by
    have h1 := HW2.out.row
    rw [hvn] at h1
    obtain ⟨c2, h2⟩ := ownsRow_obj h1 (g := q) rfl
    exact ⟨row_ne (HW2.out.own n hnl) h2 (by decide), row_ne (HW2.out.own n hnl) HW2.out.blk (by decide), c2, h2⟩)
  generalize (N.getD n d0).2 = va at *
  obtain ⟨pa, cca, hva, -⟩ := row_form HOW.out
  subst hva
  obtain ⟨cs, hcs⟩ := HQ.out.2.2
  have fq := obj_free hcs (n * 2 + 1)
  have HCS := Lib.hid hcs
  have hal : (aft G n).length ≤ 64 := HL.out
  clear hcs
  go_upto_region 11 with (first
    | (go_at_call 39; refine (contains_n HN2.out _ HL.out).mono ?_; rintro e w2' ⟨rfl, rfl⟩; rw [HIN.out]))
  have kd0 : w2.drew.cell? ⟨g, 0, none⟩ = _ := c0
  have kd1 : w2.drew.cell? ⟨q, n * 2 + 1, none⟩ = _ := ca
  have nn : ∀ o, (w2.alloc o).cell? ⟨q, n * 2 + 1, none⟩ = _ := fun o => keepc (balloc (Below.refl _ _) o) ca
  have HSR := Lib.hid (HOW.out.drew)
  rw [show (Op.load 31 (.tmp 63) : Op) = ldN from rfl]
  go_region_held3 (fun w' => w'.cell? ⟨g, 0, none⟩ = some (.slice (some ⟨q, 0, none⟩) G.length c)) (first | assumption | exact kd0 | exact keepc (balloc (Below.refl _ _) _) kd0 | go_simp) (first
    | (refine step_append_row (by rfl) (.tmp 64) (.tmp 66) 31 (by rfl) 3 i0 (.int .i64 0) 1 8 Try.underlying31 hi hz0 hz1 hz2 (by rfl) (by decide) (.slice pa (aft G n).length cca) (aft G n).length _ (by rfl) (row_base (HSR.out.alloc _) (Nat.zero_le _)) ⟨_, 0, none⟩ 1 1 [.int .i64 (m : Int)] (by rfl) (by rfl) (one_cell _ _ _) (fun x hx => by simp at hx; subst hx; rfl) (by unfold maxLen; omega) (by omega) ?_; intro v' w6 hown hf hv; have hf2 : Frm (fun k => (Value.slice pa (aft G n).length cca).ownBlock = some k) w2 w6 := ((Frm.refl _ w2).alloc _).trans ⟨hf.os, hf.tape, hf.output, hf.size, hf.block⟩; have HF := Lib.hid (HFIN.out w6 v' hown hf2 (hv.imp id fun hv k hk => Nat.le_trans (by simp) (hv k hk))); have j0 := hf2.cell c0 HQ.out.2.1; have j1 := hf2.cell ca HQ.out.1; have j2 : w6.frozen? ⟨q, n * 2 + 1, none⟩ = false := obj_free (hf2.obj HCS.out HQ.out.1) _; obtain ⟨p6, c6, rfl, -⟩ := row_form hown; clear hown hf hv hf2))
  all_goals
    go_wp2
    go_ret
    exact ⟨rfl, HF.out⟩
end
end Go.Proofs.Ytggjimeligbmcab
