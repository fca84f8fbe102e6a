/-
  GraphDrops, walked. Conditions: as the statement has them.
-/
import Derived.Test.YtggjimeligbmcabGr21
namespace Go.Proofs.Ytggjimeligbmcab
open Go.RowKit
set_option linter.unusedVariables false

/-- A graph with its memory in some blocks. -/
def Gp (B : Nat) (P : Nat → Prop) (w : World) (g : Nat) (G : List Nd) : Prop := ∃ N vn, Gw B w g G N vn ∧ ∀ k, gOwn g N vn k → P k
section
variable {B : Nat} {P S : Nat → Prop} {W w w' : World} {g : Nat} {G : List Nd}
theorem Gp.of_gm (h : Gm W w g G) : Gp W.heap.size (fun k => W.heap.size ≤ k ∧ k < w.heap.size) w g G := by
  obtain ⟨⟨N, vn, h1⟩, _⟩ := h
  exact ⟨N, vn, h1, fun k hk => h1.own_lt hk⟩
theorem Gp.frm (h : Gp B P w g G) (hf : Frm S w w') (hS : ∀ k, P k → ¬ S k) : Gp B P w' g G := by
  obtain ⟨N, vn, h1, h2⟩ := h
  exact ⟨N, vn, h1.frm hf fun k hk => hS k (h2 k hk), h2⟩
theorem Gp.keep (h : Gp B P w g G) (hb : Below w.heap.size w w') : Gp B P w' g G := h.frm (Frm.of_below hb fun _ => False) fun _ _ h => h
theorem gp_drop (h : Gp B P w g G) (hG : GOk G) (a : Int) :
    Calls Try.prog 17 #[.pointer (some ⟨g, 0, none⟩), .int .i64 a] w fun e w' => ∃ E, e = .returned E ∧ ErrIs w' E (dropBadG G a) ∧ Gp B (fun k => P k ∨ w.heap.size ≤ k) w' g (dropN G a) ∧ Frm P w w' := by
  obtain ⟨N, vn, h1, h2⟩ := h
  refine (gdrop h1 hG a).mono ?_
  rintro e w' ⟨E, rfl, he, ⟨⟨N', vn', h3, h4⟩, hf⟩⟩
  exact ⟨E, rfl, he, ⟨N', vn', h3, fun k hk => (h4 k hk).imp (h2 k) id⟩, hf.mono fun k _ hk => h2 k hk⟩
theorem gp_add {v : Value} {l : List Int} (h : Gp B P w g G) (hG : GOk G) (hB : B ≤ w.heap.size) (hl : IntsAt w v l) (h100 : l.length ≤ 100) :
    Calls Try.prog 12 #[.pointer (some ⟨g, 0, none⟩), v] w fun e w' => ∃ E, e = .returned (.tuple #[.int .i64 (addNo G l), E]) ∧ ErrIs w' E (addBadG G l) ∧ Gp B (fun k => P k ∨ w.heap.size ≤ k) w' g (addN G l) ∧ Frm P w w' := by
  obtain ⟨N, vn, h1, h2⟩ := h
  refine (gadd h1 hG hB hl h100).mono ?_
  rintro e w' ⟨E, rfl, he, ⟨⟨N', vn', h3, h4⟩, hf⟩⟩
  exact ⟨E, rfl, he, ⟨N', vn', h3, fun k hk => (h4 k hk).imp (h2 k) id⟩, hf.mono fun k _ hk => h2 k hk⟩
theorem gp_len (h : Gp B P w g G) : Calls Try.prog 19 #[.pointer (some ⟨g, 0, none⟩)] w fun e w' => e = .returned (.int .i64 (G.length : Int)) ∧ w = w' := by
  obtain ⟨N, vn, h1, _⟩ := h
  obtain ⟨pn, c, q, _, hg⟩ := h1.gr
  exact glen_some hg
theorem gp_has (h : Gp B P w g G) (x : Int) : Calls Try.prog 22 #[.pointer (some ⟨g, 0, none⟩), .int .i64 x] w fun e w' => e = .returned (.bool (hasI G x)) ∧ w = w' := by
  obtain ⟨N, vn, h1, _⟩ := h
  obtain ⟨pn, c, q, _, hg⟩ := h1.gr
  exact ghas_some hg x
theorem gp_after (h : Gp B P w g G) (hG : GOk G) (x : Int) : Calls Try.prog 26 #[.pointer (some ⟨g, 0, none⟩), .int .i64 x] w (Rl w (aftI G x)) := by
  obtain ⟨N, vn, h1, _⟩ := h
  obtain ⟨pn, c, q, _, hg⟩ := h1.gr
  exact gafter_some hg hG x
theorem gp_reach (h : Gp B P w g G) (hG : GOk G) (x : Int) : Calls Try.prog 25 #[.pointer (some ⟨g, 0, none⟩), .int .i64 x] w (Rl w (rchI G x)) := by
  obtain ⟨N, vn, h1, _⟩ := h
  obtain ⟨pn, c, q, _, hg⟩ := h1.gr
  exact greach_some hg hG x
end
theorem gsame_yes {w : World} {va vb : Value} {l : List Nat} (h1 : IntsN w va l) (h2 : IntsN w vb l) (hl : l.length ≤ 1000) :
    Calls Try.prog 24 #[va, vb] w fun e w' => e = .returned (.bool true) ∧ Below w.heap.size w w' := by
  have := gsame h1 h2 hl
  rw [decide_eq_true (rfl : l = l)] at this
  exact this
theorem end_iff {G : List Nd} {n : Nat} (hn : hasB G n = true) : n ∈ (List.range G.length).filter (endB G) ↔ behL G (n : Int) G.length = [] := by
  rw [List.mem_filter, List.mem_range]
  unfold endB
  rw [hn, Bool.true_and, List.isEmpty_iff]
  exact ⟨fun h => h.2, fun h => ⟨has_lt hn, h⟩⟩
theorem rchL_drop {G : List Nd} {n k : Nat} (hb : ∀ i, n ∉ aft G i) (hk : k ≠ n) : rchL (dropG G n) k 64 = rchL G k 64 := by
  unfold rchL
  refine List.filter_congr fun a _ => ?_
  rw [Bool.eq_iff_iff, rchB_iff, rchB_iff]
  exact rch_drop hb hk
section
variable {W w1 w2 : World} {v : Value} {n : Nat} {z : Nat → OpD} {G : List Nd}
set_option maxRecDepth 100000 in
set_option maxHeartbeats 4000000 in
theorem gdrops_walk (hO : OpsG W v n z) (a : Int) : Calls Try.prog 6 #[v, .int .i64 a] W fun e w' => e = .returned (.bool true) ∧ Below W.heap.size W w' := by
  have HO := Lib.hid hO
  obtain ⟨p, cap, rfl, -, -⟩ := hO
  cases hs : smB n z with
  | false =>
    have HS := Lib.hid hs
    clear hs
    go_enter Try.func6, Try.ntmps6
    go_wp2_with (first
      | (go_at_call 9; refine (gsmallB HO.out).mono ?_; rintro e w1 ⟨rfl, hb⟩; rw [HS.out]; have HB := Lib.hid hb; clear hb)
      | (go_at_call 10; refine (awake13 _).mono ?_; rintro e w2 ⟨rfl, hb⟩; have HB2 := Lib.hid hb; clear hb))
    go_ret
    exact ⟨rfl, bthen HB.out HB2.out⟩
  | true =>
    have HS := Lib.hid hs
    clear hs
    have HOK := Lib.hid (runG_ok z n)
    have hlen := HOK.out.len
    generalize hG : runG z n = G at *
    obtain ⟨re, hre⟩ : ∃ re, inI ((List.range G.length).filter (endB G)) a = re := ⟨_, rfl⟩
    have HRE := Lib.hid hre
    have HENL : Hid (((List.range G.length).filter (endB G)).length ≤ 1000) := Lib.hid (by have := ends_len G; omega)
    clear hre
    go_enter Try.func6, Try.ntmps6
    go_upto_region 3 with (go_at_call 9; refine (gsmallB HO.out).mono ?_; rintro e w1 ⟨rfl, hb⟩; rw [HS.out]; have HB := Lib.hid hb; clear hb)
    go_upto_region 4 with (first
      | (go_at_call 33; refine (gbegun (HO.out.keep (bthen HB.out HM.out.2)) HS.out).mono ?_; rintro e w3 ⟨h, rfl, hm⟩; rw [hG] at hm; have HN := Lib.hid hm; clear hm)
      | (go_at_call 33; refine (gbegun (HO.out.keep HB.out) HS.out).mono ?_; rintro e w2 ⟨g, rfl, hm⟩; rw [hG] at hm; have HM := Lib.hid hm; clear hm))
    clear hG
    go_upto_region 5 with (first
      | (go_at_call 34; refine (gin HF4.out.ints _ HENL.out).mono ?_; rintro e w5 ⟨rfl, rfl⟩; rw [HRE.out])
      | (go_at_call 30; refine (gm_ends (HM.out.keep HN.out.2) HOK.out).mono ?_; rintro e w4 ⟨v4, rfl, hf⟩; have HF4 := Lib.hid hf; clear hf))
    have HPG : Hid (Gp w1.heap.size (fun k => w1.heap.size ≤ k ∧ k < w2.heap.size) w4 g G) := Lib.hid ((Gp.of_gm HM.out).keep (bthen HN.out.2 (HF4.out.2)))
    have HPH : Hid (Gp w2.heap.size (fun k => w2.heap.size ≤ k ∧ k < w3.heap.size) w4 h G) := Lib.hid ((Gp.of_gm HN.out).keep HF4.out.2)
    have HB4 : Hid (Below W.heap.size W w4) := Lib.hid (bthen HB.out (bthen HM.out.2 (bthen HN.out.2 HF4.out.2)))
    have HSZ : Hid (W.heap.size ≤ w1.heap.size ∧ w1.heap.size ≤ w4.heap.size ∧ w3.heap.size ≤ w4.heap.size) := Lib.hid ⟨HB.out.size, Nat.le_trans HM.out.2.size (Nat.le_trans HN.out.2.size HF4.out.2.size), HF4.out.2.size⟩
    clear HM HN HF4
    go_upto_region 6 with (go_at_call 17; refine (gp_drop HPG.out HOK.out _).mono ?_; rintro e w5 ⟨E, rfl, he, hm, hfr⟩; have HE := Lib.hid he; have HPG5 := Lib.hid hm; have HPH5 := Lib.hid (HPH.out.frm hfr fun k hk hk2 => by omega); have HB5 := Lib.hid (HB4.out.trans (hfr.below HB4.out.size fun k hk => Nat.le_trans HSZ.out.1 hk.1)); have HS5 := Lib.hid hfr.size; clear he hm hfr)
    cases ha : hasI G a with
    | false =>
      have HA := Lib.hid ha
      have HD : Hid (dropBadG G a = 3 ∧ dropN G a = G) := Lib.hid (by simp [dropN, dropBadG, ha])
      have HE3 : Hid (ErrIs w5 E 3) := Lib.hid (HD.out.1 ▸ HE.out)
      have HPG6 : Hid (Gp w1.heap.size (fun k => (w1.heap.size ≤ k ∧ k < w2.heap.size) ∨ w4.heap.size ≤ k) w5 g G) := Lib.hid (by have := HPG5.out; rwa [HD.out.2] at this)
      clear ha
      go_wp2_with (first
        | (go_at_call_of 22 (Value.pointer (some ⟨g, 0, none⟩)); refine (gp_has HPG6.out _).mono ?_; rintro e w6 ⟨rfl, rfl⟩; rw [HA.out])
        | (go_at_call 22; refine (gp_has HPH5.out _).mono ?_; rintro e w6 ⟨rfl, rfl⟩; rw [HA.out])
        | (go_at_call 10; refine (awake13 _).mono ?_; rintro e w7 ⟨rfl, hb⟩; have HB7 := Lib.hid hb; clear hb)
        | (go_at_call 14; refine (is_err (HE3.out.held (Held.of_below HB7.out)) 3).mono ?_; rintro e w8 ⟨rfl, rfl⟩))
      go_ret
      exact ⟨rfl, bthen HB5.out HB7.out⟩
    | true =>
      obtain ⟨x, rfl, hx⟩ := hasI_yes ha
      have HA := Lib.hid ha
      have HX := Lib.hid hx
      by_cases hem : behL G (x : Int) G.length = []
      · have HD : Hid (dropBadG G (x : Int) = 0 ∧ dropN G (x : Int) = dropG G x) := Lib.hid (by
          have : dropBadG G (x : Int) = 0 := by unfold dropBadG; rw [if_pos ha, if_pos hem]
          exact ⟨this, by unfold dropN; rw [if_pos this]; simp⟩)
        have HRT : Hid (re = true) := Lib.hid (by rw [← HRE.out]; exact inI_yes ((end_iff hx).2 hem))
        obtain rfl := HRT.out
        have HE0 : Hid (ErrIs w5 E 0) := Lib.hid (HD.out.1 ▸ HE.out)
        have HXE : Hid (E = .nilIface) := Lib.hid ((HE0.out.resolve_right fun h => h.1 rfl).2)
        obtain rfl := HXE.out
        have HNB := Lib.hid ((beh_nil HOK.out).1 hem)
        have HOX : Hid (GOk (dropG G x)) := Lib.hid (HOK.out.drop HNB.out)
        have hll : (dropG G x).length = G.length := dropG_len G x
        have HPG6 : Hid (Gp w1.heap.size (fun k => (w1.heap.size ≤ k ∧ k < w2.heap.size) ∨ w4.heap.size ≤ k) w5 g (dropG G x)) := Lib.hid (by have := HPG5.out; rwa [HD.out.2] at this)
        have HHX : Hid (hasI (dropG G x) (x : Int) = false) := Lib.hid (by rw [hasI_nat]; exact has_drop_self)
        have HAX : Hid (aftI (dropG G x) (x : Int) = []) := Lib.hid (by rw [aftI_nat HOX.out]; exact aft_drop_self)
        have HSM : Hid (∀ k : Nat, k ≠ x → aftI (dropG G x) (k : Int) = aftI G (k : Int) ∧ rchI (dropG G x) (k : Int) = rchI G (k : Int)) := Lib.hid fun k hk => by
          rw [aftI_nat HOX.out, aftI_nat HOK.out, rchI_nat HOX.out, rchI_nat HOK.out]
          exact ⟨aft_drop_ne hk, rchL_drop HNB.out hk⟩
        clear ha hx hem HPG HPH HPG5
        have HLG : Hid ((dropG G x).length = G.length) := Lib.hid hll
        generalize dropG G x = G' at *
        go_upto_region 12 with (first
          | (go_at_call_of 22 (Value.pointer (some ⟨g, 0, none⟩)); refine (gp_has HPG6.out _).mono ?_; rintro e w6 ⟨rfl, rfl⟩; rw [HHX.out])
          | (go_at_call 22; refine (gp_has HPH5.out _).mono ?_; rintro e w6 ⟨rfl, rfl⟩; rw [HA.out])
          | (go_at_call 26; refine (gp_after HPG6.out HOX.out _).mono ?_; rintro e w7 ⟨v7, rfl, hf⟩; rw [HAX.out] at hf; have HF7 := Lib.hid hf.2; obtain ⟨p7, k7, rfl, -⟩ := row_form hf.1; clear hf)
          | (go_at_call_of 19 (Value.pointer (some ⟨g, 0, none⟩)); refine (gp_len (HPG6.out.keep HF7.out)).mono ?_; rintro e w6 ⟨rfl, rfl⟩; rw [HLG.out])
          | (go_at_call 19; refine (gp_len (HPH5.out.keep HF7.out)).mono ?_; rintro e w6 ⟨rfl, rfl⟩))
        go_wp2_with (go_at_call 19; refine (gp_len (HPH5.out.keep HF7.out)).mono ?_; rintro e w6 ⟨rfl, rfl⟩)
        go_loopw [77] (fun kv wl => ∃ k : Nat, k ≤ G.length ∧ kv = .int .i64 k ∧ Hid (Below w5.heap.size w5 wl)) (fun kv _ => G.length - (intOf kv).toNat)
        case atStart => exact ⟨0, Nat.zero_le _, rfl, HF7⟩
        case round =>
          clear HF7
          obtain ⟨k, hk, rfl, HK⟩ := hrel
          by_cases hkl : k < G.length
          · by_cases hkx : k = x
            · subst hkx
              go_wp2_with fail
              exact ⟨⟨k + 1, by omega, by go_num, HK⟩, by simp [intOf]; omega⟩
            · have hne : ((k : Int) == (x : Int)) = false := by
                rw [beq_eq_false_iff_ne]
                exact fun e => hkx (Int.ofNat_inj.1 e)
              have hne2 : (k == x) = false := by
                rw [beq_eq_false_iff_ne]
                exact hkx
              have H1 := Lib.hid (HSM.out k hkx)
              have HA1 : Hid ((aftI G (k : Int)).length ≤ 1000) := Lib.hid (by rw [aftI_nat HOK.out]; have := aft_len HOK.out k; omega)
              have HR1 : Hid ((rchI G (k : Int)).length ≤ 1000) := Lib.hid (by rw [rchI_nat HOK.out]; have := rchL_len G k; omega)
              have HNE := Lib.hid hkx
              clear hkx
              go_wp2_with (first
                | (go_at_call_of 26 (Value.pointer (some ⟨g, 0, none⟩)); refine (gp_after (HPG6.out.keep HK.out) HOX.out _).mono ?_; rintro e w7 ⟨v7, rfl, hf⟩; rw [H1.out.1] at hf; have HF7 := Lib.hid hf; clear hf)
                | (go_at_call 26; refine (gp_after (HPH5.out.keep (bthen HK.out HF7.out.2)) HOK.out _).mono ?_; rintro e w8 ⟨v8, rfl, hf⟩; have HF8 := Lib.hid hf; clear hf)
                | (go_at_call 24; refine (gsame_yes (HF10.out.ints.keep HF11.out.2) HF11.out.ints HR1.out).mono ?_; rintro e w12 ⟨rfl, hb⟩; have HB12 := Lib.hid hb; clear hb)
                | (go_at_call 24; refine (gsame_yes (HF7.out.ints.keep HF8.out.2) HF8.out.ints HA1.out).mono ?_; rintro e w9 ⟨rfl, hb⟩; have HB9 := Lib.hid (bthen (bthen (bthen HK.out HF7.out.2) HF8.out.2) hb); clear hb)
                | (go_at_call_of 25 (Value.pointer (some ⟨g, 0, none⟩)); refine (gp_reach (HPG6.out.keep HB9.out) HOX.out _).mono ?_; rintro e w10 ⟨v10, rfl, hf⟩; rw [H1.out.2] at hf; have HF10 := Lib.hid hf; clear hf)
                | (go_at_call 25; refine (gp_reach (HPH5.out.keep (bthen HB9.out HF10.out.2)) HOK.out _).mono ?_; rintro e w11 ⟨v11, rfl, hf⟩; have HF11 := Lib.hid hf; clear hf))
              · rename_i hh
                exact absurd (Int.ofNat_inj.1 hh) HNE.out
              exact ⟨⟨k + 1, by omega, by go_num, Lib.hid (bthen (bthen (bthen HB9.out HF10.out.2) HF11.out.2) HB12.out)⟩, by simp [intOf]; omega⟩
          · obtain rfl : k = G.length := by omega
            have HPG7 := Lib.hid (HPG6.out.keep HK.out)
            have HPH7 := Lib.hid (HPH5.out.keep HK.out)
            have HB7 := Lib.hid (bthen HB5.out HK.out)
            have HZ7 : Hid (w4.heap.size ≤ wr.heap.size) := Lib.hid (Nat.le_trans HS5.out HK.out.size)
            by_cases h64 : 64 ≤ G.length
            · have HAD : Hid (addBadG G' [] = 8 ∧ addN G' [] = G' ∧ addNo G' [] = 0) := Lib.hid (by
                have : addBadG G' [] = 8 := by unfold addBadG; rw [HLG.out, if_pos h64]
                exact ⟨this, by unfold addN; rw [if_neg (by rw [this]; decide)], by unfold addNo; rw [if_neg (by rw [this]; decide)]⟩)
              have d64 : decide ((64 : Int) < (G.length : Int)) = false := decide_eq_false (by omega)
              go_upto_region 19 with (go_at_call 12; refine (gp_add HPG7.out HOX.out (Nat.le_trans HSZ.out.2.1 HZ7.out) (ints0 _) (by decide)).mono ?_; rintro e w13 ⟨E, rfl, he, hm, hfr⟩; rw [HAD.out.1] at he; rw [HAD.out.2.1] at hm; rw [HAD.out.2.2]; have HE8 := Lib.hid he; have HP8 := Lib.hid hm; have HPH8 := Lib.hid (HPH7.out.frm hfr fun k hk hk2 => by have := HSZ.out; omega); have HB8 := Lib.hid (HB7.out.trans (hfr.below HB7.out.size fun k hk => by have := HSZ.out; omega)); obtain ⟨q8, rfl, _⟩ := (he.resolve_left fun h => by have := h.1; omega).2; clear he hm hfr)
              go_wp2_with (first
                | (go_at_call_of 19 (Value.pointer (some ⟨g, 0, none⟩)); refine (gp_len HP8.out).mono ?_; rintro e w6 ⟨rfl, rfl⟩; rw [HLG.out])
                | (go_at_call 14; refine (is_err HE8.out 8).mono ?_; rintro e w14 ⟨rfl, rfl⟩)
                | (go_at_call 10; refine (awake13 _).mono ?_; rintro e w15 ⟨rfl, hb⟩; have HB15 := Lib.hid hb; clear hb))
              go_ret
              exact ⟨rfl, bthen HB8.out HB15.out⟩
            · have HAD : Hid (addBadG G' [] = 0 ∧ (addN G' []).length = G.length + 1 ∧ addNo G' [] = G.length) := Lib.hid (by
                have : addBadG G' [] = 0 := by unfold addBadG; rw [HLG.out, if_neg h64]; rfl
                exact ⟨this, by unfold addN; rw [if_pos this]; simp [addG, HLG.out], by unfold addNo; rw [if_pos this, HLG.out]⟩)
              have d64 : decide ((64 : Int) < (G.length : Int) + 1) = false := decide_eq_false (by omega)
              have d64n : decide (64 < G.length + 1) = false := decide_eq_false (by omega)
              have hG1 : (((G.length + 1 : Nat)) : Int) = (G.length : Int) + 1 := by omega
              go_upto_region 19 with (go_at_call 12; refine (gp_add HPG7.out HOX.out (Nat.le_trans HSZ.out.2.1 HZ7.out) (ints0 _) (by decide)).mono ?_; rintro e w13 ⟨E, rfl, he, hm, hfr⟩; rw [HAD.out.1] at he; rw [HAD.out.2.2]; have HP8 := Lib.hid hm; have HPH8 := Lib.hid (HPH7.out.frm hfr fun k hk hk2 => by have := HSZ.out; omega); have HB8 := Lib.hid (HB7.out.trans (hfr.below HB7.out.size fun k hk => by have := HSZ.out; omega)); obtain rfl : E = .nilIface := (he.resolve_right fun h => h.1 rfl).2; clear he hm hfr)
              go_wp2_with (first
                | (go_at_call_of 19 (Value.pointer (some ⟨g, 0, none⟩)); refine (gp_len HP8.out).mono ?_; rintro e w6 ⟨rfl, rfl⟩; rw [HAD.out.2.1])
                | (go_at_call 19; refine (gp_len (HPH8.out.keep HB15.out)).mono ?_; rintro e w6 ⟨rfl, rfl⟩)
                | (go_at_call 10; refine (awake13 _).mono ?_; rintro e w15 ⟨rfl, hb⟩; have HB15 := Lib.hid hb; clear hb))
              go_ret
              exact ⟨rfl, bthen HB8.out HB15.out⟩
      · have HD : Hid (dropBadG G (x : Int) = 18 ∧ dropN G (x : Int) = G) := Lib.hid (by
          have : dropBadG G (x : Int) = 18 := by unfold dropBadG; rw [if_pos ha, if_neg hem]
          exact ⟨this, by unfold dropN; rw [if_neg (by rw [this]; decide)]⟩)
        have HRT : Hid (re = false) := Lib.hid (by rw [← HRE.out]; exact inI_no fun hm => hem ((end_iff hx).1 hm))
        obtain rfl := HRT.out
        have HE3 : Hid (ErrIs w5 E 18) := Lib.hid (HD.out.1 ▸ HE.out)
        have HPG6 : Hid (Gp w1.heap.size (fun k => (w1.heap.size ≤ k ∧ k < w2.heap.size) ∨ w4.heap.size ≤ k) w5 g G) := Lib.hid (by have := HPG5.out; rwa [HD.out.2] at this)
        clear ha hx hem
        go_wp2_with (first
          | (go_at_call 10; refine (awake13 _).mono ?_; rintro e w7 ⟨rfl, hb⟩; have HB7 := Lib.hid hb; have HPG7 := Lib.hid (HPG6.out.keep hb); clear hb HPG6)
          | (go_at_call 22; refine (gp_has HPG7.out _).mono ?_; rintro e w6 ⟨rfl, rfl⟩; rw [HA.out])
          | (go_at_call 22; refine (gp_has HPG6.out _).mono ?_; rintro e w6 ⟨rfl, rfl⟩; rw [HA.out])
          | (go_at_call 14; refine (is_err (HE3.out.held (Held.of_below HB7.out)) 18).mono ?_; rintro e w8 ⟨rfl, rfl⟩))
        go_ret
        exact ⟨rfl, bthen HB5.out HB7.out⟩
end
end Go.Proofs.Ytggjimeligbmcab
