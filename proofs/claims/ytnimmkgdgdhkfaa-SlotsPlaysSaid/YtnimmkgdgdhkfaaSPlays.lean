/-
  SlotsPlays' walk. Conditions: at most 60 puts and 20 indexes.
-/
import Derived.Test.YtnimmkgdgdhkfaaSPlays0
import Derived.Test.YtnimmkgdgdhkfaaLongs
import Derived.Test.YtnimmkgdgdhkfaaTail
import Derived.Deep.DeepCutAuto
import Derived.Deep.CutBlock
namespace Go.Proofs.Ytnimmkgdgdhkfaa
open Go.RowKit

set_option maxRecDepth 100000 in
set_option maxHeartbeats 4000000 in
theorem splays_walk (W : World) (sh : Int) (hsh : 0 ≤ sh) (k : Nat) (hs : sh % 8 = k) (hk : k < 8) (v vs : Value) (n ns : Nat) (fld : Nat → Nat → Int) (z : Nat → Int) (hO : OpsAt W v n 3 fld) (hS : LongsAt W vs ns z) (hn : n ≤ 60) (hns : ns ≤ 20) :
    Calls Try.prog 8 #[.int .u8 sh, v, vs] W fun e w' => e = .returned (.bool true) ∧ Below W.heap.size W w' := by
  obtain ⟨p, cap, rfl, hnm, hc⟩ := hO
  obtain ⟨pp, capp, rfl, hnm2, hc2⟩ := hS
  have HC := Lib.hid hc
  have HCP := Lib.hid hc2
  have ht : sh.tmod 8 = (k : Int) := by rw [Int.tmod_eq_emod_of_nonneg hsh]; exact hs
  have wt := wrap_two k (by omega)
  have d1 : decide ((60 : Int) < (n : Int)) = false := decide_eq_false (by omega)
  have d2 : decide ((20 : Int) < (ns : Int)) = false := decide_eq_false (by omega)
  have hk20 : k ≤ 20 := by omega
  obtain ⟨N, hN⟩ : ∃ N : Nat, (N : Int) = two k := ⟨(two k).toNat, by have := two_pos k; omega⟩
  have HN := Lib.hid hN
  obtain ⟨i0, hi0, hz0, hz1, hz2⟩ := info_parts infoPt
  clear hs hN hsh hc hc2 hnm hnm2
  go_enter Try.func8, Try.ntmps8
  go_upto_region 4 with fail
  rw [wt]
  clear wt ht
  go_wp2_with (first
    | (go_at_call 39; refine (rnew_ok k N hk20 HN.out _).mono ?_; rintro e w1 hn; obtain ⟨b, g, c, rfl, hm⟩ := hn.mine; have HM := Lib.hid hm; clear hm hn)
    | (go_at_call 40; refine (size_some _ b g c k _ HM.out.1).mono ?_; rintro e w2 ⟨rfl, hb⟩; have HM2 := Lib.hid (HM.out.keep hb); clear hb HM)
    | (go_at_call 18; refine (slots_any k hk20 _).mono ?_; rintro e w3 ⟨rfl, hw⟩; have HM3 := Lib.hid (HM2.out.keep (slots_below hw)); clear hw HM2))
  have HS : Hid (∃ ps xs, SPm W w3 b g c k (.slice none 0 0) ps xs ∧ SPr k ps xs ∧ ps.length ≤ 0) := Lib.hid ⟨[], _, ⟨HM3.out, World.ownsRow_nil _ _ _ _, by simp [Value.ownBlock], by simp⟩, SPr.start k N HN.out, by simp⟩
  clear HM3
  go_loopw [10, 52] (fun v i wl => ∃ j : Nat, j ≤ n ∧ i = .int .i64 j ∧ Hid (∃ ps xs, SPm W wl b g c k v ps xs ∧ SPr k ps xs ∧ ps.length ≤ j)) (fun _ i _ => n - (intOf i).toNat)
  case atStart => exact ⟨0, Nat.zero_le _, rfl, HS⟩
  case round =>
    clear HS
    obtain ⟨j, hj, rfl, HJ⟩ := hrel
    obtain ⟨ps, xs, hm, hr, hl⟩ := HJ.out
    clear HJ
    have HM := Lib.hid hm
    have HR := Lib.hid hr
    have HL := Lib.hid hl
    obtain ⟨pv, cv, rfl, hcv⟩ := row_form hm.2.1
    clear hm hr hl hcv
    by_cases hlt : j < n
    · obtain ⟨pb, off, rfl, hcell⟩ := HC.out.resolve_left (by omega)
      have q0 := keepc HM.out.1.2.1 (hcell j hlt 0 (by decide)).1
      have q1 := keepc HM.out.1.2.1 (hcell j hlt 1 (by decide)).1
      have q2 := keepc HM.out.1.2.1 (hcell j hlt 2 (by decide)).1
      simp only [Nat.add_zero] at q0
      have dj : decide ((0 : Int) ≤ (j : Int)) = true := decide_eq_true (by omega)
      generalize fld j 0 = s0 at q0
      generalize fld j 1 = s1 at q1
      generalize fld j 2 = s2 at q2
      clear hcell
      by_cases hs0 : s0 < 0 ∨ 4611686018427387904 < s0
      · have HB : Hid (∀ w1, Below wr.heap.size wr w1 → Calls Try.prog 41 #[.pointer (some ⟨b, 0, none⟩), .int .i64 s0, .agg #[.int .i64 s1, .int .i64 s2]] w1 fun e w' => ∃ E, e = .returned E ∧ Refused w1 w' E 5) := Lib.hid fun w1 hb => put_bad s0 s1 s2 w1 b g c k xs (HM.out.keep hb).1.1 hs0
        rcases hs0 with hs0 | hs0
        · go_wp2_with (first
            | (go_at_call 41; refine (HB.out _ ((Below.refl _ _).alloc (Nat.le_refl _) _)).mono ?_; rintro e w4 ⟨E, rfl, hr⟩; have hch := hr.hold (Below.refl _ _); have HM4 := Lib.hid (HM.out.keep (bthen ((Below.refl _ _).alloc (Nat.le_refl _) _) hr.below)); clear hr)
            | (go_at_call 16; refine (isN_chain 5 _ 1 5 (by assumption) (by decide)).mono ?_; rintro e y ⟨rfl, rfl⟩))
          exact ⟨⟨j + 1, by omega, by go_num, Lib.hid ⟨ps, xs, HM4.out, HR.out, by have := HL.out; omega⟩⟩, by simp [intOf]; omega⟩
        · have hs0' : ¬ s0 < 0 := by omega
          go_wp2_with (first
            | (go_at_call 41; refine (HB.out _ ((Below.refl _ _).alloc (Nat.le_refl _) _)).mono ?_; rintro e w4 ⟨E, rfl, hr⟩; have hch := hr.hold (Below.refl _ _); have HM4 := Lib.hid (HM.out.keep (bthen ((Below.refl _ _).alloc (Nat.le_refl _) _) hr.below)); clear hr)
            | (go_at_call 16; refine (isN_chain 5 _ 1 5 (by assumption) (by decide)).mono ?_; rintro e y ⟨rfl, rfl⟩))
          exact ⟨⟨j + 1, by omega, by go_num, Lib.hid ⟨ps, xs, HM4.out, HR.out, by have := HL.out; omega⟩⟩, by simp [intOf]; omega⟩
      · have h0 : 0 ≤ s0 := by omega
        have h1 : s0 ≤ 4611686018427387904 := by omega
        clear hs0
        obtain ⟨i, hi, hil, _⟩ := HM.out.1.1.slot s0
        have HI := Lib.hid (show s0 % two k = i ∧ i < xs.length from ⟨hi, hil⟩)
        clear hi hil
        go_wp2_with (first
          | (at_builtin; go_loud (refine wpList_append_row rfl _ _ 61 rfl 69 i0 (.agg #[.int .i64 0, .int .i64 0, .int .i64 0]) 3 24 Try.underlying61 hi0 hz0 hz1 hz2 rfl (by decide) (.slice pv ps.length cv) ps.length _ rfl (HM.out.keep (balloc (balloc (Below.refl _ _) _) _)).2.1 _ 1 1 [.int .i64 s0, .int .i64 s1, .int .i64 s2] rfl rfl (three_cell2 _ _ _ _ _ _) (fun x hx => by simp at hx; rcases hx with rfl | rfl | rfl <;> rfl) (by have := HL.out; unfold maxLen; omega) (by have := HL.out; omega) ?_; intro v' w6 hown6 hf6 hv6; have hc6 := hf6.obj (obj_old (.cells #[.int .i64 s0, .int .i64 s1, .int .i64 s2] 69) (obj_new wr (.cells #[.int .i64 s0, .int .i64 s1, .int .i64 s2] 69))) (fun e => by have := row_lt HM.out.2.1 e; omega); have c60 := (obj_cell hc6 0).trans rfl; have c61 := (obj_cell hc6 1).trans rfl; have c62 := (obj_cell hc6 2).trans rfl; obtain ⟨pv6, cv6, rfl, hcv6⟩ := row_form hown6; have HE := Lib.hid (HM.out.app (p := (s0, s1, s2)) ⟨h0, h1⟩ (balloc (Below.refl _ _) _) hown6 hf6 hv6); clear hown6 hf6 hv6 hc6 hcv6))
          | (go_at_call 41; refine (put_ok s0 s1 s2 _ b g c k xs HE.out.1.1 h0 h1 i HI.out.1 HI.out.2).mono ?_; rintro e w7 ⟨rfl, hs⟩; have HE7 := Lib.hid (HE.out.put hs); clear hs))
        exact ⟨⟨j + 1, by omega, by go_num, Lib.hid ⟨_, _, HE7.out, HR.out.put (s0, s1, s2) i HI.out.1 HI.out.2, by have := HL.out; simp; omega⟩⟩, by simp [intOf]; omega⟩
    · obtain rfl : j = n := by omega
      clear hlt HC
      have HL2 := Lib.hid (show ps.length ≤ 60 by have := HL.out; omega)
      clear HL
      go_wp2_with (go_at_call 42; refine (rclone_some _ b g c k xs HM.out.1.1).mono ?_; rintro e w4 hcl; obtain ⟨b2, g2, c2, rfl, hsp⟩ := SP2.start HM.out hcl; have HSP := Lib.hid hsp; clear hcl hsp)
      clear HM
      go_loopw [88] (fun i wl => ∃ j : Nat, j ≤ ns ∧ i = .int .i64 j ∧ Hid (SP2 W wl b g c k (.slice pv ps.length cv) ps xs b2 g2 c2)) (fun i _ => ns - (intOf i).toNat)
      case atStart => exact ⟨0, Nat.zero_le _, rfl, HSP⟩
      case round =>
        clear HSP
        obtain ⟨q, hq, rfl, HQ⟩ := hrel
        by_cases hlt : q < ns
        · obtain ⟨pb, off, rfl, hcell⟩ := HCP.out.resolve_left (by omega)
          have q0 := keepc HQ.out.1.1.2.1 (hcell q hlt).1
          have dj : decide ((0 : Int) ≤ (q : Int)) = true := decide_eq_true (by omega)
          generalize z q = s at q0
          clear hcell
          by_cases hs0 : s < 0 ∨ 4611686018427387904 < s
          · have HB : Hid (Calls Try.prog 43 #[.pointer (some ⟨b, 0, none⟩), .int .i64 s] wr fun e w' => ∃ E, e = .returned (.tuple #[.agg #[.int .i64 0, .int .i64 0], E]) ∧ Refused wr w' E 5) := Lib.hid (get_bad s wr b g c k xs HQ.out.1.1.1 hs0)
            have heq := neqEv_same 0 0
            rcases hs0 with hs0 | hs0
            · go_wp2_with (first
                | (go_at_call 43; refine HB.out.mono ?_; rintro e w5 ⟨E, rfl, hr⟩; have hch := hr.hold ((Below.refl _ _).alloc (Nat.le_refl _) (.cells #[.int .i64 0, .int .i64 0] 67)); have HM5 := Lib.hid (HQ.out.keep (balloc hr.below (.cells #[.int .i64 0, .int .i64 0] 67))); clear hr)
                | (go_at_call 16; refine (isN_chain 5 _ 1 5 (by assumption) (by decide)).mono ?_; rintro e y ⟨rfl, rfl⟩))
              exact ⟨⟨q + 1, by omega, by go_num, HM5⟩, by simp [intOf]; omega⟩
            · have hs0' : ¬ s < 0 := by omega
              go_wp2_with (first
                | (go_at_call 43; refine HB.out.mono ?_; rintro e w5 ⟨E, rfl, hr⟩; have hch := hr.hold ((Below.refl _ _).alloc (Nat.le_refl _) (.cells #[.int .i64 0, .int .i64 0] 67)); have HM5 := Lib.hid (HQ.out.keep (balloc hr.below (.cells #[.int .i64 0, .int .i64 0] 67))); clear hr)
                | (go_at_call 16; refine (isN_chain 5 _ 1 5 (by assumption) (by decide)).mono ?_; rintro e y ⟨rfl, rfl⟩))
              exact ⟨⟨q + 1, by omega, by go_num, HM5⟩, by simp [intOf]; omega⟩
          · have h0 : 0 ≤ s := by omega
            have h1 : s ≤ 4611686018427387904 := by omega
            clear hs0
            obtain ⟨i, hi, hil, _⟩ := HQ.out.1.1.1.slot s
            have ha := HR.out s i hi
            have HG : Hid (∀ w1, SP2 W w1 b g c k (.slice pv ps.length cv) ps xs b2 g2 c2 → Calls Try.prog 43 #[.pointer (some ⟨b, 0, none⟩), .int .i64 s] w1 fun e w' => e = .returned (.tuple #[.agg #[.int .i64 (evOf (lastPut ps (two k) s)).1, .int .i64 (evOf (lastPut ps (two k) s)).2], .nilIface]) ∧ Below w1.heap.size w1 w') := Lib.hid fun w1 h => get_ok s w1 b g c k xs h.1.1.1 h0 h1 i hi _ ha
            have HRF : Hid (∀ w1, SP2 W w1 b g c k (.slice pv ps.length cv) ps xs b2 g2 c2 → Calls Try.prog 44 #[.slice pv ps.length cv, .int .i64 (two k), .int .i64 s] w1 fun e w' => e = .returned (.agg #[.int .i64 (evOf (lastPut ps (two k) s)).1, .int .i64 (evOf (lastPut ps (two k) s)).2]) ∧ Below w1.heap.size w1 w') :=
              Lib.hid fun w1 h => refGet_any w1 _ ps h.1.2.1 (two k) s (by have := two_pos k; omega) (two_le hk20) h0 h1 h.1.2.2.2
            generalize (evOf (lastPut ps (two k) s)).1 = x1 at *
            generalize (evOf (lastPut ps (two k) s)).2 = x2 at *
            clear ha hi hil
            go_wp2_with (go_at_call 43; refine (HG.out _ HQ.out).mono ?_; rintro e w5 ⟨rfl, hb⟩; have HQ6 := Lib.hid (HQ.out.keep (balloc hb (.cells #[.int .i64 x1, .int .i64 x2] 67))); have HQ5 := Lib.hid (HQ.out.keep hb).lt; have HO5 := Lib.hid (obj_new w5 (.cells #[.int .i64 x1, .int .i64 x2] 67)); clear hb)
            have heq := neqEv_same x1 x2
            generalize w5.alloc (.cells #[.int .i64 x1, .int .i64 x2] 67) = w6 at *
            generalize w5.heap.size = ob at *
            have n0 : ∀ x : Later w6, x.to.cell? ⟨ob, 0, none⟩ = some (.int .i64 x1) := fun x => keepc x.below ((obj_cell HO5.out 0).trans rfl)
            have n1 : ∀ x : Later w6, x.to.cell? ⟨ob, 1, none⟩ = some (.int .i64 x2) := fun x => keepc x.below ((obj_cell HO5.out 1).trans rfl)
            have HS1 : Hid (∀ x : Later w6, Calls Try.prog 44 #[.slice pv ps.length cv, .int .i64 (two k), .int .i64 s] x.to fun e w'' => e = .returned (.agg #[.int .i64 x1, .int .i64 x2]) ∧ ∃ y : Later w6, w'' = y.to) :=
              fun x => (HRF.out _ (HQ6.out.keep x.below)).mono fun e w h => ⟨h.1, ⟨w, bthen x.below h.2⟩, rfl⟩
            refine wp_region_later_tail 14 (by kernel_rfl) (by kernel_rfl) ?_
            simp only [List.take_succ_cons, List.take_zero, List.drop_succ_cons, List.drop_zero]
            repeat (go_big_quiet_step ((go_at_call 44; exact HS1.out _)))
            refine wpQuiet_nil ?_
            intro w7 hw'
            obtain ⟨⟨w7', hb7⟩, hw7⟩ := hw'
            obtain rfl : w7 = w7' := hw7
            have HQ7 := Lib.hid (HQ6.out.keep hb7)
            have HO7 := Lib.hid ((hb7.block _ (lt_of_block HO5.out)).trans HO5.out)
            clear n0 n1 hb7
            go_wp2_with (first
              | (go_at_call 41; refine (HQ7.out.put s 77 0 h0 h1).mono ?_; rintro e w8 ⟨rfl, hsp, hf⟩; have HO8 := Lib.hid (hf.obj HO7.out (fun e => by have := HQ5.out; omega)); have HQ8 := Lib.hid hsp; clear hsp hf)
              | (go_at_call 43; refine (HG.out _ HQ8.out).mono ?_; rintro e w9 ⟨rfl, hb⟩; have hb10 := balloc hb (.cells #[.int .i64 x1, .int .i64 x2] 67); have HQ10 := Lib.hid (HQ8.out.keep hb10); have ho10 := (hb10.block _ (lt_of_block HO8.out)).trans HO8.out; have c100 := (obj_cell ho10 0).trans rfl; have c101 := (obj_cell ho10 1).trans rfl; clear hb hb10 ho10))
            exact ⟨⟨q + 1, by omega, by go_num, HQ10⟩, by simp [intOf]; omega⟩
        · obtain rfl : q = ns := by omega
          clear hlt
          go_wp2_with (go_at_call 38; refine (awake6 _).mono ?_; rintro e w6 ⟨rfl, hb6⟩; have HB6 := Lib.hid (bthen HQ.out.1.1.2.1 hb6); clear hb6)
          go_ret
          exact ⟨rfl, HB6.out⟩
end Go.Proofs.Ytnimmkgdgdhkfaa
