/-
  ClockPlays' loop. Conditions: at most 150 ops.
-/
import Derived.Test.YtpnglcafjofmnaaCStep
import Derived.Deep.DeepCutAuto
import Derived.Deep.CutBlock
namespace Go.Proofs.Ytpnglcafjofmnaa
open Go.RowKit

set_option maxRecDepth 100000 in
set_option maxHeartbeats 4000000 in
theorem loop_walk (W : World) (v : Value) (n : Nat) (fld : Nat → Nat → Int) (hO : OpsAt W v n 3 fld) (hn : n ≤ 150) :
    Calls Try.prog 6 #[v] W fun e w' => e = .returned (.bool true) ∧ Below W.heap.size W w' := by
  obtain ⟨p, cap, rfl, hnm, hc⟩ := hO
  have HC := Lib.hid hc
  have HS := Lib.hid (LP.start W)
  clear hc hnm
  go_enter Try.func6, Try.ntmps6
  go_wp2_with fail
  generalize (W.alloc (.cells #[.int .i64 0, .slice none 0 0] 51)).alloc (.cells #[.int .i64 0, .slice none 0 0] 54) = w2 at *
  go_loopw [26] (fun i wl => ∃ k : Nat, k ≤ n ∧ i = .int .i64 k ∧ Hid (LP W wl)) (fun i _ => n - (intOf i).toNat)
  case atStart => exact ⟨0, Nat.zero_le _, rfl, HS⟩
  case round =>
    obtain ⟨k, hk, rfl, HPS⟩ := hrel
    by_cases hlt : k < n
    · obtain ⟨b, off, rfl, hcell⟩ := HC.out.resolve_left (by omega)
      have hk4 := hcell k hlt
      obtain ⟨vc, vm, ms, now, hbw, hcp, hmc, hvc⟩ := HPS.out
      have HBW := Lib.hid hbw
      have HVC := Lib.hid hvc
      clear hvc
      have HCP := Lib.hid hcp
      have HMC := Lib.hid hmc
      have q0 := keepc hbw (hk4 0 (by decide)).1
      have q1 := keepc hbw (hk4 1 (by decide)).1
      have q2 := keepc hbw (hk4 2 (by decide)).1
      generalize fld k 0 = z0 at q0
      generalize fld k 1 = z1 at q1
      generalize fld k 2 = z2 at q2
      simp only [Nat.add_zero] at q0
      clear hcell hk4 hbw hcp hmc
      go_upto_block 2 with fail
      have hcp3 := HCP.out.keepB (balloc (Below.refl _ _) (.cells #[.int .i64 z0, .int .i64 z1, .int .i64 z2] 56))
      have hmc3 := obj_old (.cells #[.int .i64 z0, .int .i64 z1, .int .i64 z2] 56) HMC.out
      have HBW3 := Lib.hid (balloc HBW.out (.cells #[.int .i64 z0, .int .i64 z1, .int .i64 z2] 56))
      have HOP := Lib.hid (obj_new wr (.cells #[.int .i64 z0, .int .i64 z1, .int .i64 z2] 56))
      have HCP3 := Lib.hid hcp3
      have HMC3 := Lib.hid hmc3
      clear hcp3 hmc3 HCP HMC HBW q0 q1 q2 HPS
      generalize wr.alloc (.cells #[.int .i64 z0, .int .i64 z1, .int .i64 z2] 56) = w3 at *
      generalize wr.heap.size = ob at *
      go_cut [] (fun wx => Hid (LP W wx))
      case first =>
        obtain ⟨pm, cm, rfl, hcm⟩ := row_form HCP3.out.2.1
        have hml := HCP3.out.2.2.2.2
        have hz := HCP3.out.2.2
        have m0 : w3.cell? ⟨W.heap.size + 1, 0, none⟩ = some (.int .i64 now) := (obj_cell HMC3.out 0).trans rfl
        have m1 : w3.cell? ⟨W.heap.size + 1, 1, none⟩ = some (.slice pm ms.length cm) := (obj_cell HMC3.out 1).trans rfl
        have o1 : w3.cell? ⟨ob, 1, none⟩ = some (.int .i64 z1) := (obj_cell HOP.out 1).trans rfl
        have o2 : w3.cell? ⟨ob, 2, none⟩ = some (.int .i64 z2) := (obj_cell HOP.out 2).trans rfl
        clear hcm
        by_cases e0 : z0 = 0
        · subst e0
          by_cases hbad : z1 ≤ now ∨ 1099511627776 < z1 ∨ z2 < 0 ∨ 63 < z2 ∨ 64 ≤ (ms.length : Int)
          · obtain ⟨nn, hne, hr, hs⟩ := set_bad (w3 := w3) (b := W.heap.size) (vc := vc) (p := pm) (c := cm) (ms := ms) hbad
            have HS := Lib.hid hs
            have HNE := Lib.hid hne
            clear hs hne hbad
            go_wp2_with fail
            refine hr.mono ?_
            rintro e w4 ⟨rfl, hb4⟩
            have hb5 := balloc hb4 (.cells #[.int .i64 now, .slice pm ms.length cm] 54)
            have hmc5 := obj_keep hb5 HMC3.out
            have hop5 := obj_keep hb5 HOP.out
            have hnb5 := obj_new w4 (.cells #[.int .i64 now, .slice pm ms.length cm] 54)
            have hcp5 := HCP3.out.keepB hb5
            have o1' : (w4.alloc (.cells #[.int .i64 now, .slice pm ms.length cm] 54)).cell? ⟨ob, 1, none⟩ = some (.int .i64 z1) := (obj_cell hop5 1).trans rfl
            have o2' : (w4.alloc (.cells #[.int .i64 now, .slice pm ms.length cm] 54)).cell? ⟨ob, 2, none⟩ = some (.int .i64 z2) := (obj_cell hop5 2).trans rfl
            have HB5 := Lib.hid hb5
            have HMC5 := Lib.hid hmc5
            have HNB5 := Lib.hid hnb5
            have HCP5 := Lib.hid hcp5
            clear hb5 hmc5 hop5 hnb5 hcp5 hb4 hr o1 o2 m0 m1
            go_wp2_with fail
            generalize w4.alloc (.cells #[.int .i64 now, .slice pm ms.length cm] 54) = w5 at *
            generalize w4.heap.size = nb at *
            refine (HS.out w5 HCP5.out.1).mono ?_
            rintro e w6 ⟨eb, rfl, hch, hb6⟩
            have hmc6 := obj_keep hb6 HMC5.out
            have hnb6 := obj_keep hb6 HNB5.out
            have n0 : w6.cell? ⟨nb, 0, none⟩ = some (.int .i64 now) := (obj_cell hnb6 0).trans rfl
            have n1 : w6.cell? ⟨nb, 1, none⟩ = some (.slice pm ms.length cm) := (obj_cell hnb6 1).trans rfl
            have k0 := (obj_cell hmc6 0).trans rfl
            have k1 := (obj_cell hmc6 1).trans rfl
            have f0 := obj_free hmc6 0
            have f1 := obj_free hmc6 1
            have hend := LP.put (bthen HBW3.out HB5.out) HVC.out (Frm.of_below hb6 _) (.inl rfl) (HCP5.out.keepB hb6) hmc6 rfl
            have HEND := Lib.hid hend
            have HCH := Lib.hid hch
            clear hend hmc6 hnb6 hch hb6 o1' o2'
            go_wp2_with (go_at_call 21; refine (isN_chain nn _ 1 nn HCH.out HNE.out).mono ?_; rintro e w7 ⟨rfl, rfl⟩)
            go_meet
            exact HEND
          · have HG := Lib.hid (show now < z1 ∧ z1 ≤ 1099511627776 ∧ 0 ≤ z2 ∧ z2 ≤ 63 ∧ (ms.length : Int) < 64 by omega)
            clear hbad
            go_wp2_with fail
            refine (rset_any w3 (.slice pm ms.length cm) ms now (z1, z2) HCP3.out.2.1 (Int.not_le.2 HG.out.1) (Int.not_lt.2 HG.out.2.1) (Int.not_lt.2 HG.out.2.2.1) (Int.not_lt.2 HG.out.2.2.2.1) (Int.not_le.2 HG.out.2.2.2.2)).mono ?_
            rintro e w4 ⟨v', rfl, hnr⟩
            obtain ⟨p4, c4, rfl, hc4⟩ := row_form hnr.1
            have hn5 := hnr.keep (balloc (Below.refl _ _) (.cells #[.int .i64 now, .slice p4 (ms ++ [(z1, z2)]).length c4] 54))
            have hmc5 := obj_keep hn5.2.2 HMC3.out
            have hop5 := obj_keep hn5.2.2 HOP.out
            have hnb5 := obj_new w4 (.cells #[.int .i64 now, .slice p4 (ms ++ [(z1, z2)]).length c4] 54)
            have hck5 := HCP3.out.1.keepB hn5.2.2
            have o1' : (w4.alloc (.cells #[.int .i64 now, .slice p4 (ms ++ [(z1, z2)]).length c4] 54)).cell? ⟨ob, 1, none⟩ = some (.int .i64 z1) := (obj_cell hop5 1).trans rfl
            have o2' : (w4.alloc (.cells #[.int .i64 now, .slice p4 (ms ++ [(z1, z2)]).length c4] 54)).cell? ⟨ob, 2, none⟩ = some (.int .i64 z2) := (obj_cell hop5 2).trans rfl
            have HN5 := Lib.hid hn5
            have HMC5 := Lib.hid hmc5
            have HNB5 := Lib.hid hnb5
            have HCK5 := Lib.hid hck5
            clear hn5 hmc5 hop5 hnb5 hck5 hnr hc4 o1 o2 m0 m1
            generalize (ms ++ [(z1, z2)]).length = l4 at *
            go_wp2_with fail
            generalize w4.alloc (.cells #[.int .i64 now, .slice p4 l4 c4] 54) = w5 at *
            generalize w4.heap.size = nb at *
            refine (set_any w5 W.heap.size (z1, z2) now vc (srt ms) (by have := HG.out.2.2.2.2; rw [srt_length]; omega) HCK5.out (by have := HG.out.1; show now < z1; omega) hz.1 (by have := HG.out.2.1; show z1 ≤ _; omega) (by have := HG.out.2.2.1; show 0 ≤ z2; omega) (by have := HG.out.2.2.2.1; show z2 < 64; omega)).mono ?_
            rintro e w6 hd
            obtain ⟨v2, rfl, hcp6, hf6, hv6⟩ := HCP3.out.set (by have := HG.out.2.2.2.2; omega) HN5.out hd
            have hmc6 := step_obj HCK5.out hf6 HMC5.out (by decide) (by decide)
            have hnb6 := step_obj HCK5.out hf6 HNB5.out (by decide) (by decide)
            have n0 : w6.cell? ⟨nb, 0, none⟩ = some (.int .i64 now) := (obj_cell hnb6 0).trans rfl
            have n1 : w6.cell? ⟨nb, 1, none⟩ = some (.slice p4 l4 c4) := (obj_cell hnb6 1).trans rfl
            have k0 := (obj_cell hmc6 0).trans rfl
            have k1 := (obj_cell hmc6 1).trans rfl
            have f0 := obj_free hmc6 0
            have f1 := obj_free hmc6 1
            have hend := LP.put (bthen HBW3.out HN5.out.2.2) HVC.out hf6 hv6 hcp6 hmc6 rfl
            have HEND := Lib.hid hend
            clear hend hmc6 hnb6 hf6 hv6 hcp6 hd o1' o2'
            go_wp2_with (go_at_call 21; refine (isN_nil 0).mono ?_; rintro e w7 ⟨rfl, rfl⟩)
            go_meet
            exact HEND
        by_cases e1 : z0 = 1
        · subst e1
          go_wp2_with fail
          refine (rdrop_any w3 pm cm ms now z2 HCP3.out.2.1 (by omega)).mono ?_
          rintro e w4 ⟨v', rfl, hnr⟩
          obtain ⟨p4, c4, rfl, hc4⟩ := row_form hnr.1
          have hn5 := hnr.keep (balloc (Below.refl _ _) (.cells #[.int .i64 now, .slice p4 (keptL ms (fun t => t.2 == z2) ms.length).length c4] 54))
          have hmc5 := obj_keep hn5.2.2 HMC3.out
          have hop5 := obj_keep hn5.2.2 HOP.out
          have hnb5 := obj_new w4 (.cells #[.int .i64 now, .slice p4 (keptL ms (fun t => t.2 == z2) ms.length).length c4] 54)
          have hck5 := HCP3.out.1.keepB hn5.2.2
          have o2' : (w4.alloc (.cells #[.int .i64 now, .slice p4 (keptL ms (fun t => t.2 == z2) ms.length).length c4] 54)).cell? ⟨ob, 2, none⟩ = some (.int .i64 z2) := (obj_cell hop5 2).trans rfl
          have HN5 := Lib.hid hn5
          have HMC5 := Lib.hid hmc5
          have HNB5 := Lib.hid hnb5
          have HCK5 := Lib.hid hck5
          clear hn5 hmc5 hop5 hnb5 hck5 hnr hc4 o1 o2 m0 m1
          go_wp2_with fail
          generalize w4.alloc (.cells #[.int .i64 now, .slice p4 (keptL ms (fun t => t.2 == z2) ms.length).length c4] 54) = w5 at *
          generalize w4.heap.size = nb at *
          refine (drop_some w5 W.heap.size vc (srt ms) now z2 HCK5.out (by rw [srt_length]; omega)).mono ?_
          rintro e w6 hd
          obtain ⟨v2, rfl, hcp6, hf6, hv6⟩ := HCP3.out.drop HN5.out hd
          have hmc6 := step_obj HCK5.out hf6 HMC5.out (by decide) (by decide)
          have hnb6 := step_obj HCK5.out hf6 HNB5.out (by decide) (by decide)
          have n0 : w6.cell? ⟨nb, 0, none⟩ = some (.int .i64 now) := (obj_cell hnb6 0).trans rfl
          have n1 : w6.cell? ⟨nb, 1, none⟩ = some (.slice p4 (keptL ms (fun t => t.2 == z2) ms.length).length c4) := (obj_cell hnb6 1).trans rfl
          have k0 := (obj_cell hmc6 0).trans rfl
          have k1 := (obj_cell hmc6 1).trans rfl
          have f0 := obj_free hmc6 0
          have f1 := obj_free hmc6 1
          have hend := LP.put (bthen HBW3.out HN5.out.2.2) HVC.out hf6 (.inl hv6) hcp6 hmc6 rfl
          have HEND := Lib.hid hend
          clear hend hmc6 hnb6 hf6 hv6 hcp6 hd o2'
          go_wp2_with fail
          go_meet
          exact HEND
        by_cases e2 : z0 = 2
        · subst e2
          by_cases hbad : z1 < 1 ∨ 1099511627776 - now < z1
          · obtain ⟨nn, hne, hr, hs⟩ := tick_bad (w3 := w3) (b := W.heap.size) (vc := vc) (p := pm) (m := ms.length) (c := cm) (ts := srt ms) hz.1 hz.2.1 hbad
            have HS := Lib.hid hs
            have HNE := Lib.hid hne
            clear hs hne hbad
            go_wp2_with fail
            refine hr.mono ?_
            rintro e w4 ⟨rfl, hb4⟩
            have hb5 := balloc hb4 (.cells #[.int .i64 now, .slice pm ms.length cm] 54)
            have hmc5 := obj_keep hb5 HMC3.out
            have hop5 := obj_keep hb5 HOP.out
            have hnb5 := obj_new w4 (.cells #[.int .i64 now, .slice pm ms.length cm] 54)
            have hcp5 := HCP3.out.keepB hb5
            have o1' : (w4.alloc (.cells #[.int .i64 now, .slice pm ms.length cm] 54)).cell? ⟨ob, 1, none⟩ = some (.int .i64 z1) := (obj_cell hop5 1).trans rfl
            have HB5 := Lib.hid hb5
            have HMC5 := Lib.hid hmc5
            have HNB5 := Lib.hid hnb5
            have HCP5 := Lib.hid hcp5
            clear hb5 hmc5 hop5 hnb5 hcp5 hb4 hr o1 o2 m0 m1
            go_wp2_with fail
            generalize w4.alloc (.cells #[.int .i64 now, .slice pm ms.length cm] 54) = w5 at *
            generalize w4.heap.size = nb at *
            refine (HS.out w5 HCP5.out.1).mono ?_
            rintro e w6 ⟨eb, rfl, hch, hb6⟩
            have hmc6 := obj_keep hb6 HMC5.out
            have hnb6 := obj_keep hb6 HNB5.out
            have n0 : w6.cell? ⟨nb, 0, none⟩ = some (.int .i64 now) := (obj_cell hnb6 0).trans rfl
            have n1 : w6.cell? ⟨nb, 1, none⟩ = some (.slice pm ms.length cm) := (obj_cell hnb6 1).trans rfl
            have k0 := (obj_cell hmc6 0).trans rfl
            have k1 := (obj_cell hmc6 1).trans rfl
            have f0 := obj_free hmc6 0
            have f1 := obj_free hmc6 1
            have hend := LP.put (bthen HBW3.out HB5.out) HVC.out (Frm.of_below hb6 _) (.inl rfl) (HCP5.out.keepB hb6) hmc6 rfl
            have HEND := Lib.hid hend
            have HCH := Lib.hid hch
            clear hend hmc6 hnb6 hch hb6 o1'
            go_wp2_with (go_at_call 21; refine (isN_chain nn _ 1 nn HCH.out HNE.out).mono ?_; rintro e w7 ⟨rfl, rfl⟩)
            go_loopw [96] (fun i wl => i = .int .i64 0 ∧ wl = w6) (fun _ _ => 0)
            case atStart => exact ⟨rfl, rfl⟩
            case round =>
              obtain ⟨rfl, rfl⟩ := hrel
              go_wp2_with fail
              go_meet
              exact HEND
          · have HG := Lib.hid (show 1 ≤ z1 ∧ now + z1 ≤ 1099511627776 by omega)
            clear hbad
            go_wp2_with fail
            refine (rtick_any w3 now z1 pm cm ms HCP3.out.2.1 (by omega) hz.1 hz.2.1 (Int.not_lt.2 HG.out.1) (by have := HG.out.2; omega)).mono ?_
            intro e w4 hrt
            obtain ⟨v', vo, ls, rfl, hrk, hvo, hls, hle, hb4⟩ := rtick_told hrt
            obtain ⟨p4, c4, rfl, hc4⟩ := row_form hrk
            obtain ⟨po, co, rfl, hco⟩ := row_form hvo
            have hb5 := balloc hb4 (.cells #[.int .i64 (now + z1), .slice p4 ls.length c4] 54)
            have hF5 : Frm (fun _ => False) w4 (w4.alloc (.cells #[.int .i64 (now + z1), .slice p4 ls.length c4] 54)) := Frm.of_below (balloc (Below.refl _ _) _) _
            have hrk5 := hF5.row hrk fun _ _ => id
            have hvo5 := hF5.row hvo fun _ _ => id
            have hmc5 := obj_keep hb5 HMC3.out
            have hop5 := obj_keep hb5 HOP.out
            have hnb5 := obj_new w4 (.cells #[.int .i64 (now + z1), .slice p4 ls.length c4] 54)
            have hck5 := HCP3.out.1.keepB hb5
            have o1' : (w4.alloc (.cells #[.int .i64 (now + z1), .slice p4 ls.length c4] 54)).cell? ⟨ob, 1, none⟩ = some (.int .i64 z1) := (obj_cell hop5 1).trans rfl
            have HB5 := Lib.hid hb5
            have HRK5 := Lib.hid hrk5
            have HVO5 := Lib.hid hvo5
            have HLS := Lib.hid (And.intro hls hle)
            have HMC5 := Lib.hid hmc5
            have HNB5 := Lib.hid hnb5
            have HCK5 := Lib.hid hck5
            clear hb5 hF5 hrk5 hvo5 hmc5 hop5 hnb5 hck5 hc4 hco hrt hrk hvo hls hle hb4 o1 o2 m0 m1
            go_wp2_with fail
            generalize w4.alloc (.cells #[.int .i64 (now + z1), .slice p4 ls.length c4] 54) = w5 at *
            generalize w4.heap.size = nb at *
            refine (tick_some w5 W.heap.size vc (srt ms) now z1 HCK5.out (by rw [srt_length]; omega) HG.out.1 hz.1 HG.out.2).mono ?_
            rintro e w6 hd
            obtain ⟨v2, r, rfl, hcp6, hvo6, hr6, hf6, hv6⟩ := tick_both HCP3.out HG.out.1 HG.out.2 HB5.out HRK5.out HVO5.out HLS.out.1 HLS.out.2 hd
            obtain ⟨pr, cr, rfl, hcr⟩ := row_form hr6
            have hmc6 := step_obj HCK5.out hf6 HMC5.out (by decide) (by decide)
            have hnb6 := step_obj HCK5.out hf6 HNB5.out (by decide) (by decide)
            have hon := toldL_le ms (now + z1)
            have HVO6 := Lib.hid (ints_at hvo6)
            have HR6 := Lib.hid (ints_at hr6)
            have HEND : Hid (∀ wl : World, Below w6.heap.size w6 wl → LP W ((wl.setCell ⟨W.heap.size + 1, 0, none⟩ (.int .i64 (now + z1))).setCell ⟨W.heap.size + 1, 1, none⟩ (.slice p4 ls.length c4))) := fun wl hb => LP.put (bthen HBW3.out HB5.out) HVC.out (hf6.trans (Frm.of_below hb _)) (.inl hv6) (hcp6.keepB hb) (obj_keep hb hmc6) rfl
            have HM6 := Lib.hid hmc6
            have HN6 := Lib.hid hnb6
            clear hmc6 hnb6 hf6 hv6 hcp6 hd o1' hvo6 hr6 hcr
            have HON := Lib.hid (show (toldL ms (now + z1)).length ≤ 64 by omega)
            generalize toldL ms (now + z1) = os at *
            clear hon
            go_wp2_with (go_at_call 21; refine (isN_nil 0).mono ?_; rintro e w7 ⟨rfl, rfl⟩)
            go_loopw [96] (fun i wl => ∃ j : Nat, j ≤ os.length ∧ i = .int .i64 j ∧ Hid (Below w6.heap.size w6 wl)) (fun i _ => os.length - (intOf i).toNat)
            case atStart => exact ⟨0, Nat.zero_le _, rfl, Lib.hid (Below.refl _ _)⟩
            case round =>
              obtain ⟨j, hj, rfl, HBL⟩ := hrel
              by_cases hjl : j < os.length
              · obtain ⟨go', rfl, ho⟩ := HVO6.out.resolve_left (by omega)
                obtain ⟨gr, rfl, hr⟩ := HR6.out.resolve_left (by omega)
                have c1 := keepc HBL.out (ho j _ (List.getElem?_eq_getElem hjl))
                have c2 := keepc HBL.out (hr j _ (List.getElem?_eq_getElem hjl))
                generalize os[j] = x at *
                have dj : decide (0 ≤ (j : Int)) = true := decide_eq_true (by omega)
                have h64 := HON.out
                clear ho hr
                go_wp2_with fail
                go_region
                go_wp2
                exact ⟨⟨j + 1, by omega, by go_num, Lib.hid (bthen HBL.out (bdrewN _ 1))⟩, by simp [intOf]; omega⟩
              · obtain rfl : j = os.length := by omega
                have hn6 := obj_keep HBL.out HN6.out
                have n0 := (obj_cell hn6 0).trans rfl
                have n1 := (obj_cell hn6 1).trans rfl
                have hm6 := obj_keep HBL.out HM6.out
                have k0 := (obj_cell hm6 0).trans rfl
                have k1 := (obj_cell hm6 1).trans rfl
                have f0 := obj_free hm6 0
                have f1 := obj_free hm6 1
                clear hm6 hn6 hjl
                go_wp2_with fail
                go_meet
                exact Lib.hid (HEND.out _ HBL.out)
        clear m0 m1 o1 o2
        go_wp2_with fail
        go_meet
        exact Lib.hid ⟨vc, _, ms, now, HBW3.out, HCP3.out, HMC3.out, HVC.out⟩
      case rest =>
        clear HBW3 HCP3 HMC3 HOP
        obtain ⟨vc, vm, ms, now, hbw, hcp3, hmc3, hvc⟩ := hcut.out
        clear hcut
        have HBW := Lib.hid hbw
        have HVC := Lib.hid hvc
        clear hvc
        obtain ⟨pm, cm, rfl, hcm⟩ := row_form hcp3.2.1
        have m1 := (obj_cell hmc3 1).trans rfl
        have hml := hcp3.2.2.2.2
        have HCP := Lib.hid hcp3
        have HMC := Lib.hid hmc3
        clear hcp3 hmc3 hcm hbw
        go_wp2_with fail
        rcases hms : srt ms with _ | ⟨t, l⟩
        · refine (next_none wc _ vc now (hms ▸ HCP.out.1)).mono ?_
          rintro e w' ⟨rfl, rfl⟩
          go_wp2_with fail
          refine (least_any wc pm cm ms HCP.out.2.1 (by omega)).mono ?_
          rintro e w4 ⟨a, rfl, hla, hb4⟩
          obtain ⟨hm0, rfl, _⟩ := (least_head hla).resolve_right (fun ⟨m, _, _, l, h⟩ => by rw [hms] at h; cases h)
          have hcp4 := HCP.out.keepB hb4
          have hmc4 := (hb4.block _ (lt_of_block HMC.out)).trans HMC.out
          have m0 : w4.cell? ⟨W.heap.size + 1, 0, none⟩ = some (.int .i64 now) := (obj_cell hmc4 0).trans rfl
          have m1 : w4.cell? ⟨W.heap.size + 1, 1, none⟩ = some (.slice pm ms.length cm) := (obj_cell hmc4 1).trans rfl
          have HNOW : Hid (∀ n, Calls Try.prog 31 #[.pointer (some ⟨W.heap.size, 0, none⟩)] (w4.drewN n) fun e w'' => e = .returned (.int .i64 now) ∧ ∃ m, w'' = w4.drewN m) := fun n => (now_some _ _ vc _ now (hcp4.keepB (bdrewN _ n)).1).mono fun e w h => ⟨h.1, n, h.2.symm⟩
          have HWAIT : Hid (∀ n, Calls Try.prog 32 #[.pointer (some ⟨W.heap.size, 0, none⟩)] (w4.drewN n) fun e w'' => e = .returned (.int .i64 ms.length) ∧ ∃ m, w'' = w4.drewN m) := fun n => (waiting_some _ _ vc _ now (hcp4.keepB (bdrewN _ n)).1).mono fun e w h => ⟨by rw [h.1, srt_length], n, h.2.symm⟩
          have HEND : Hid (∀ n, LP W (w4.drewN n)) := fun n => ⟨vc, _, ms, now, (HBW.out.trans (hb4.mono HBW.out.size)).trans ((bdrewN _ n).mono (Nat.le_trans HBW.out.size hb4.size)), hcp4.keepB (bdrewN _ n), hmc4, HVC.out⟩
          clear hcp4 hmc4 hb4 hla hms
          clear hm0
          go_wp2_with fail
          go_quiet ((first | (go_at_call 31; exact HNOW.out _) | (go_at_call 32; exact HWAIT.out _)))
          go_wp2
          exact ⟨⟨k + 1, by omega, by go_num, HEND.out _⟩, by simp [intOf]; omega⟩
        · refine (next_some wc _ vc t l now (hms ▸ HCP.out.1)).mono ?_
          rintro e w' ⟨rfl, rfl⟩
          go_wp2_with fail
          refine (least_any wc pm cm ms HCP.out.2.1 (by omega)).mono ?_
          rintro e w4 ⟨a, rfl, hla, hb4⟩
          obtain ⟨m, rfl, hml2, l', hl'⟩ := (least_head hla).resolve_left (fun ⟨_, _, h⟩ => by rw [hms] at h; cases h)
          obtain rfl : t = (tm ms m, wh ms m) := by rw [hms] at hl'; exact (List.cons.inj hl').1
          have hcp4 := HCP.out.keepB hb4
          have hmc4 := (hb4.block _ (lt_of_block HMC.out)).trans HMC.out
          have m0 : w4.cell? ⟨W.heap.size + 1, 0, none⟩ = some (.int .i64 now) := (obj_cell hmc4 0).trans rfl
          have m1 : w4.cell? ⟨W.heap.size + 1, 1, none⟩ = some (.slice pm ms.length cm) := (obj_cell hmc4 1).trans rfl
          have HNOW : Hid (∀ n, Calls Try.prog 31 #[.pointer (some ⟨W.heap.size, 0, none⟩)] (w4.drewN n) fun e w'' => e = .returned (.int .i64 now) ∧ ∃ m, w'' = w4.drewN m) := fun n => (now_some _ _ vc _ now (hcp4.keepB (bdrewN _ n)).1).mono fun e w h => ⟨h.1, n, h.2.symm⟩
          have HWAIT : Hid (∀ n, Calls Try.prog 32 #[.pointer (some ⟨W.heap.size, 0, none⟩)] (w4.drewN n) fun e w'' => e = .returned (.int .i64 ms.length) ∧ ∃ m, w'' = w4.drewN m) := fun n => (waiting_some _ _ vc _ now (hcp4.keepB (bdrewN _ n)).1).mono fun e w h => ⟨by rw [h.1, srt_length], n, h.2.symm⟩
          have HEND : Hid (∀ n, LP W (w4.drewN n)) := fun n => ⟨vc, _, ms, now, (HBW.out.trans (hb4.mono HBW.out.size)).trans ((bdrewN _ n).mono (Nat.le_trans HBW.out.size hb4.size)), hcp4.keepB (bdrewN _ n), hmc4, HVC.out⟩
          obtain ⟨gm, rfl⟩ := row_at hcp4.2.1 (by omega)
          have g0 := (rk_cells hcp4.2.1 hml2).1
          have dm : decide (0 ≤ (m : Int)) = true := by rw [decide_eq_true_eq]; omega
          clear hcp4 hmc4 hb4 hla hms hl'
          go_wp2_with fail
          go_quiet ((first | (go_at_call 31; exact HNOW.out _) | (go_at_call 32; exact HWAIT.out _)))
          go_wp2
          exact ⟨⟨k + 1, by omega, by go_num, HEND.out _⟩, by simp [intOf]; omega⟩
    · obtain rfl : k = n := by omega
      obtain ⟨vc, vm, ms, now, hbw, hcp, hmc, hvc⟩ := HPS.out
      have HBW := Lib.hid hbw
      clear hlt hbw hcp hmc
      go_wp2_with (go_at_call 22; refine (awake4 _).mono ?_; rintro e w3 ⟨rfl, hb3⟩)
      go_ret
      exact ⟨rfl, bthen HBW.out hb3⟩
end Go.Proofs.Ytpnglcafjofmnaa
