/-
  ActorPlays' loops. Conditions: at most 150 ops, at most 20 picks.
-/
import Derived.Test.YtpnglcafjofmnaaActState
import Derived.Test.YtpnglcafjofmnaaOpsA
import Derived.Test.YtpnglcafjofmnaaNumsI
import Derived.Deep.DeepCutAuto
import Derived.Deep.CutBlock
namespace Go.Proofs.Ytpnglcafjofmnaa
open Go.RowKit

set_option maxRecDepth 100000 in
set_option maxHeartbeats 4000000 in
theorem aplays_walk (W : World) (v vp : Value) (n np : Nat) (fld : Nat → Nat → Int) (z : Nat → Int) (hO : OpsAt W v n 2 fld) (hP : IntsAt W vp np z) (hn : n ≤ 150) (hnp : np ≤ 20) :
    Calls Try.prog 8 #[v, vp] W fun e w' => e = .returned (.bool true) ∧ Below W.heap.size W w' := by
  obtain ⟨p, cap, rfl, hnm, hc⟩ := hO
  obtain ⟨pp, capp, rfl, hnm2, hc2⟩ := hP
  have HC := Lib.hid hc
  have HCP := Lib.hid hc2
  have HS := Lib.hid (AP.start W)
  clear hc hnm hc2 hnm2
  go_enter Try.func8, Try.ntmps8
  go_wp2_with (go_at_call 35; refine (tnew _).mono ?_; rintro e w1 ⟨rfl, rfl⟩)
  generalize (W.alloc (.cells #[.slice none 0 0] 124)).alloc (.cells #[.slice none 0 0, .slice none 0 0, .slice none 0 0] 84) = w2 at *
  go_loopw [46] (fun i wl => ∃ k : Nat, k ≤ n ∧ i = .int .i64 k ∧ Hid (AP W wl k)) (fun i _ => n - (intOf i).toNat)
  case atStart => exact ⟨0, Nat.zero_le _, rfl, HS⟩
  case round =>
    obtain ⟨k, hk, rfl, HPS⟩ := hrel
    by_cases hlt : k < n
    · obtain ⟨b, off, rfl, hcell⟩ := HC.out.resolve_left (by omega)
      have hk4 := hcell k hlt
      obtain ⟨va, v1, v2, v3, xs, hmd, hbd⟩ := HPS.out
      have q0 := keepc hmd.1 (hk4 0 (by decide)).1
      have q1 := keepc hmd.1 (hk4 1 (by decide)).1
      have HMD := Lib.hid hmd
      have HBD := Lib.hid hbd
      generalize fld k 0 = z0 at q0
      generalize fld k 1 = z1 at q1
      simp only [Nat.add_zero] at q0
      clear hcell hk4 hmd hbd
      go_upto_block 2 with fail
      have HMD3 := Lib.hid (HMD.out.later (balloc (Below.refl _ _) (.cells #[.int .i64 z0, .int .i64 z1] 86)))
      have HOP := Lib.hid (obj_new wr (.cells #[.int .i64 z0, .int .i64 z1] 86))
      clear HMD q0 q1 HPS
      generalize wr.alloc (.cells #[.int .i64 z0, .int .i64 z1] 86) = w3 at *
      generalize wr.heap.size = ob at *
      go_cut [] (fun wx => Hid (AP W wx (k + 1)))
      case first =>
        have o1 : w3.cell? ⟨ob, 1, none⟩ = some (.int .i64 z1) := (obj_cell HOP.out 1).trans rfl
        by_cases e0 : z0 = 0
        · subst e0
          clear o1
          by_cases hl : (xs.length : Int) < 64
          · as_aux_lemma =>
              go_wp2_with fail
              refine (tadd_some w3 W.heap.size va xs HMD3.out.2.1 hl).mono ?_
              rintro e w4 ⟨rfl, hs⟩
              obtain ⟨vb, hmd4⟩ := HMD3.out.tb hs
              have HMD4 := Lib.hid hmd4
              clear hs hmd4
              go_wp2_with fail
              refine (radd_some w4 (W.heap.size + 1) v1 v2 v3 xs HMD4.out.2.2.1 hl).mono ?_
              rintro e w5 ⟨rfl, hs⟩
              obtain ⟨u1, u2, u3, hmd5⟩ := HMD4.out.rt hs
              obtain ⟨p5, c5, rfl, hc5⟩ := row_form hmd5.2.2.1.2.1
              have m0 := hmd5.2.2.1.c.1
              rw [show (xs ++ [((0 : Int), false, (0 : Int))]).length = xs.length + 1 by simp] at m0
              have HMD5 := Lib.hid hmd5
              clear hs hmd5 hc5
              go_wp2_with (go_at_call 21; refine (isN_nil 0).mono ?_; rintro e w9 ⟨rfl, rfl⟩)
              go_meet
              exact Lib.hid ⟨_, _, _, _, _, HMD5.out, HBD.out.add hl⟩
          · as_aux_lemma =>
              have hl' : 64 ≤ (xs.length : Int) := by omega
              go_wp2_with fail
              refine (tadd_many w3 W.heap.size va xs HMD3.out.2.1 hl').mono ?_
              rintro e w4 ⟨q, rfl, hch, hb⟩
              have HMD4 := Lib.hid (HMD3.out.later hb)
              have HCH := Lib.hid hch
              clear hch hb
              go_wp2_with fail
              refine (radd_many w4 (W.heap.size + 1) v1 v2 v3 xs HMD4.out.2.2.1 hl').mono ?_
              rintro e w5 ⟨rfl, rfl⟩
              go_wp2_with (go_at_call 21; refine (isN_chain 8 _ 1 8 HCH.out (by decide)).mono ?_; rintro e w9 ⟨rfl, rfl⟩)
              go_meet
              exact Lib.hid ⟨_, _, _, _, _, HMD4.out, HBD.out.le⟩
        by_cases e1 : z0 = 1
        · subst e1
          rcases wr_or xs z1 with ⟨nn, hn0, hw⟩ | ⟨i, a, rfl, hi, hs⟩
          · as_aux_lemma =>
              have HNN := Lib.hid hn0
              clear hn0
              go_wp2_with fail
              refine (park_bad w3 W.heap.size va xs z1 nn HMD3.out.2.1 hw).mono ?_
              rintro e w4 ⟨q, rfl, hch, hb⟩
              have HMD4 := Lib.hid (HMD3.out.later hb)
              have o1' : w4.cell? ⟨ob, 1, none⟩ = some (.int .i64 z1) := (obj_cell (obj_keepA hb HOP.out) 1).trans rfl
              have HCH := Lib.hid hch
              clear hch hb o1
              go_wp2_with fail
              refine (rpark_bad w4 (W.heap.size + 1) v1 v2 v3 xs z1 nn HMD4.out.2.2.1 hw HNN.out).mono ?_
              rintro e w5 ⟨rfl, rfl⟩
              go_wp2_with (go_at_call 21; refine (isN_chain nn _ 1 nn HCH.out HNN.out).mono ?_; rintro e w9 ⟨rfl, rfl⟩)
              go_meet
              exact Lib.hid ⟨_, _, _, _, _, HMD4.out, HBD.out.le⟩
          · as_aux_lemma =>
              have HS := Lib.hid hs
              have HI := Lib.hid hi
              clear hs hi
              go_wp2_with fail
              refine (park_ok w3 W.heap.size va xs i a HMD3.out.2.1 HI.out HS.out).mono ?_
              rintro e w4 ⟨rfl, hset⟩
              have hop4 := hset.step.obj HMD3.out.2.1 HOP.out (by decide) (by decide)
              obtain ⟨vb, hmd4⟩ := HMD3.out.tb hset.step
              have HMD4 := Lib.hid hmd4
              have o1' : w4.cell? ⟨ob, 1, none⟩ = some (.int .i64 i) := (obj_cell hop4 1).trans rfl
              clear hset hop4 hmd4 o1
              go_wp2_with fail
              refine (rpark_ok w4 (W.heap.size + 1) v1 v2 v3 xs i a HMD4.out.2.2.1 HI.out HS.out).mono ?_
              rintro e w5 ⟨rfl, hset⟩
              obtain ⟨u1, u2, u3, hmd5⟩ := HMD4.out.rt hset.step
              have HMD5 := Lib.hid hmd5
              clear hset hmd5 o1'
              go_wp2_with (go_at_call 21; refine (isN_nil 0).mono ?_; rintro e w9 ⟨rfl, rfl⟩)
              go_meet
              exact Lib.hid ⟨_, _, _, _, _, HMD5.out, HBD.out.set HI.out (.inl (park_wk a))⟩
        by_cases e2 : z0 = 2
        · subst e2
          rcases wr_or xs z1 with ⟨nn, hn0, hw⟩ | ⟨i, a, rfl, hi, hs⟩
          · as_aux_lemma =>
              have HNN := Lib.hid hn0
              clear hn0
              go_wp2_with fail
              refine (wake_bad w3 W.heap.size va xs z1 nn HMD3.out.2.1 hw).mono ?_
              rintro e w4 ⟨q, rfl, hch, hb⟩
              have HMD4 := Lib.hid (HMD3.out.later hb)
              have o1' : w4.cell? ⟨ob, 1, none⟩ = some (.int .i64 z1) := (obj_cell (obj_keepA hb HOP.out) 1).trans rfl
              have HCH := Lib.hid hch
              clear hch hb o1
              go_wp2_with fail
              refine (rwake_bad w4 (W.heap.size + 1) v1 v2 v3 xs z1 nn HMD4.out.2.2.1 hw HNN.out).mono ?_
              rintro e w5 ⟨rfl, rfl⟩
              go_wp2_with (go_at_call 21; refine (isN_chain nn _ 1 nn HCH.out HNN.out).mono ?_; rintro e w9 ⟨rfl, rfl⟩)
              go_meet
              exact Lib.hid ⟨_, _, _, _, _, HMD4.out, HBD.out.le⟩
          · as_aux_lemma =>
              have HS := Lib.hid hs
              have HI := Lib.hid hi
              have HB0 := Lib.hid (show 0 ≤ a.2.2 ∧ a.2.2 < 4611686018427387904 by have := HBD.out.at hi; omega)
              clear hs hi
              go_wp2_with fail
              refine (wake_ok w3 W.heap.size va xs i a HMD3.out.2.1 HI.out HS.out HB0.out.1 HB0.out.2).mono ?_
              rintro e w4 ⟨rfl, hset⟩
              have hop4 := hset.step.obj HMD3.out.2.1 HOP.out (by decide) (by decide)
              obtain ⟨vb, hmd4⟩ := HMD3.out.tb hset.step
              have HMD4 := Lib.hid hmd4
              have o1' : w4.cell? ⟨ob, 1, none⟩ = some (.int .i64 i) := (obj_cell hop4 1).trans rfl
              clear hset hop4 hmd4 o1
              go_wp2_with fail
              refine (rwake_ok w4 (W.heap.size + 1) v1 v2 v3 xs i a HMD4.out.2.2.1 HI.out HS.out HB0.out.1 HB0.out.2).mono ?_
              rintro e w5 ⟨rfl, hset⟩
              obtain ⟨u1, u2, u3, hmd5⟩ := HMD4.out.rt hset.step
              have HMD5 := Lib.hid hmd5
              clear hset hmd5 o1'
              go_wp2_with (go_at_call 21; refine (isN_nil 0).mono ?_; rintro e w9 ⟨rfl, rfl⟩)
              go_meet
              exact Lib.hid ⟨_, _, _, _, _, HMD5.out, HBD.out.set HI.out (.inr (wake_wk a))⟩
        by_cases e3 : z0 = 3
        · subst e3
          rcases wr_or xs z1 with ⟨nn, hn0, hw⟩ | ⟨i, a, rfl, hi, hs⟩
          · as_aux_lemma =>
              have HNN := Lib.hid hn0
              have dn : (nn == 0) = false := by simp [hn0]
              clear hn0
              go_wp2_with fail
              refine (rwrong_bad w3 (W.heap.size + 1) v1 v2 v3 xs z1 nn HMD3.out.2.2.1 hw).mono ?_
              rintro e w4 ⟨rfl, rfl⟩
              go_wp2_with fail
              refine (clear_bad w3 W.heap.size va xs z1 nn HMD3.out.2.1 hw).mono ?_
              rintro e w4 ⟨q, rfl, hch, hb⟩
              have HMD4 := Lib.hid (HMD3.out.later hb)
              have HCH := Lib.hid hch
              clear hch hb o1
              go_wp2_with (go_at_call 21; refine (isN_chain nn _ 1 nn HCH.out HNN.out).mono ?_; rintro e w9 ⟨rfl, rfl⟩)
              go_meet
              exact Lib.hid ⟨_, _, _, _, _, HMD4.out, HBD.out.le⟩
          · as_aux_lemma =>
              have HS := Lib.hid hs
              have HI := Lib.hid hi
              clear hs hi
              go_wp2_with fail
              refine (rwrong_ok w3 (W.heap.size + 1) v1 v2 v3 xs i a HMD3.out.2.2.1 HI.out HS.out).mono ?_
              rintro e w4 ⟨rfl, rfl⟩
              go_wp2_with fail
              refine (clear_ok w3 W.heap.size va xs i a HMD3.out.2.1 HI.out HS.out).mono ?_
              rintro e w4 ⟨rfl, hset⟩
              have hop4 := hset.step.obj HMD3.out.2.1 HOP.out (by decide) (by decide)
              obtain ⟨vb, hmd4⟩ := HMD3.out.tb hset.step
              have HMD4 := Lib.hid hmd4
              have o1' : w4.cell? ⟨ob, 1, none⟩ = some (.int .i64 i) := (obj_cell hop4 1).trans rfl
              obtain ⟨m0, m1, m2, _, _, _⟩ := HMD4.out.2.2.1.c
              obtain ⟨g1, c1, g2, c2, g3, c3, rfl, rfl, rfl, hlt, hm, k1, k2, k3, f1, f2, f3⟩ := HMD4.out.2.2.1.at HI.out
              have dj : decide (0 ≤ (i : Int)) = true := decide_eq_true (by omega)
              clear hset hop4 hmd4 o1
              have hend := (HMD4.out.rt ((RtSet.refl HMD4.out.2.2.1).s1 HI.out false).step)
              obtain ⟨u1, u2, u3, hmd5⟩ := hend
              have HMD5 := Lib.hid (hmd5.later (w' := (w4.setCell ⟨g2, i, none⟩ (.bool false)).drew) ⟨rfl, rfl, rfl, Nat.le_refl _, fun _ _ => rfl⟩)
              clear hmd5
              go_wp2_with (go_at_call 21; refine (isN_nil 0).mono ?_; rintro e w9 ⟨rfl, rfl⟩)
              go_region
              go_wp2
              go_meet
              exact Lib.hid ⟨_, _, _, _, _, HMD5.out, HBD.out.set HI.out (.inl rfl)⟩
        by_cases e4 : z0 = 4
        · subst e4
          rcases wr_or xs z1 with ⟨nn, hn0, hw⟩ | ⟨i, a, rfl, hi, hs⟩
          · as_aux_lemma =>
              have HNN := Lib.hid hn0
              have dn : (nn == 0) = false := by simp [hn0]
              clear hn0
              go_wp2_with fail
              refine (rwrong_bad w3 (W.heap.size + 1) v1 v2 v3 xs z1 nn HMD3.out.2.2.1 hw).mono ?_
              rintro e w4 ⟨rfl, rfl⟩
              go_wp2_with fail
              refine (halt_bad w3 W.heap.size va xs z1 nn HMD3.out.2.1 hw).mono ?_
              rintro e w4 ⟨q, rfl, hch, hb⟩
              have HMD4 := Lib.hid (HMD3.out.later hb)
              have HCH := Lib.hid hch
              clear hch hb o1
              go_wp2_with (go_at_call 21; refine (isN_chain nn _ 1 nn HCH.out HNN.out).mono ?_; rintro e w9 ⟨rfl, rfl⟩)
              go_meet
              exact Lib.hid ⟨_, _, _, _, _, HMD4.out, HBD.out.le⟩
          · as_aux_lemma =>
              have HS := Lib.hid hs
              have HI := Lib.hid hi
              clear hs hi
              go_wp2_with fail
              refine (rwrong_ok w3 (W.heap.size + 1) v1 v2 v3 xs i a HMD3.out.2.2.1 HI.out HS.out).mono ?_
              rintro e w4 ⟨rfl, rfl⟩
              go_wp2_with fail
              refine (halt_ok w3 W.heap.size va xs i a HMD3.out.2.1 HI.out HS.out).mono ?_
              rintro e w4 ⟨rfl, hset⟩
              have hop4 := hset.step.obj HMD3.out.2.1 HOP.out (by decide) (by decide)
              obtain ⟨vb, hmd4⟩ := HMD3.out.tb hset.step
              have HMD4 := Lib.hid hmd4
              have o1' : w4.cell? ⟨ob, 1, none⟩ = some (.int .i64 i) := (obj_cell hop4 1).trans rfl
              obtain ⟨m0, m1, m2, _, _, _⟩ := HMD4.out.2.2.1.c
              obtain ⟨g1, c1, g2, c2, g3, c3, rfl, rfl, rfl, hlt, hm, k1, k2, k3, f1, f2, f3⟩ := HMD4.out.2.2.1.at HI.out
              have dj : decide (0 ≤ (i : Int)) = true := decide_eq_true (by omega)
              have HOP4 := Lib.hid hop4
              clear hset hop4 hmd4 o1
              obtain ⟨hg12, _, _, hgM1, hgM2, _⟩ := Rt.ne HMD4.out.2.2.1
              have ho1 : g1 ≠ ob := fun e => row_ne HMD4.out.2.2.1.2.1 HOP4.out (by decide) (by simp [Value.ownBlock, e])
              have ho2 : g2 ≠ ob := fun e => row_ne HMD4.out.2.2.1.2.2.1 HOP4.out (by decide) (by simp [Value.ownBlock, e])
              have ho1' := Ne.symm ho1
              have ho2' := Ne.symm ho2
              have hg12' := Ne.symm hg12
              have hgM1' := Ne.symm hgM1
              have hgM2' := Ne.symm hgM2
              have hst := (((RtSet.refl HMD4.out.2.2.1).s0 HI.out 2).s1 (set_at HI.out) false).step
              rw [List.set_set] at hst
              obtain ⟨u1, u2, u3, hmd5⟩ := HMD4.out.rt hst
              have HMD5 := Lib.hid (hmd5.later (w' := ((w4.setCell ⟨g1, i, none⟩ (.int .i64 2)).setCell ⟨g2, i, none⟩ (.bool false)).drew) ⟨rfl, rfl, rfl, Nat.le_refl _, fun _ _ => rfl⟩)
              clear hmd5 hst
              go_wp2_with (go_at_call 21; refine (isN_nil 0).mono ?_; rintro e w9 ⟨rfl, rfl⟩)
              go_region
              go_wp2
              go_meet
              exact Lib.hid ⟨_, _, _, _, _, HMD5.out, HBD.out.set HI.out (.inl rfl)⟩
        clear o1
        go_wp2_with fail
        go_meet
        exact Lib.hid ⟨_, _, _, _, _, HMD3.out, HBD.out.le⟩
      case rest =>
        clear HMD3 HOP HBD
        have HEND := hcut
        obtain ⟨va, v1, v2, v3, xs, hmd, hbd⟩ := hcut.out
        clear hcut
        obtain ⟨m0, m1, m2, _, _, _⟩ := hmd.2.2.1.c
        have hlen := hbd.1
        have HMD := Lib.hid hmd
        have HR1 := Lib.hid (row_form hmd.2.2.1.2.1)
        obtain ⟨p1, c1, rfl, hc1⟩ := HR1.out
        clear hmd hbd hc1 HR1
        go_wp2_with fail
        go_loopw [193] (fun i wl => ∃ j : Nat, j ≤ xs.length ∧ i = .int .i64 j ∧ Hid (Below wc.heap.size wc wl)) (fun i _ => xs.length - (intOf i).toNat)
        case atStart => exact ⟨0, Nat.zero_le _, rfl, Lib.hid (Below.refl _ _)⟩
        case round =>
          obtain ⟨j, hj, rfl, HBL⟩ := hrel
          by_cases hjl : j < xs.length
          · as_aux_lemma =>
              obtain ⟨a, ha⟩ : ∃ a, xs[j]? = some a := ⟨_, List.getElem?_eq_getElem hjl⟩
              obtain ⟨g1, c1', g2, c2, g3, c3, hv1, rfl, rfl, _, hm, k1, k2, k3, _, _, _⟩ := HMD.out.2.2.1.at ha
              simp only [Value.slice.injEq] at hv1
              obtain ⟨rfl, _, rfl⟩ := hv1
              have n0 : ∀ x : Later wr, x.to.cell? ⟨W.heap.size + 1, 0, none⟩ = some (.slice (some ⟨g1, 0, none⟩) xs.length c1) := fun x => keepc (bthen HBL.out x.below) m0
              have n1 : ∀ x : Later wr, x.to.cell? ⟨W.heap.size + 1, 1, none⟩ = some (.slice (some ⟨g2, 0, none⟩) xs.length c2) := fun x => keepc (bthen HBL.out x.below) m1
              have n2 : ∀ x : Later wr, x.to.cell? ⟨W.heap.size + 1, 2, none⟩ = some (.slice (some ⟨g3, 0, none⟩) xs.length c3) := fun x => keepc (bthen HBL.out x.below) m2
              have HS1 : Hid (∀ x : Later wr, Calls Try.prog 45 #[.pointer (some ⟨W.heap.size, 0, none⟩), .int .i64 j] x.to fun e w'' => e = .returned (.int .i64 a.1) ∧ ∃ y : Later wr, w'' = y.to) := fun x => (tstate_in _ _ _ _ _ _ (HMD.out.later (bthen HBL.out x.below)).2.1 ha).mono fun e w h => ⟨h.1, ⟨w, bthen x.below h.2⟩, rfl⟩
              have HS2 : Hid (∀ x : Later wr, Calls Try.prog 46 #[.pointer (some ⟨W.heap.size, 0, none⟩), .int .i64 j] x.to fun e w'' => e = .returned (.bool a.2.1) ∧ ∃ y : Later wr, w'' = y.to) := fun x => (ttoken_in _ _ _ _ _ _ (HMD.out.later (bthen HBL.out x.below)).2.1 ha).mono fun e w h => ⟨h.1, ⟨w, bthen x.below h.2⟩, rfl⟩
              have HS3 : Hid (∀ x : Later wr, Calls Try.prog 47 #[.pointer (some ⟨W.heap.size, 0, none⟩), .int .i64 j] x.to fun e w'' => e = .returned (.int .i64 a.2.2) ∧ ∃ y : Later wr, w'' = y.to) := fun x => (twakes_in _ _ _ _ _ _ (HMD.out.later (bthen HBL.out x.below)).2.1 ha).mono fun e w h => ⟨h.1, ⟨w, bthen x.below h.2⟩, rfl⟩
              obtain ⟨st, tok, wk⟩ := a
              simp only at k1 k2 k3 HS1 HS2 HS3
              have r1 : ∀ x : Later wr, x.to.cell? ⟨g1, j, none⟩ = some (.int .i64 st) := fun x => keepc (bthen HBL.out x.below) k1
              have r2 : ∀ x : Later wr, x.to.cell? ⟨g2, j, none⟩ = some (.bool tok) := fun x => keepc (bthen HBL.out x.below) k2
              have r3 : ∀ x : Later wr, x.to.cell? ⟨g3, j, none⟩ = some (.int .i64 wk) := fun x => keepc (bthen HBL.out x.below) k3
              have dj : decide (0 ≤ (j : Int)) = true := decide_eq_true (by omega)
              clear ha k1 k2 k3 m0 m1 m2
              go_wp2_with fail
              refine wp_region_later (by kernel_rfl) (by kernel_rfl) ?_
              repeat (go_big_quiet_step (first | (go_at_call 45; exact HS1.out _) | (go_at_call 46; exact HS2.out _) | (go_at_call 47; exact HS3.out _)))
              refine wpQuiet_nil ?_
              intro _ hw'
              obtain ⟨nq, rfl⟩ := hw'
              clear n0 n1 n2 r1 r2 r3
              go_wp2
              exact ⟨⟨j + 1, by omega, by go_num, Lib.hid (bthen HBL.out nq.below)⟩, by simp [intOf]; omega⟩
          · as_aux_lemma =>
              obtain rfl : j = xs.length := by omega
              have HE : Hid (AP W wr (k + 1)) := by
                obtain ⟨_, _, _, _, _, h1, h2⟩ := HEND.out
                exact Lib.hid ⟨_, _, _, _, _, h1.later HBL.out, h2⟩
              clear m0 m1 m2 hjl
              go_wp2_with fail
              exact ⟨⟨k + 1, by omega, by go_num, HE⟩, by simp [intOf]; omega⟩
    · obtain rfl : k = n := by omega
      clear hlt
      obtain ⟨va, v1, v2, v3, xs, hmd, hbd⟩ := HPS.out
      have hlen := hbd.1
      have HMD := Lib.hid hmd
      clear hmd hbd HPS HC
      go_wp2_with fail
      refine (runnable_any wr W.heap.size va xs HMD.out.2.1 (by omega)).mono ?_
      rintro e w4 ⟨vr, rfl, hr⟩
      obtain ⟨pr, cr, rfl, hcr⟩ := row_form hr.2.1
      have HMD4 := Lib.hid (HMD.out.later hr.1)
      have HR := Lib.hid hr
      clear hr hcr HMD
      go_wp2_with fail
      refine (rrunnable_any w4 (W.heap.size + 1) v1 v2 v3 xs HMD4.out.2.2.1 (by omega)).mono ?_
      rintro e w5 ⟨vq, rfl, hq⟩
      obtain ⟨pq, cq, rfl, hcq⟩ := row_form hq.2.1
      have hmd5 := HMD4.out.later hq.1
      have hol : (readyL xs xs.length).length ≤ 64 := by have := readyL_le xs xs.length; omega
      have HLN : Hid ((readyL xs xs.length).length = 0 → ∀ (wl : World) (x : Int), Below w5.heap.size w5 wl → Calls Try.prog 51 #[.pointer (some ⟨W.heap.size, 0, none⟩), .int .i64 x] wl fun e w' => e = .returned (.tuple #[.int .i64 0, .bool false]) ∧ Below wl.heap.size wl w') := fun h0 wl x hb => legal_none wl _ _ xs x (hmd5.later hb).2.1 hlen h0
      have HLS : Hid (∀ (wl : World) (x y : Int), Below w5.heap.size w5 wl → (readyL xs xs.length)[pickAt x (readyL xs xs.length).length]? = some y → Calls Try.prog 51 #[.pointer (some ⟨W.heap.size, 0, none⟩), .int .i64 x] wl fun e w' => e = .returned (.tuple #[.int .i64 y, .bool true]) ∧ Below wl.heap.size wl w') := fun wl x y hb hy => legal_some wl _ _ xs x (hmd5.later hb).2.1 hlen y hy
      have HLEN : Hid (∀ n, Calls Try.prog 50 #[.pointer (some ⟨W.heap.size, 0, none⟩)] (w5.drewN n) fun e w'' => e = .returned (.int .i64 xs.length) ∧ ∃ m, w'' = w5.drewN m) := fun n => (tlen _ _ _ _ (hmd5.later (w' := w5.drewN n) ⟨rfl, rfl, rfl, Nat.le_refl _, fun _ _ => rfl⟩).2.1).mono fun e w h => ⟨h.1, n, h.2.symm⟩
      have HI1 := Lib.hid (ints_atA (HR.out.keep hq.1).2.1)
      have HI2 := Lib.hid (ints_atA hq.2.1)
      have HB5 := Lib.hid hmd5.1
      obtain ⟨p1, c1, rfl, hc1⟩ := row_form hmd5.2.2.1.2.1
      have m0 := hmd5.2.2.1.c.1
      clear hq hcq hmd5 hc1 HR HMD4
      generalize readyL xs xs.length = os at *
      go_wp2_with fail
      go_quiet ((go_at_call 50; exact HLEN.out _))
      have HB6 := Lib.hid (show Below w5.heap.size w5 (w5.drewN nq) from ⟨rfl, rfl, rfl, Nat.le_refl _, fun _ _ => rfl⟩)
      clear HLEN m0
      go_wp2_with fail
      generalize w5.drewN nq = w6 at *
      go_loopw [256] (fun i wl => ∃ j : Nat, j ≤ os.length ∧ i = .int .i64 j ∧ Hid (Below w5.heap.size w5 wl)) (fun i _ => os.length - (intOf i).toNat)
      case atStart => exact ⟨0, Nat.zero_le _, rfl, HB6⟩
      case round =>
        obtain ⟨j, hj, rfl, HBL⟩ := hrel
        by_cases hjl : j < os.length
        · as_aux_lemma =>
            obtain ⟨gr, rfl, hcr⟩ := HI1.out.resolve_left (by omega)
            obtain ⟨gq, rfl, hcq⟩ := HI2.out.resolve_left (by omega)
            have k1 := keepc HBL.out (hcr j _ (List.getElem?_eq_getElem hjl))
            have k2 := keepc HBL.out (hcq j _ (List.getElem?_eq_getElem hjl))
            generalize os[j] = y at *
            have dj : decide (0 ≤ (j : Int)) = true := decide_eq_true (by omega)
            clear hcr hcq
            go_wp2_with fail
            go_region
            go_wp2
            exact ⟨⟨j + 1, by omega, by go_num, Lib.hid (bthen HBL.out ⟨rfl, rfl, rfl, Nat.le_refl _, fun _ _ => rfl⟩)⟩, by simp [intOf]; omega⟩
        · obtain rfl : j = os.length := by omega
          clear hjl
          go_wp2_with fail
          go_loopw [271] (fun i wl => ∃ j : Nat, j ≤ np ∧ i = .int .i64 j ∧ Hid (Below w5.heap.size w5 wl)) (fun i _ => np - (intOf i).toNat)
          case atStart => exact ⟨0, Nat.zero_le _, rfl, HBL⟩
          case round =>
            obtain ⟨j, hj, rfl, HBK⟩ := hrel
            by_cases hjl : j < np
            · obtain ⟨bp, op, rfl, hcp⟩ := HCP.out.resolve_left (by omega)
              obtain ⟨h1, h2, h3⟩ := hcp j hjl
              have kz := keepc (bthen HB5.out HBK.out) h1
              clear hcp h1
              generalize z j = x at *
              rcases Nat.eq_zero_or_pos os.length with h0 | h0
              · as_aux_lemma =>
                  have dpos : decide (0 < (os.length : Int)) = false := decide_eq_false (by omega)
                  have dpos2 : decide (0 < os.length) = false := decide_eq_false (by omega)
                  have HZ := Lib.hid h0
                  clear h0
                  go_wp2_with (go_at_call 51; refine (HLN.out HZ.out _ _ HBK.out).mono ?_; rintro e w7 ⟨rfl, hb7⟩; have HB7 := Lib.hid (bthen HBK.out hb7); clear hb7)
                  exact ⟨⟨j + 1, by omega, by go_num, HB7⟩, by simp [intOf]; omega⟩
              · as_aux_lemma =>
                  obtain ⟨y, hy⟩ : ∃ y, os[pickAt x os.length]? = some y := ⟨_, List.getElem?_eq_getElem (pick_lt x _ h0 (by omega))⟩
                  obtain ⟨q0, q1⟩ := pick_in x os.length h0 (by omega)
                  obtain ⟨gr, rfl, hcr⟩ := HI1.out.resolve_left (by omega)
                  have kr := keepc HBK.out (hcr _ y hy)
                  have HY := Lib.hid hy
                  have dpos : decide (0 < (os.length : Int)) = true := decide_eq_true (by omega)
                  have dn : ((os.length : Int) == 0) = false := by rw [beq_eq_false_iff_ne]; omega
                  have dn2 : ¬ (os.length : Int) = 0 := by omega
                  unfold pickAt at kr
                  clear hcr hy
                  go_wp2_with (go_at_call 51; refine (HLS.out _ _ _ HBK.out HY.out).mono ?_; rintro e w7 ⟨rfl, hb7⟩; have HB7 := Lib.hid (bthen HBK.out hb7); have kr7 := keepc hb7 kr; clear hb7)
                  exact ⟨⟨j + 1, by omega, by go_num, HB7⟩, by simp [intOf]; omega⟩
            · as_aux_lemma =>
                obtain rfl : j = np := by omega
                clear hjl
                go_wp2_with (go_at_call 34; refine (awake5 _).mono ?_; rintro e w8 ⟨rfl, hb8⟩)
                go_ret
                exact ⟨rfl, bthen (bthen HB5.out HBK.out) hb8⟩
end Go.Proofs.Ytpnglcafjofmnaa
