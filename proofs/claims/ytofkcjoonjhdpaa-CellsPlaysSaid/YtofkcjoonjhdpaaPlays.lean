/-
  CellsPlays: the walk. Condition: the things to be done are read as a list of numbers.
-/
import Derived.Test.YtofkcjoonjhdpaaPlay
import Derived.Test.YtofkcjoonjhdpaaOps3
import Derived.LoopTactic
import Derived.BigQuiet
namespace Go.Proofs.Ytofkcjoonjhdpaa
open Go.RowKit

theorem PS.below {W0 W : World} {ba bm k : Nat} (h : PS W0 W ba bm k) : Below W0.heap.size W0 W := by
  obtain ⟨v, u, xs, st, h, _⟩ := h
  exact h.below
theorem start_two {W w1 : World} {ba : Nat} (h : Ar w1 ba (.slice none 0 0) [] 0) (hb : Below W.heap.size W w1) (hba : W.heap.size ≤ ba) :
    PS W (w1.alloc (.cells #[.slice none 0 0, .int .i64 0] 29)) ba w1.heap.size 0 := by
  refine ⟨_, _, [], 0, ⟨h.keepB ((Below.refl _ _).alloc (Nat.le_refl _) _), ⟨obj_new _ _, World.ownsRow_nil _ _ _ _⟩, by simp [Value.ownBlock], balloc hb _, hba, hb.size, by simp [Value.ownBlock], by simp [Value.ownBlock]⟩, Nat.le_refl _, by decide, by decide, by simp⟩

/-- What holds at the head of a round of the first loop. -/
def Rel1 (W : World) (ba bm n : Nat) (i : Value) (wl : World) : Prop := ∃ k : Nat, k ≤ n ∧ i = .int .i64 k ∧ PS W wl ba bm k

/-- .. of the second: the clone's cells are written one by one. -/
def Rel2 (W : World) (bc : Nat) (xs : List Int) (st : Int) (i : Value) (wl : World) : Prop := ∃ k : Nat, k ≤ xs.length ∧ i = .int .i64 k ∧ ∃ zs : List Int, Mine W wl bc zs (st + 2 * (k : Int)) ∧ zs.length = xs.length ∧ ∀ j, k ≤ j → zs[j]? = xs[j]?
/-- .. of the third: the arena's are read. -/
def Rel3 (W : World) (ba bm : Nat) (u : Value) (xs : List Int) (st : Int) (i : Value) (wl : World) : Prop := ∃ k : Nat, k ≤ xs.length ∧ i = .int .i64 k ∧ ∃ v, Two W wl ba bm v u xs (st + (k : Int)) xs st

set_option maxRecDepth 100000 in
set_option maxHeartbeats 4000000 in
theorem plays_walk (W : World) (v : Value) (n : Nat) (fld : Nat → Nat → Int) (hO : OpsAt W v n 4 fld) (hn : n ≤ 100) :
    Calls Try.prog 3 #[v] W fun e w' => e = .returned (.bool true) ∧ Below W.heap.size W w' := by
  obtain ⟨p, cap, rfl, hnm, hc⟩ := hO
  have HC := Lib.hid hc
  clear hc hnm
  go_enter Try.func3, Try.ntmps3
  go_wp2_with fail
  refine (new_any W).mono ?_
  rintro e w1 ⟨rfl, ha, hb1⟩
  have HS := Lib.hid (start_two ha hb1 (Nat.le_refl _))
  clear ha hb1
  go_wp2_with fail
  generalize w1.alloc (.cells #[.slice none 0 0, .int .i64 0] 29) = w2 at *
  generalize w1.heap.size = bm at *
  generalize hba : W.heap.size = ba at *
  have HBA := Lib.hid hba
  clear hba
  go_loopw [28] (fun i wl => Rel1 W ba bm n i wl) (fun i _ => n - (intOf i).toNat)
  case atStart => exact ⟨0, Nat.zero_le _, rfl, HS.out⟩
  case round =>
    obtain ⟨k, hk, rfl, hps⟩ := hrel
    have HPS := Lib.hid hps
    clear hps
    by_cases hlt : k < n
    · obtain ⟨b, off, rfl, hcell⟩ := HC.out.resolve_left (by omega)
      have hk4 := hcell k hlt
      have hx1 := (hk4 3 (by decide)).2.1
      have hx2 := (hk4 3 (by decide)).2.2
      have q0 := keepc HPS.out.below (hk4 0 (by decide)).1
      have q1 := keepc HPS.out.below (hk4 1 (by decide)).1
      have q2 := keepc HPS.out.below (hk4 2 (by decide)).1
      have q3 := keepc HPS.out.below (hk4 3 (by decide)).1
      generalize fld k 0 = z0 at q0
      generalize fld k 1 = z1 at q1
      generalize fld k 2 = z2 at q2
      generalize fld k 3 = z3 at q3 hx1 hx2
      simp only [Nat.add_zero] at q0
      clear hcell hk4
      go_wp2_with fail
      have hO : OpAt (wr.alloc (.cells #[.int .i64 z0, .int .i64 z1, .int .i64 z2, .int .i64 z3] 31)) wr.heap.size z0 z1 z2 z3 := obj_new wr _
      have HPW := Lib.hid ((HPS.out.keep (balloc (Below.refl _ _) (.cells #[.int .i64 z0, .int .i64 z1, .int .i64 z2, .int .i64 z3] 31))).keep (Below.drew (Below.refl _ _)))
      clear q0 q1 q2 q3 HPS
      generalize wr.alloc (.cells #[.int .i64 z0, .int .i64 z1, .int .i64 z2, .int .i64 z3] 31) = wo at *
      generalize wr.heap.size = ob at *
      have oc0 : wo.cell? ⟨ob, 0, none⟩ = some (.int .i64 z0) := (obj_cell hO 0).trans rfl
      have oc1 : wo.cell? ⟨ob, 1, none⟩ = some (.int .i64 z1) := (obj_cell hO 1).trans rfl
      have oc2 : wo.cell? ⟨ob, 2, none⟩ = some (.int .i64 z2) := (obj_cell hO 2).trans rfl
      have oc3 : wo.cell? ⟨ob, 3, none⟩ = some (.int .i64 z3) := (obj_cell hO 3).trans rfl
      clear hO
      refine wp_region_any (by kernel_rfl) ?_
      refine wpAny_take (i := 0) (v := ?_) rfl (by kernel_rfl) (by kernel_rfl) (by kernel_rfl) (fun _ _ _ h => h) (Or.inl ⟨by rfl, ?_⟩) ?_
      rotate_left
      · intro w; go_simp; rfl
      refine wpAny_take (i := 1) (v := ?_) rfl (by kernel_rfl) (by kernel_rfl) (by kernel_rfl) (fun _ _ _ h => h) (Or.inl ⟨by rfl, ?_⟩) ?_
      rotate_left
      · intro w; go_simp; rfl
      refine wpAny_ready (rs := [2]) (by kernel_rfl) (by simp) ?_
      refine AllReady.cons rfl (fun K hK => ?_) AllReady.nil
      go_simp
      refine hK _ _ ?_
      clear hK K
      refine wpAny_ready (rs := [3]) (by kernel_rfl) (by simp) ?_
      refine AllReady.cons rfl (fun K hK => ?_) AllReady.nil
      go_simp
      refine (play_any W _ ba bm k HPW.out (by omega) z0 z1 z2 z3 hx1 hx2).mono ?_
      rintro e w5 ⟨rfl, hps5⟩
      obtain ⟨v5, u5, xs5, st5, h5, hr5⟩ := hps5
      obtain ⟨p5, c5, rfl, hc5⟩ := row_form h5.2.1.2
      have n0 := h5.2.1.c0
      have n1 := h5.2.1.c1
      have H5 := Lib.hid h5
      have HR5 := Lib.hid hr5
      have HLEN := Lib.hid fun n => ((len_some (w5.drewN n) ba _ xs5 st5 (h5.drewN n).1).mono fun e w h => (⟨h.1, n, h.2.symm⟩ : e = _ ∧ ∃ m, w = w5.drewN m))
      have HSTEPS := Lib.hid fun n => ((steps_some (w5.drewN n) ba _ xs5 st5 (h5.drewN n).1).mono fun e w h => (⟨h.1, n, h.2.symm⟩ : e = _ ∧ ∃ m, w = w5.drewN m))
      clear h5 hr5 hc5 oc0 oc1 oc2 oc3
      refine hK _ _ ?_
      clear hK K
      refine wpAny_rest_quiet 4 (by kernel_rfl) (by kernel_rfl) (by kernel_rfl) ?_
      simp only [List.drop_succ_cons, List.drop_zero]
      repeat (go_big_quiet_step ((first
        | (go_at_call 11; exact HLEN.out _)
        | (go_at_call 12; exact HSTEPS.out _))))
      refine wpQuiet_nil ?_
      intro _ hw'
      obtain ⟨nq, hw''⟩ := hw'
      subst hw''
      go_wp2
      exact ⟨⟨k + 1, by omega, by go_num, _, _, _, _, H5.out.drewN nq, HR5.out⟩, by simp [intOf]; omega⟩
    · obtain rfl : k = n := by omega
      clear hlt
      go_wp2_with fail
      obtain ⟨wA, rfl⟩ : ∃ x : World, x = wr := ⟨_, rfl⟩
      obtain ⟨v, u, xs, st, h, hl, hs0, hs1, hx⟩ := HPS.out
      have hst : st ≤ 100 := by omega
      have hxl : xs.length ≤ 100 := by omega
      obtain ⟨pu, cu, rfl, hcu⟩ := row_form h.2.1.2
      have H := Lib.hid h
      refine (clone_some wA ba v xs st H.out.1 (by omega)).mono ?_
      rintro e w3 ⟨bc, vc, rfl, hac, hbc, hlc, hgc⟩
      have HM := Lib.hid (show Mine wA w3 bc xs st from ⟨vc, hac, hbc, hlc, hgc⟩)
      have HBC := Lib.hid hbc
      have m0 := keepc hbc h.2.1.c0
      clear h hcu hac hbc hlc hgc hx HPS hl hs1
      go_wp2_with fail
      go_loopw [66] (fun i wl => Rel2 wA bc xs st i wl) (fun i _ => xs.length - (intOf i).toNat)
      case atStart => exact ⟨0, Nat.zero_le _, rfl, xs, by simpa using HM.out, rfl, fun _ _ => rfl⟩
      case round =>
        obtain ⟨k2, hk2, rfl, zs, hm2, hz2, hz3⟩ := hrel
        have HM2 := Lib.hid hm2
        have HZ3 := Lib.hid hz3
        clear hm2 hz3
        by_cases hlt : k2 < xs.length
        · obtain ⟨gu, rfl⟩ : ∃ gu, pu = some ⟨gu, 0, none⟩ := by
            obtain ⟨g, c, he, _⟩ := row_some H.out.2.1.2 (by omega)
            simp at he
            exact ⟨g, he.1⟩
          have hx : xs[k2]? = some xs[k2] := List.getElem?_eq_getElem hlt
          generalize xs[k2] = x at hx
          have gc : wr.cell? ⟨gu, k2, none⟩ = some (.int .i64 x) := keepc HM2.out.below ((H.out.2.1.2.cellAt k2 (by omega)).trans (by simp [hx]))
          have HX := Lib.hid hx
          have HZ := Lib.hid ((HZ3.out k2 (Nat.le_refl _)).trans hx)
          clear hx
          go_wp2_with (first
            | (go_at_call 14; refine (load_m k2 wA _ bc zs (st + 2 * (k2 : Int)) x HM2.out HZ.out (by omega) (by omega)).mono ?_; rintro e w5 ⟨rfl, hm5⟩)
            | (go_at_call 15; refine (store_m k2 7 wA _ bc zs _ x hm5 HZ.out (by omega) (by omega)).mono ?_; rintro e w6 ⟨rfl, hm6⟩))
          exact ⟨⟨k2 + 1, by omega, by go_num, zs.set k2 7, by rw [show st + 2 * ((k2 + 1 : Nat) : Int) = st + 2 * (k2 : Int) + 1 + 1 by omega]; exact hm6, by simp [hz2], fun j hj => by rw [List.getElem?_set_ne (by omega)]; exact HZ3.out j (by omega)⟩, by simp [intOf]; omega⟩
        · obtain rfl : k2 = xs.length := by omega
          have hb3 := HM2.out.below
          have HT := Lib.hid (H.out.keep hb3)
          have m0 := HT.out.2.1.c0
          clear hlt hb3
          obtain ⟨wB, rfl⟩ : ∃ x : World, x = wr := ⟨_, rfl⟩
          go_wp2_with fail
          go_loopw [95] (fun i wl => Rel3 W ba bm (.slice pu xs.length cu) xs st i wl) (fun i _ => xs.length - (intOf i).toNat)
          case atStart => exact ⟨0, Nat.zero_le _, rfl, v, by simpa using HT.out⟩
          case round =>
            obtain ⟨k3, hk3, rfl, v3, h3⟩ := hrel
            have H3 := Lib.hid h3
            clear h3
            by_cases hlt : k3 < xs.length
            · obtain ⟨gu, rfl⟩ : ∃ gu, pu = some ⟨gu, 0, none⟩ := by
                obtain ⟨g, c, he, _⟩ := row_some H.out.2.1.2 (by omega)
                simp at he
                exact ⟨g, he.1⟩
              have hx : xs[k3]? = some xs[k3] := List.getElem?_eq_getElem hlt
              generalize xs[k3] = x at hx
              have gc : wr.cell? ⟨gu, k3, none⟩ = some (.int .i64 x) := (H3.out.2.1.2.cellAt k3 (by omega)).trans (by simp [hx])
              have HX := Lib.hid hx
              clear hx
              go_wp2_with (go_at_call 14; refine (load_some k3 _ ba v3 xs (st + (k3 : Int)) x H3.out.1 HX.out (by omega) (by omega)).mono ?_; rintro e w5 ⟨rfl, hs5⟩)
              obtain ⟨v4, h4, _⟩ := H3.out.step hs5
              exact ⟨⟨k3 + 1, by omega, by go_num, v4, by rw [show st + ((k3 + 1 : Nat) : Int) = st + (k3 : Int) + 1 by omega]; exact h4⟩, by simp [intOf]; omega⟩
            · obtain rfl : k3 = xs.length := by omega
              clear hlt
              go_wp2_with (go_at_call 8; refine (awake3 _).mono ?_; rintro e w7 ⟨rfl, hb7⟩)
              go_ret
              exact ⟨rfl, bthen H3.out.below hb7⟩
end Go.Proofs.Ytofkcjoonjhdpaa
