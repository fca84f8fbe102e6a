/-
  The document's own clock: Least by contract, over plain lists. Conditions: the row is the call's own; at most 2^20 timers.
  The document's own clock: Drop by contract. Conditions: the row is the call's own; at most 2^20 timers.
-/
import Derived.Test.YtdfcfdcekdmcmaaGreatPk17
set_option linter.unusedVariables false
set_option linter.unusedSimpArgs false
namespace Go.Proofs.YtdfcfdcekdmcmaaGreat
open Go.RowKit
def Rk (W : World) (v : Value) (ms : List (Int × Int)) : Prop := W.ownsRow 0 237 2 v ms.length (flat ms)
def tm (ms : List (Int × Int)) (j : Nat) : Int := (ms[j]?.getD (0, 0)).1
def wh (ms : List (Int × Int)) (j : Nat) : Int := (ms[j]?.getD (0, 0)).2
theorem tm_get {ms : List (Int × Int)} {j : Nat} (h : j < ms.length) : tm ms j = ms[j].1 := by unfold tm; rw [List.getElem?_eq_getElem h]; rfl
theorem wh_get {ms : List (Int × Int)} {j : Nat} (h : j < ms.length) : wh ms j = ms[j].2 := by unfold wh; rw [List.getElem?_eq_getElem h]; rfl
def First (ms : List (Int × Int)) (k m : Nat) : Prop := m < k ∧ (∀ j, j < m → tm ms m < tm ms j) ∧ ∀ j, j < k → tm ms m ≤ tm ms j
def LA (ms : List (Int × Int)) (k : Nat) (a : Int) : Prop := (k = 0 ∧ a = -1) ∨ ∃ m : Nat, a = m ∧ First ms k m
theorem LA.zero (ms : List (Int × Int)) : LA ms 0 (-1) := .inl ⟨rfl, rfl⟩
theorem LA.one (ms : List (Int × Int)) : LA ms (0 + 1) ((0 : Nat) : Int) := by
  refine .inr ⟨0, rfl, by omega, fun j h => by omega, fun j h => ?_⟩
  obtain rfl : j = 0 := by omega
  exact Int.le_refl _
theorem LA.less {ms : List (Int × Int)} {k m : Nat} (h : First ms k m) (hl : tm ms k < tm ms m) : LA ms (k + 1) (k : Int) :=
  .inr ⟨k, rfl, by omega, fun j hj => by have := h.2.2 j hj; omega, fun j hj => by
    rcases Nat.lt_or_eq_of_le (Nat.lt_succ_iff.1 hj) with h' | h'
    · have := h.2.2 j h'; omega
    · rw [h']; exact Int.le_refl _⟩
theorem LA.same {ms : List (Int × Int)} {k m : Nat} (h : First ms k m) (hl : tm ms m ≤ tm ms k) : LA ms (k + 1) (m : Int) :=
  .inr ⟨m, rfl, by have := h.1; omega, h.2.1, fun j hj => by
    rcases Nat.lt_or_eq_of_le (Nat.lt_succ_iff.1 hj) with h' | h'
    · exact h.2.2 j h'
    · rw [h']; exact hl⟩
theorem rk_cells {W : World} {g cap : Nat} {ms : List (Int × Int)} (h : Rk W (.slice (some ⟨g, 0, none⟩) ms.length cap) ms) {j : Nat} (hj : j < ms.length) :
    W.cell? ⟨g, j * 2, none⟩ = some (.int .i64 (tm ms j)) ∧ W.cell? ⟨g, j * 2 + 1, none⟩ = some (.int .i64 (wh ms j)) := by
  obtain ⟨f1, f2⟩ := flat_get ms j hj
  rw [tm_get hj, wh_get hj]
  exact ⟨(h.cellAt (j * 2) (by omega)).trans (by rw [show j * 2 = 2 * j by omega]; exact f1), (h.cellAt (j * 2 + 1) (by omega)).trans (by rw [show j * 2 + 1 = 2 * j + 1 by omega]; exact f2)⟩
theorem row_at {W : World} {p : Option Addr} {n c : Nat} {ms : List (Int × Int)} (h : Rk W (.slice p n c) ms) (hn : 0 < ms.length) : ∃ g, p = some ⟨g, 0, none⟩ := by
  rcases h.2 with ⟨_, h0⟩ | ⟨g, cap, cur, h', _⟩
  · omega
  · simp only [Value.slice.injEq] at h'
    exact ⟨g, h'.1⟩
set_option maxRecDepth 100000 in
set_option maxHeartbeats 2000000 in
theorem least_any (W : World) (p0 : Option Addr) (cap : Nat) (ms : List (Int × Int)) (ho : Rk W (.slice p0 ms.length cap) ms) (hn : (ms.length : Int) ≤ 1048576) :
    Calls Tryz.prog 141 #[.slice p0 ms.length cap] W fun e w' => ∃ a, e = .returned (.int .i64 a) ∧ LA ms ms.length a ∧ Below W.heap.size W w' := by
  have HO := Lib.hid ho
  clear ho
  go_enter Tryz.func141, Tryz.ntmps141
  go_wp2_with fail
  go_loopw [3, 4] (fun at' i wl => ∃ (k : Nat) (a : Int), k ≤ ms.length ∧ i = .int .i64 k ∧ at' = .int .i64 a ∧ Below W.heap.size W wl ∧ Hid (LA ms k a)) (fun _ i _ => ms.length - (intOf i).toNat)
  case atStart => exact ⟨0, _, Nat.zero_le _, rfl, rfl, Below.refl _ _, LA.zero ms⟩
  case round =>
    obtain ⟨k, a, hk, rfl, rfl, hb, HN⟩ := hrel
    have HB := Lib.hid hb
    clear hb
    by_cases hlt : k < ms.length
    · obtain ⟨g, rfl⟩ := row_at HO.out (by omega)
      have g0 := keepc HB.out (rk_cells HO.out hlt).1
      rcases HN.out with ⟨rfl, rfl⟩ | ⟨m, rfl, hm⟩
      · go_wp2_with fail
        go_quiet (fail)
        go_wp2
        exact ⟨⟨0 + 1, _, by omega, rfl, rfl, HB.out.trans ⟨rfl, rfl, rfl, Nat.le_refl _, fun _ _ => rfl⟩, LA.one ms⟩, by simp [intOf]; omega⟩
      · have hmk := hm.1
        have hml : m < ms.length := by omega
        have HM := Lib.hid hm
        have g1 := keepc HB.out (rk_cells HO.out hml).1
        have dm : decide ((m : Int) < 0) = false := by rw [decide_eq_false_iff_not]; omega
        clear hm
        by_cases hc : tm ms k < tm ms m
        · have dc : decide (tm ms k < tm ms m) = true := decide_eq_true hc
          go_wp2_with fail
          go_quiet (fail)
          go_wp2
          exact ⟨⟨k + 1, _, by omega, by go_num, rfl, HB.out.trans ⟨rfl, rfl, rfl, Nat.le_refl _, fun _ _ => rfl⟩, LA.less HM.out hc⟩, by simp [intOf]; omega⟩
        · have dc : decide (tm ms k < tm ms m) = false := decide_eq_false hc
          go_wp2_with fail
          go_quiet (fail)
          go_wp2
          exact ⟨⟨k + 1, _, by omega, by go_num, rfl, HB.out.trans ⟨rfl, rfl, rfl, Nat.le_refl _, fun _ _ => rfl⟩, LA.same HM.out (by omega)⟩, by simp [intOf]; omega⟩
    · obtain rfl : k = ms.length := by omega
      clear hlt
      go_wp2
      go_ret
      exact ⟨a, rfl, HN.out, HB.out⟩
end Go.Proofs.YtdfcfdcekdmcmaaGreat
namespace Go.Proofs.YtdfcfdcekdmcmaaGreat
open Go.RowKit
theorem infoRT : (Tryz.prog.info? 237).map (fun i => (i.zero, i.size, i.bytes)) = some (some (.agg #[.int .i64 0, .int .i64 0]), 2, 16) := by kernel_rfl
def NewRk (W w' : World) (v : Value) (ms : List (Int × Int)) : Prop := Rk w' v ms ∧ (∀ g, v.ownBlock = some g → W.heap.size ≤ g) ∧ Below W.heap.size W w'
def DS (W : World) (now : Int) (v : Value) (ms : List (Int × Int)) (p : Int × Int → Bool) (k : Nat) (vl : Value) (wl : World) : Prop :=
  Below W.heap.size W wl ∧ Rk wl vl (keptL ms p k) ∧ (∀ g, vl.ownBlock = some g → W.heap.size + 2 ≤ g) ∧ wl.heap[W.heap.size]? = some (.cells #[.int .i64 now, v] 116 (0, 0)) ∧
    wl.heap[W.heap.size + 1]? = some (.cells #[.int .i64 0, .slice none 0 0] 116 (0, 0))
theorem DS.start (W : World) (now : Int) (v : Value) (ms : List (Int × Int)) (p : Int × Int → Bool) :
    DS W now v ms p 0 (.slice none 0 0) ((W.alloc (.cells #[.int .i64 now, v] 116)).alloc (.cells #[.int .i64 0, .slice none 0 0] 116)) := by
  refine ⟨balloc (balloc (Below.refl _ _) _) _, World.ownsRow_nil _ _ _ _, by simp [Value.ownBlock], obj_old _ (obj_new W _), ?_⟩
  have h := obj_new (W.alloc (.cells #[.int .i64 now, v] 116)) (.cells #[.int .i64 0, .slice none 0 0] 116)
  rw [World.size_alloc] at h
  exact h
theorem DS.app {W : World} {now : Int} {v : Value} {ms : List (Int × Int)} {p : Int × Int → Bool} {k : Nat} {vl : Value} {wl w5 : World} {o : Obj} {v' : Value} (h : DS W now v ms p k vl wl) (hk : k < ms.length) (hp : p ms[k] = false)
    (ho : w5.ownsRow 0 237 2 v' ((keptL ms p k).length + 1) (flat (keptL ms p k) ++ [.int .i64 (tm ms k), .int .i64 (wh ms k)])) (hf : Frm (fun q => vl.ownBlock = some q) (wl.alloc o) w5)
    (hv : v'.ownBlock = vl.ownBlock ∨ ∀ g, v'.ownBlock = some g → (wl.alloc o).heap.size ≤ g) : DS W now v ms p (k + 1) v' w5 := by
  obtain ⟨h1, h2, h3, h4, h5⟩ := h
  have hs := h1.size
  have hsz := lt_of_block h5
  refine ⟨(balloc h1 o).trans (hf.below (by simp; omega) fun q hq => by have := h3 q hq; omega), ?_, ?_, hf.obj (obj_old _ h4) (fun e => by have := h3 _ e; omega), hf.obj (obj_old _ h5) (fun e => by have := h3 _ e; omega)⟩
  · have e : keptL ms p (k + 1) = keptL ms p k ++ [ms[k]] := keptL_no (List.getElem?_eq_getElem hk) hp
    unfold Rk
    rw [e, List.length_append, flat_append]
    rw [tm_get hk, wh_get hk] at ho
    exact ho
  · intro g hg
    rcases hv with hv | hv
    · exact h3 g (by rw [← hv]; exact hg)
    · have := hv g hg
      simp at this
      omega
theorem DS.skip {W : World} {now : Int} {v : Value} {ms : List (Int × Int)} {p : Int × Int → Bool} {k : Nat} {vl : Value} {wl : World} (h : DS W now v ms p k vl wl) (hk : k < ms.length) (hp : p ms[k] = true) : DS W now v ms p (k + 1) vl wl := by
  obtain ⟨h1, h2, h3, h4, h5⟩ := h
  refine ⟨h1, ?_, h3, h4, h5⟩
  rw [keptL_yes (List.getElem?_eq_getElem hk) hp]
  exact h2
theorem DS.fin {W : World} {now : Int} {v : Value} {ms : List (Int × Int)} {p : Int × Int → Bool} {k : Nat} {vl : Value} {wl : World} (h : DS W now v ms p k vl wl) :
    NewRk W ((wl.drew.setCell ⟨W.heap.size + 1, 0, none⟩ (.int .i64 now)).setCell ⟨W.heap.size + 1, 1, none⟩ vl) vl (keptL ms p k) := by
  obtain ⟨h1, h2, h3, h4, h5⟩ := h
  have hF : Frm (fun q => q = W.heap.size + 1) wl ((wl.drew.setCell ⟨W.heap.size + 1, 0, none⟩ (.int .i64 now)).setCell ⟨W.heap.size + 1, 1, none⟩ vl) := by
    have h0 : Frm (fun q => q = W.heap.size + 1) wl wl.drew := (Frm.refl _ wl).drew
    exact (h0.setCell (p := ⟨W.heap.size + 1, 0, none⟩) rfl _).setCell (p := ⟨W.heap.size + 1, 1, none⟩) rfl _
  refine ⟨hF.row h2 fun g hg e => by have := h3 g hg; omega, fun g hg => by have := h3 g hg; omega, h1.trans (hF.below h1.size fun q hq => by omega)⟩
set_option maxRecDepth 100000 in
set_option maxHeartbeats 2000000 in
theorem rdrop_any (W : World) (p0 : Option Addr) (cap : Nat) (ms : List (Int × Int)) (now who : Int) (ho : Rk W (.slice p0 ms.length cap) ms) (hn : (ms.length : Int) ≤ 1048576) :
    Calls Tryz.prog 106 #[.agg #[.int .i64 now, .slice p0 ms.length cap], .int .i64 who] W fun e w' => ∃ v', e = .returned (.tuple #[.agg #[.int .i64 now, v'], .int .i64 ((ms.length : Int) - (keptL ms (fun t => t.2 == who) ms.length).length)]) ∧ NewRk W w' v' (keptL ms (fun t => t.2 == who) ms.length) := by
  obtain ⟨i0, hi0, hz0, hz1, hz2⟩ := info_parts infoRT
  have HO := Lib.hid ho
  have HS := Lib.hid (DS.start W now (.slice p0 ms.length cap) ms (fun t => t.2 == who))
  clear ho
  go_enter Tryz.func106, Tryz.ntmps106
  go_wp2_with fail
  go_loopw [6, 7] (fun l i wl => ∃ k : Nat, k ≤ ms.length ∧ i = .int .i64 k ∧ DS W now (.slice p0 ms.length cap) ms (fun t => t.2 == who) k l wl) (fun _ i _ => ms.length - (intOf i).toNat)
  case atStart => exact ⟨0, Nat.zero_le _, rfl, HS.out⟩
  case round =>
    obtain ⟨k, hk, rfl, hds⟩ := hrel
    have b0 : wr.cell? ⟨W.heap.size, 0, none⟩ = some (.int .i64 now) := (obj_cell hds.2.2.2.1 0).trans rfl
    have b1 : wr.cell? ⟨W.heap.size, 1, none⟩ = some (.slice p0 ms.length cap) := (obj_cell hds.2.2.2.1 1).trans rfl
    obtain ⟨pl, cl, rfl, hcl⟩ := row_form hds.2.1
    have HDS := Lib.hid hds
    have hkl := keptL_le ms (fun t => t.2 == who) k
    clear hcl hds
    by_cases hlt : k < ms.length
    · obtain ⟨g, rfl⟩ := row_at HO.out (by omega)
      have g0 := keepc HDS.out.1 (rk_cells HO.out hlt).1
      have g1 := keepc HDS.out.1 (rk_cells HO.out hlt).2
      by_cases hw : wh ms k = who
      · have HE := Lib.hid (DS.skip HDS.out hlt (by simp [← wh_get hlt, hw]))
        go_wp2
        exact ⟨⟨k + 1, by omega, by go_num, HE.out⟩, by simp [intOf]; omega⟩
      · have hpk : (ms[k].2 == who) = false := by rw [beq_eq_false_iff_ne, ← wh_get hlt]; exact hw
        have HP := Lib.hid hpk
        clear hpk
        go_wp2_with (at_builtin; refine wpList_append_row rfl _ _ 114 rfl 237 i0 (.agg #[.int .i64 0, .int .i64 0]) 2 16 Tryz.underlying114 hi0 hz0 hz1 hz2 rfl (by decide) _ (keptL ms (fun t => t.2 == who) k).length _ rfl (HDS.out.2.1.alloc _) ⟨wr.heap.size, 0, none⟩ 1 1 [.int .i64 (tm ms k), .int .i64 (wh ms k)] rfl rfl (two_cell _ _ _ _) (fun x hx => by simp at hx; rcases hx with rfl | rfl <;> rfl) (by unfold maxLen; omega) (by omega) ?_; intro v' w5 hown5 hf5 hv5; have HE := Lib.hid (DS.app HDS.out hlt HP.out hown5 hf5 hv5); clear hown5 hf5 hv5)
        exact ⟨⟨k + 1, by omega, by go_num, HE.out⟩, by simp [intOf]; omega⟩
    · obtain rfl : k = ms.length := by omega
      clear hlt
      have z0 : wr.cell? ⟨W.heap.size + 1, 0, none⟩ = some (.int .i64 0) := (obj_cell HDS.out.2.2.2.2 0).trans rfl
      have z1 : wr.cell? ⟨W.heap.size + 1, 1, none⟩ = some (.slice none 0 0) := (obj_cell HDS.out.2.2.2.2 1).trans rfl
      have f0 := obj_free HDS.out.2.2.2.2 0
      have f1 := obj_free HDS.out.2.2.2.2 1
      have hwr : IntKind.i64.wrap ((ms.length : Int) - (keptL ms (fun t => t.2 == who) ms.length).length) = (ms.length : Int) - (keptL ms (fun t => t.2 == who) ms.length).length := by rw [IntKind.wrap_i64] <;> omega
      go_wp2_with fail
      go_region_with fail
      all_goals
        go_wp2
        refine bodyPost_ret (v := .tuple #[.agg #[.int .i64 now, .slice pl (keptL ms (fun t => t.2 == who) ms.length).length cl], .int .i64 ((ms.length : Int) - (keptL ms (fun t => t.2 == who) ms.length).length)]) ?_ rfl ⟨_, rfl, HDS.out.fin⟩
        simp [results, Tryz.results106, go_sem, z0, z1]
end Go.Proofs.YtdfcfdcekdmcmaaGreat
