/-
  The document's own clock: Drop by contract. Conditions: the row is the call's own; at most 2^20 timers.
-/
import Derived.Test.YtpnglcafjofmnaaLeast
namespace Go.Proofs.Ytpnglcafjofmnaa
open Go.RowKit

theorem infoRT : (Try.prog.info? 72).map (fun i => (i.zero, i.size, i.bytes)) = some (some (.agg #[.int .i64 0, .int .i64 0]), 2, 16) := by kernel_rfl

/-- A new row, and nothing that was is turned. -/
def NewRk (W w' : World) (v : Value) (ms : List (Int × Int)) : Prop := Rk w' v ms ∧ (∀ g, v.ownBlock = some g → W.heap.size ≤ g) ∧ Below W.heap.size W w'

/-- Drop's state after k. -/
def DS (W : World) (now : Int) (v : Value) (ms : List (Int × Int)) (p : Int × Int → Bool) (k : Nat) (vl : Value) (wl : World) : Prop :=
  Below W.heap.size W wl ∧ Rk wl vl (keptL ms p k) ∧ (∀ g, vl.ownBlock = some g → W.heap.size + 2 ≤ g) ∧ wl.heap[W.heap.size]? = some (.cells #[.int .i64 now, v] 54 (0, 0)) ∧
    wl.heap[W.heap.size + 1]? = some (.cells #[.int .i64 0, .slice none 0 0] 54 (0, 0))

theorem DS.start (W : World) (now : Int) (v : Value) (ms : List (Int × Int)) (p : Int × Int → Bool) :
    DS W now v ms p 0 (.slice none 0 0) ((W.alloc (.cells #[.int .i64 now, v] 54)).alloc (.cells #[.int .i64 0, .slice none 0 0] 54)) := by
  refine ⟨balloc (balloc (Below.refl _ _) _) _, World.ownsRow_nil _ _ _ _, by simp [Value.ownBlock], obj_old _ (obj_new W _), ?_⟩
  have h := obj_new (W.alloc (.cells #[.int .i64 now, v] 54)) (.cells #[.int .i64 0, .slice none 0 0] 54)
  rw [World.size_alloc] at h
  exact h

theorem DS.app {W : World} {now : Int} {v : Value} {ms : List (Int × Int)} {p : Int × Int → Bool} {k : Nat} {vl : Value} {wl w5 : World} {o : Obj} {v' : Value} (h : DS W now v ms p k vl wl) (hk : k < ms.length) (hp : p ms[k] = false)
    (ho : w5.ownsRow 0 72 2 v' ((keptL ms p k).length + 1) (flat (keptL ms p k) ++ [.int .i64 (tm ms k), .int .i64 (wh ms k)])) (hf : Frm (fun q => vl.ownBlock = some q) (wl.alloc o) w5)
    (hv : v'.ownBlock = vl.ownBlock ∨ ∀ g, v'.ownBlock = some g → (wl.alloc o).heap.size ≤ g) : DS W now v ms p (k + 1) v' w5 := by
  obtain ⟨h1, h2, h3, h4, h5⟩ := h
  have hs := h1.size
  have hsz := lt_of_block h5
  refine ⟨(balloc h1 o).trans (hf.below (by simp; omega) fun q hq => by have := h3 q hq; omega), ?_, ?_, hf.obj (obj_old _ h4) (fun e => by have := h3 _ e; omega), hf.obj (obj_old _ h5) (fun e => by have := h3 _ e; omega)⟩
  · have e : keptL ms p (k + 1) = keptL ms p k ++ [ms[k]] := keptL_no (List.getElem?_eq_getElem hk) hp
    unfold Rk
    rw [e, List.length_append, flat_append]
    rw [tm_get hk, wh_get hk] at ho
    exact ho
  · intro g hg
    rcases hv with hv | hv
    · exact h3 g (by rw [← hv]; exact hg)
    · have := hv g hg
      simp at this
      omega

theorem DS.skip {W : World} {now : Int} {v : Value} {ms : List (Int × Int)} {p : Int × Int → Bool} {k : Nat} {vl : Value} {wl : World} (h : DS W now v ms p k vl wl) (hk : k < ms.length) (hp : p ms[k] = true) : DS W now v ms p (k + 1) vl wl := by
  obtain ⟨h1, h2, h3, h4, h5⟩ := h
  refine ⟨h1, ?_, h3, h4, h5⟩
  rw [keptL_yes (List.getElem?_eq_getElem hk) hp]
  exact h2

theorem DS.fin {W : World} {now : Int} {v : Value} {ms : List (Int × Int)} {p : Int × Int → Bool} {k : Nat} {vl : Value} {wl : World} (h : DS W now v ms p k vl wl) :
    NewRk W ((wl.drew.setCell ⟨W.heap.size + 1, 0, none⟩ (.int .i64 now)).setCell ⟨W.heap.size + 1, 1, none⟩ vl) vl (keptL ms p k) := by
  obtain ⟨h1, h2, h3, h4, h5⟩ := h
  have hF : Frm (fun q => q = W.heap.size + 1) wl ((wl.drew.setCell ⟨W.heap.size + 1, 0, none⟩ (.int .i64 now)).setCell ⟨W.heap.size + 1, 1, none⟩ vl) := by
    have h0 : Frm (fun q => q = W.heap.size + 1) wl wl.drew := (Frm.refl _ wl).drew
    exact (h0.setCell (p := ⟨W.heap.size + 1, 0, none⟩) rfl _).setCell (p := ⟨W.heap.size + 1, 1, none⟩) rfl _
  refine ⟨hF.row h2 fun g hg e => by have := h3 g hg; omega, fun g hg => by have := h3 g hg; omega, h1.trans (hF.below h1.size fun q hq => by omega)⟩

set_option maxRecDepth 100000 in
set_option maxHeartbeats 2000000 in
theorem rdrop_any (W : World) (p0 : Option Addr) (cap : Nat) (ms : List (Int × Int)) (now who : Int) (ho : Rk W (.slice p0 ms.length cap) ms) (hn : (ms.length : Int) ≤ 1048576) :
    Calls Try.prog 25 #[.agg #[.int .i64 now, .slice p0 ms.length cap], .int .i64 who] W fun e w' => ∃ v', e = .returned (.tuple #[.agg #[.int .i64 now, v'], .int .i64 ((ms.length : Int) - (keptL ms (fun t => t.2 == who) ms.length).length)]) ∧ NewRk W w' v' (keptL ms (fun t => t.2 == who) ms.length) := by
  obtain ⟨i0, hi0, hz0, hz1, hz2⟩ := info_parts infoRT
  have HO := Lib.hid ho
  have HS := Lib.hid (DS.start W now (.slice p0 ms.length cap) ms (fun t => t.2 == who))
  clear ho
  go_enter Try.func25, Try.ntmps25
  go_wp2_with fail
  go_loopw [6, 7] (fun l i wl => ∃ k : Nat, k ≤ ms.length ∧ i = .int .i64 k ∧ DS W now (.slice p0 ms.length cap) ms (fun t => t.2 == who) k l wl) (fun _ i _ => ms.length - (intOf i).toNat)
  case atStart => exact ⟨0, Nat.zero_le _, rfl, HS.out⟩
  case round =>
    obtain ⟨k, hk, rfl, hds⟩ := hrel
    have b0 : wr.cell? ⟨W.heap.size, 0, none⟩ = some (.int .i64 now) := (obj_cell hds.2.2.2.1 0).trans rfl
    have b1 : wr.cell? ⟨W.heap.size, 1, none⟩ = some (.slice p0 ms.length cap) := (obj_cell hds.2.2.2.1 1).trans rfl
    obtain ⟨pl, cl, rfl, hcl⟩ := row_form hds.2.1
    have HDS := Lib.hid hds
    have hkl := keptL_le ms (fun t => t.2 == who) k
    clear hcl hds
    by_cases hlt : k < ms.length
    · obtain ⟨g, rfl⟩ := row_at HO.out (by omega)
      have g0 := keepc HDS.out.1 (rk_cells HO.out hlt).1
      have g1 := keepc HDS.out.1 (rk_cells HO.out hlt).2
      by_cases hw : wh ms k = who
      · have HE := Lib.hid (DS.skip HDS.out hlt (by simp [← wh_get hlt, hw]))
        go_wp2
        exact ⟨⟨k + 1, by omega, by go_num, HE.out⟩, by simp [intOf]; omega⟩
      · have hpk : (ms[k].2 == who) = false := by rw [beq_eq_false_iff_ne, ← wh_get hlt]; exact hw
        have HP := Lib.hid hpk
        clear hpk
        go_wp2_with (at_builtin; refine wpList_append_row rfl _ _ 52 rfl 72 i0 (.agg #[.int .i64 0, .int .i64 0]) 2 16 Try.underlying52 hi0 hz0 hz1 hz2 rfl (by decide) _ (keptL ms (fun t => t.2 == who) k).length _ rfl (HDS.out.2.1.alloc _) ⟨wr.heap.size, 0, none⟩ 1 1 [.int .i64 (tm ms k), .int .i64 (wh ms k)] rfl rfl (two_cell _ _ _ _) (fun x hx => by simp at hx; rcases hx with rfl | rfl <;> rfl) (by unfold maxLen; omega) (by omega) ?_; intro v' w5 hown5 hf5 hv5; have HE := Lib.hid (DS.app HDS.out hlt HP.out hown5 hf5 hv5); clear hown5 hf5 hv5)
        exact ⟨⟨k + 1, by omega, by go_num, HE.out⟩, by simp [intOf]; omega⟩
    · obtain rfl : k = ms.length := by omega
      clear hlt
      have z0 : wr.cell? ⟨W.heap.size + 1, 0, none⟩ = some (.int .i64 0) := (obj_cell HDS.out.2.2.2.2 0).trans rfl
      have z1 : wr.cell? ⟨W.heap.size + 1, 1, none⟩ = some (.slice none 0 0) := (obj_cell HDS.out.2.2.2.2 1).trans rfl
      have f0 := obj_free HDS.out.2.2.2.2 0
      have f1 := obj_free HDS.out.2.2.2.2 1
      have hwr : IntKind.i64.wrap ((ms.length : Int) - (keptL ms (fun t => t.2 == who) ms.length).length) = (ms.length : Int) - (keptL ms (fun t => t.2 == who) ms.length).length := by rw [IntKind.wrap_i64] <;> omega
      go_wp2_with fail
      go_region_with fail
      all_goals
        go_wp2
        refine bodyPost_ret (v := .tuple #[.agg #[.int .i64 now, .slice pl (keptL ms (fun t => t.2 == who) ms.length).length cl], .int .i64 ((ms.length : Int) - (keptL ms (fun t => t.2 == who) ms.length).length)]) ?_ rfl ⟨_, rfl, HDS.out.fin⟩
        simp [results, Try.results25, go_sem, z0, z1]
end Go.Proofs.Ytpnglcafjofmnaa
