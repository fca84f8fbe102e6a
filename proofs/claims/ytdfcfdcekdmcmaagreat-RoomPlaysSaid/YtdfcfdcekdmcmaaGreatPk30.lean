/-
  The document's own clock: Set by contract. Conditions: the row is the call's own; at most 2^20 timers.
-/
import Derived.Test.YtdfcfdcekdmcmaaGreatPk29
set_option linter.unusedVariables false
set_option linter.unusedSimpArgs false
namespace Go.Proofs.YtdfcfdcekdmcmaaGreat
open Go.RowKit
def BX (W : World) (now : Int) (v : Value) (xs : List (Int × Int)) (vl : Value) (wl : World) : Prop :=
  Below W.heap.size W wl ∧ Rk wl vl xs ∧ (∀ g, vl.ownBlock = some g → W.heap.size + 2 ≤ g) ∧ wl.heap[W.heap.size]? = some (.cells #[.int .i64 now, v] 116 (0, 0)) ∧
    wl.heap[W.heap.size + 1]? = some (.cells #[.int .i64 0, .slice none 0 0] 116 (0, 0))
theorem BX.start (W : World) (now : Int) (v : Value) :
    BX W now v [] (.slice none 0 0) ((W.alloc (.cells #[.int .i64 now, v] 116)).alloc (.cells #[.int .i64 0, .slice none 0 0] 116)) := DS.start W now v [] (fun _ => false)
theorem BX.app {W : World} {now : Int} {v : Value} {xs ys : List (Int × Int)} {vl : Value} {wl wl' w5 : World} {v' : Value} (h : BX W now v xs vl wl) (hB : Below wl.heap.size wl wl')
    (ho : w5.ownsRow 0 237 2 v' (xs.length + ys.length) (flat xs ++ flat ys)) (hf : Frm (fun q => vl.ownBlock = some q) wl' w5)
    (hv : v'.ownBlock = vl.ownBlock ∨ ∀ g, v'.ownBlock = some g → wl'.heap.size ≤ g) : BX W now v (xs ++ ys) v' w5 := by
  obtain ⟨h1, h2, h3, h4, h5⟩ := h
  have hs := h1.size
  have hs' := hB.size
  have hsz := lt_of_block h5
  refine ⟨(h1.trans (hB.mono h1.size)).trans (hf.below (by omega) fun q hq => by have := h3 q hq; omega), ?_, ?_, hf.obj ((hB.block _ (lt_of_block h4)).trans h4) (fun e => by have := h3 _ e; omega), hf.obj ((hB.block _ (lt_of_block h5)).trans h5) (fun e => by have := h3 _ e; omega)⟩
  · unfold Rk
    rw [List.length_append, flat_append]
    exact ho
  · intro g hg
    rcases hv with hv | hv
    · exact h3 g (by rw [← hv]; exact hg)
    · have := hv g hg
      omega
theorem BX.fin {W : World} {now : Int} {v : Value} {xs : List (Int × Int)} {vl : Value} {wl : World} (h : BX W now v xs vl wl) :
    NewRk W ((wl.setCell ⟨W.heap.size + 1, 0, none⟩ (.int .i64 now)).setCell ⟨W.heap.size + 1, 1, none⟩ vl) vl xs := by
  obtain ⟨h1, h2, h3, h4, h5⟩ := h
  have hF : Frm (fun q => q = W.heap.size + 1) wl ((wl.setCell ⟨W.heap.size + 1, 0, none⟩ (.int .i64 now)).setCell ⟨W.heap.size + 1, 1, none⟩ vl) := by
    have h0 : Frm (fun q => q = W.heap.size + 1) wl wl := Frm.refl _ wl
    exact (h0.setCell (p := ⟨W.heap.size + 1, 0, none⟩) rfl _).setCell (p := ⟨W.heap.size + 1, 1, none⟩) rfl _
  refine ⟨hF.row h2 fun g hg e => by have := h3 g hg; omega, fun g hg => by have := h3 g hg; omega, h1.trans (hF.below h1.size fun q hq => by omega)⟩
theorem boxes {W : World} {now : Int} {v : Value} {vl : Value} {xs : List (Int × Int)} {wl : World} (h : BX W now v xs vl wl) : wl.cell? ⟨W.heap.size, 0, none⟩ = some (.int .i64 now) ∧ wl.cell? ⟨W.heap.size, 1, none⟩ = some v ∧ wl.cell? ⟨W.heap.size + 1, 0, none⟩ = some (.int .i64 0) ∧ wl.cell? ⟨W.heap.size + 1, 1, none⟩ = some (.slice none 0 0) ∧
    wl.frozen? ⟨W.heap.size + 1, 0, none⟩ = false ∧ wl.frozen? ⟨W.heap.size + 1, 1, none⟩ = false :=
  ⟨(obj_cell h.2.2.2.1 0).trans rfl, (obj_cell h.2.2.2.1 1).trans rfl, (obj_cell h.2.2.2.2 0).trans rfl, (obj_cell h.2.2.2.2 1).trans rfl, obj_free h.2.2.2.2 0, obj_free h.2.2.2.2 1⟩
theorem bdrew (w : World) (o : Obj) : Below w.heap.size w (w.drew.alloc o) := ⟨rfl, rfl, rfl, by simp, fun k hk => Below.heap_alloc _ _ _ hk⟩
def RSetOk (W w' : World) (now : Int) (ms : List (Int × Int)) (e : Ending) : Prop := ∃ v', e = .returned (.tuple #[.agg #[.int .i64 now, v'], .int .i64 0]) ∧ NewRk W w' v' ms
theorem rset_tail {W w5 : World} {now : Int} {v v' : Value} {ms : List (Int × Int)} (h : BX W now v ms v' w5) : RSetOk W ((w5.setCell ⟨W.heap.size + 1, 0, none⟩ (.int .i64 now)).setCell ⟨W.heap.size + 1, 1, none⟩ v') now ms (.returned (.tuple #[.agg #[.int .i64 now, v'], .int .i64 0])) := ⟨v', rfl, h.fin⟩
set_option maxRecDepth 100000 in
set_option maxHeartbeats 4000000 in
theorem rset_row (W : World) (g cap : Nat) (ms : List (Int × Int)) (now : Int) (t : Int × Int) (ho : Rk W (.slice (some ⟨g, 0, none⟩) ms.length cap) ms) (h1 : ¬ t.1 ≤ now) (h2 : ¬ 1099511627776 < t.1) (h3 : ¬ t.2 < 0) (h4 : ¬ 63 < t.2) (h5 : ¬ 64 ≤ (ms.length : Int)) :
    Calls Tryz.prog 107 #[.agg #[.int .i64 now, .slice (some ⟨g, 0, none⟩) ms.length cap], .int .i64 t.1, .int .i64 t.2] W fun e w' => RSetOk W w' now (ms ++ [t]) e := by
  obtain ⟨i0, hi0, hz0, hz1, hz2⟩ := info_parts infoRT
  have d1 : decide (t.1 ≤ now) = false := decide_eq_false h1
  have d2 : decide (1099511627776 < t.1) = false := decide_eq_false h2
  have d3 : decide (t.2 < 0) = false := decide_eq_false h3
  have d4 : decide (63 < t.2) = false := decide_eq_false h4
  have d5 : decide (64 ≤ (ms.length : Int)) = false := decide_eq_false h5
  have hm : (ms.length : Int) < 64 := by omega
  have hm9 : ms.length ≤ 9223372036854775807 := by omega
  have HM := Lib.hid hm
  have HN := Lib.hid (fun (w' : World) (hf : Frm (fun _ => False) W w') => (hf.row ho fun _ _ => id).cells (g := g) rfl)
  have HS := Lib.hid (BX.start W now (.slice (some ⟨g, 0, none⟩) ms.length cap))
  clear ho h1 h2 h3 h4 h5 hm
  go_enter Tryz.func107, Tryz.ntmps107
  go_wp2_with (at_builtin; refine wpList_append_row rfl _ _ 114 rfl 237 i0 (.agg #[.int .i64 0, .int .i64 0]) 2 16 Tryz.underlying114 hi0 hz0 hz1 hz2 rfl (by decide) (.slice none 0 0) 0 [] rfl (World.ownsRow_nil _ _ _ _) ⟨g, 0, none⟩ ms.length cap (flat ms) rfl (flat_len ms) (HN.out _ (((Frm.refl _ _).alloc _).alloc _)) (flat_cells ms) (by have := HM.out; unfold maxLen; omega) (by have := HM.out; omega) ?_; intro v' w3 hown3 hf3 hv3; have hBX := BX.app (ys := ms) HS.out (Below.refl _ _) hown3 hf3 hv3; simp only [Nat.zero_add, List.nil_append] at hown3 hBX; obtain ⟨p3, c3, rfl, hc3⟩ := row_form hown3; have HX := Lib.hid hBX; clear hown3 hf3 hv3 hc3 hBX)
  obtain ⟨b0, b1, z0, z1, f0, f1⟩ := boxes HX.out
  have a0 : (w3.alloc (.cells #[.int .i64 t.1, .int .i64 t.2] 237)).cell? ⟨W.heap.size, 0, none⟩ = some (.int .i64 now) := keepc (balloc (Below.refl _ _) _) b0
  clear b1 z0 z1 f0 f1
  go_region_law (refine step_append_row rfl (.tmp 36) (.tmp 40) 114 rfl 237 i0 (.agg #[.int .i64 0, .int .i64 0]) 2 16 Tryz.underlying114 hi0 hz0 hz1 hz2 rfl (by decide) (.slice p3 ms.length c3) ms.length _ rfl (HX.out.2.1.alloc _) ⟨w3.heap.size, 0, none⟩ 1 1 [.int .i64 t.1, .int .i64 t.2] rfl rfl (two_cell w3.drew _ _ _) (fun x hx => by simp at hx; rcases hx with rfl | rfl <;> rfl) (by have := HM.out; unfold maxLen; omega) (by have := HM.out; omega) ?_; intro v' w5 hown5 hf5 hv5; obtain ⟨p5, c5, rfl, hc5⟩ := row_form hown5; have hBX := BX.app (ys := [t]) HX.out (bdrew w3 _) hown5 hf5 hv5; obtain ⟨e0, e1, z0, z1, f0, f1⟩ := boxes hBX; have HE := Lib.hid (rset_tail hBX); clear hown5 hf5 hv5 hc5 hBX e1)
  all_goals
    go_wp2
    refine bodyPost_ret (v := .tuple #[.agg #[.int .i64 now, .slice p5 (ms.length + 1) c5], .int .i64 0]) ?_ rfl HE.out
    simp [results, Tryz.results107, go_sem, z0, z1]
end Go.Proofs.YtdfcfdcekdmcmaaGreat
