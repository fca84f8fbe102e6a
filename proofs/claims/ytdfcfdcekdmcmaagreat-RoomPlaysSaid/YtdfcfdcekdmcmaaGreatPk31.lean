/-
  The document's own clock: Set on no row, and on any. Conditions: the row is the call's own; at most 2^20 timers.
-/
import Derived.Test.YtdfcfdcekdmcmaaGreatPk30
set_option linter.unusedVariables false
set_option linter.unusedSimpArgs false
namespace Go.Proofs.YtdfcfdcekdmcmaaGreat
open Go.RowKit
set_option maxRecDepth 100000 in
set_option maxHeartbeats 4000000 in
theorem rset_none (W : World) (now : Int) (t : Int × Int) (h1 : ¬ t.1 ≤ now) (h2 : ¬ 1099511627776 < t.1) (h3 : ¬ t.2 < 0) (h4 : ¬ 63 < t.2) :
    Calls Tryz.prog 107 #[.agg #[.int .i64 now, .slice none 0 0], .int .i64 t.1, .int .i64 t.2] W fun e w' => RSetOk W w' now [t] e := by
  obtain ⟨i0, hi0, hz0, hz1, hz2⟩ := info_parts infoRT
  have d1 : decide (t.1 ≤ now) = false := decide_eq_false h1
  have d2 : decide (1099511627776 < t.1) = false := decide_eq_false h2
  have d3 : decide (t.2 < 0) = false := decide_eq_false h3
  have d4 : decide (63 < t.2) = false := decide_eq_false h4
  have HS := Lib.hid (BX.start W now (.slice none 0 0))
  clear h1 h2 h3 h4
  go_enter Tryz.func107, Tryz.ntmps107
  go_wp2_with fail
  generalize (W.alloc (.cells #[.int .i64 now, .slice none 0 0] 116)).alloc (.cells #[.int .i64 0, .slice none 0 0] 116) = w3 at *
  obtain ⟨b0, b1, z0, z1, f0, f1⟩ := boxes HS.out
  have a0 : (w3.alloc (.cells #[.int .i64 t.1, .int .i64 t.2] 237)).cell? ⟨W.heap.size, 0, none⟩ = some (.int .i64 now) := keepc (balloc (Below.refl _ _) _) b0
  clear b1 z0 z1 f0 f1
  go_region_law (refine step_append_row rfl (.tmp 36) (.tmp 40) 114 rfl 237 i0 (.agg #[.int .i64 0, .int .i64 0]) 2 16 Tryz.underlying114 hi0 hz0 hz1 hz2 rfl (by decide) (.slice none 0 0) 0 [] rfl (World.ownsRow_nil _ _ _ _) ⟨w3.heap.size, 0, none⟩ 1 1 [.int .i64 t.1, .int .i64 t.2] rfl rfl (two_cell w3.drew _ _ _) (fun x hx => by simp at hx; rcases hx with rfl | rfl <;> rfl) (by unfold maxLen; omega) (by omega) ?_; intro v' w5 hown5 hf5 hv5; simp only [Nat.zero_add, List.nil_append] at hown5; obtain ⟨p5, c5, rfl, hc5⟩ := row_form hown5; have hBX := BX.app (ys := [t]) HS.out (bdrew w3 _) hown5 hf5 hv5; simp only [List.nil_append] at hBX; obtain ⟨e0, e1, z0, z1, f0, f1⟩ := boxes hBX; have HE := Lib.hid (rset_tail hBX); clear hown5 hf5 hv5 hc5 hBX e1)
  all_goals
    go_wp2
    refine bodyPost_ret (v := .tuple #[.agg #[.int .i64 now, .slice p5 1 c5], .int .i64 0]) ?_ rfl HE.out
    simp [results, Tryz.results107, go_sem, z0, z1]
theorem rset_any (W : World) (v : Value) (ms : List (Int × Int)) (now : Int) (t : Int × Int) (ho : Rk W v ms) (h1 : ¬ t.1 ≤ now) (h2 : ¬ 1099511627776 < t.1) (h3 : ¬ t.2 < 0) (h4 : ¬ 63 < t.2) (h5 : ¬ 64 ≤ (ms.length : Int)) :
    Calls Tryz.prog 107 #[.agg #[.int .i64 now, v], .int .i64 t.1, .int .i64 t.2] W fun e w' => RSetOk W w' now (ms ++ [t]) e := by
  rcases ho.2 with ⟨rfl, h0⟩ | ⟨g, cap, cur, rfl, _⟩
  · obtain rfl : ms = [] := List.eq_nil_of_length_eq_zero h0
    exact rset_none W now t h1 h2 h3 h4
  · exact rset_row W g cap ms now t ho h1 h2 h3 h4 h5
end Go.Proofs.YtdfcfdcekdmcmaaGreat
