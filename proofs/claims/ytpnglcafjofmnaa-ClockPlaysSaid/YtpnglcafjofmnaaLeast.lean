/-
  The document's own clock: Least by contract, over plain lists. Conditions: the row is the call's own; at most 2^20 timers.
-/
import Derived.Test.YtpnglcafjofmnaaTick2
namespace Go.Proofs.Ytpnglcafjofmnaa
open Go.RowKit

/-- The document's row of timers. -/
def Rk (W : World) (v : Value) (ms : List (Int × Int)) : Prop := W.ownsRow 0 72 2 v ms.length (flat ms)
def tm (ms : List (Int × Int)) (j : Nat) : Int := (ms[j]?.getD (0, 0)).1
def wh (ms : List (Int × Int)) (j : Nat) : Int := (ms[j]?.getD (0, 0)).2
theorem tm_get {ms : List (Int × Int)} {j : Nat} (h : j < ms.length) : tm ms j = ms[j].1 := by unfold tm; rw [List.getElem?_eq_getElem h]; rfl
theorem wh_get {ms : List (Int × Int)} {j : Nat} (h : j < ms.length) : wh ms j = ms[j].2 := by unfold wh; rw [List.getElem?_eq_getElem h]; rfl
/-- m is the first of the least among the first k. -/
def First (ms : List (Int × Int)) (k m : Nat) : Prop := m < k ∧ (∀ j, j < m → tm ms m < tm ms j) ∧ ∀ j, j < k → tm ms m ≤ tm ms j
/-- Least's answer after k. -/
def LA (ms : List (Int × Int)) (k : Nat) (a : Int) : Prop := (k = 0 ∧ a = -1) ∨ ∃ m : Nat, a = m ∧ First ms k m
theorem LA.zero (ms : List (Int × Int)) : LA ms 0 (-1) := .inl ⟨rfl, rfl⟩
theorem LA.one (ms : List (Int × Int)) : LA ms (0 + 1) ((0 : Nat) : Int) := by
  refine .inr ⟨0, rfl, by omega, fun j h => by omega, fun j h => ?_⟩
  obtain rfl : j = 0 := by omega
  exact Int.le_refl _
theorem LA.less {ms : List (Int × Int)} {k m : Nat} (h : First ms k m) (hl : tm ms k < tm ms m) : LA ms (k + 1) (k : Int) :=
  .inr ⟨k, rfl, by omega, fun j hj => by have := h.2.2 j hj; omega, fun j hj => by
    rcases Nat.lt_or_eq_of_le (Nat.lt_succ_iff.1 hj) with h' | h'
    · have := h.2.2 j h'; omega
    · rw [h']; exact Int.le_refl _⟩
theorem LA.same {ms : List (Int × Int)} {k m : Nat} (h : First ms k m) (hl : tm ms m ≤ tm ms k) : LA ms (k + 1) (m : Int) :=
  .inr ⟨m, rfl, by have := h.1; omega, h.2.1, fun j hj => by
    rcases Nat.lt_or_eq_of_le (Nat.lt_succ_iff.1 hj) with h' | h'
    · exact h.2.2 j h'
    · rw [h']; exact hl⟩

theorem rk_cells {W : World} {g cap : Nat} {ms : List (Int × Int)} (h : Rk W (.slice (some ⟨g, 0, none⟩) ms.length cap) ms) {j : Nat} (hj : j < ms.length) :
    W.cell? ⟨g, j * 2, none⟩ = some (.int .i64 (tm ms j)) ∧ W.cell? ⟨g, j * 2 + 1, none⟩ = some (.int .i64 (wh ms j)) := by
  obtain ⟨f1, f2⟩ := flat_get ms j hj
  rw [tm_get hj, wh_get hj]
  exact ⟨(h.cellAt (j * 2) (by omega)).trans (by rw [show j * 2 = 2 * j by omega]; exact f1), (h.cellAt (j * 2 + 1) (by omega)).trans (by rw [show j * 2 + 1 = 2 * j + 1 by omega]; exact f2)⟩

theorem row_at {W : World} {p : Option Addr} {n c : Nat} {ms : List (Int × Int)} (h : Rk W (.slice p n c) ms) (hn : 0 < ms.length) : ∃ g, p = some ⟨g, 0, none⟩ := by
  rcases h.2 with ⟨_, h0⟩ | ⟨g, cap, cur, h', _⟩
  · omega
  · simp only [Value.slice.injEq] at h'
    exact ⟨g, h'.1⟩

set_option maxRecDepth 100000 in
set_option maxHeartbeats 2000000 in
theorem least_any (W : World) (p0 : Option Addr) (cap : Nat) (ms : List (Int × Int)) (ho : Rk W (.slice p0 ms.length cap) ms) (hn : (ms.length : Int) ≤ 1048576) :
    Calls Try.prog 30 #[.slice p0 ms.length cap] W fun e w' => ∃ a, e = .returned (.int .i64 a) ∧ LA ms ms.length a ∧ Below W.heap.size W w' := by
  have HO := Lib.hid ho
  clear ho
  go_enter Try.func30, Try.ntmps30
  go_wp2_with fail
  go_loopw [3, 4] (fun at' i wl => ∃ (k : Nat) (a : Int), k ≤ ms.length ∧ i = .int .i64 k ∧ at' = .int .i64 a ∧ Below W.heap.size W wl ∧ Hid (LA ms k a)) (fun _ i _ => ms.length - (intOf i).toNat)
  case atStart => exact ⟨0, _, Nat.zero_le _, rfl, rfl, Below.refl _ _, LA.zero ms⟩
  case round =>
    obtain ⟨k, a, hk, rfl, rfl, hb, HN⟩ := hrel
    have HB := Lib.hid hb
    clear hb
    by_cases hlt : k < ms.length
    · obtain ⟨g, rfl⟩ := row_at HO.out (by omega)
      have g0 := keepc HB.out (rk_cells HO.out hlt).1
      rcases HN.out with ⟨rfl, rfl⟩ | ⟨m, rfl, hm⟩
      · go_wp2_with fail
        go_quiet (fail)
        go_wp2
        exact ⟨⟨0 + 1, _, by omega, rfl, rfl, HB.out.trans ⟨rfl, rfl, rfl, Nat.le_refl _, fun _ _ => rfl⟩, LA.one ms⟩, by simp [intOf]; omega⟩
      · have hmk := hm.1
        have hml : m < ms.length := by omega
        have HM := Lib.hid hm
        have g1 := keepc HB.out (rk_cells HO.out hml).1
        have dm : decide ((m : Int) < 0) = false := by rw [decide_eq_false_iff_not]; omega
        clear hm
        by_cases hc : tm ms k < tm ms m
        · have dc : decide (tm ms k < tm ms m) = true := decide_eq_true hc
          go_wp2_with fail
          go_quiet (fail)
          go_wp2
          exact ⟨⟨k + 1, _, by omega, by go_num, rfl, HB.out.trans ⟨rfl, rfl, rfl, Nat.le_refl _, fun _ _ => rfl⟩, LA.less HM.out hc⟩, by simp [intOf]; omega⟩
        · have dc : decide (tm ms k < tm ms m) = false := decide_eq_false hc
          go_wp2_with fail
          go_quiet (fail)
          go_wp2
          exact ⟨⟨k + 1, _, by omega, by go_num, rfl, HB.out.trans ⟨rfl, rfl, rfl, Nat.le_refl _, fun _ _ => rfl⟩, LA.same HM.out (by omega)⟩, by simp [intOf]; omega⟩
    · obtain rfl : k = ms.length := by omega
      clear hlt
      go_wp2
      go_ret
      exact ⟨a, rfl, HN.out, HB.out⟩
end Go.Proofs.Ytpnglcafjofmnaa
