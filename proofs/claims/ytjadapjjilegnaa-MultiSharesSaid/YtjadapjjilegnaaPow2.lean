/-
  pow.Up and pow.Of, and the document's own answers for sizes: contracts, of any number of slots.
-/
import Derived.Test.YtjadapjjilegnaaPow
import Derived.Test.YtjadapjjilegnaaShelf
import Derived.Lib.ItoaNum
namespace Go.Proofs.Ytjadapjjilegnaa
open Go.RowKit

/-- k is the least power that is enough for n. -/
def Least (k : Nat) (n : Int) : Prop := n ≤ two k ∧ ∀ j, j < k → two j < n

theorem two_succ (k : Nat) : two (k + 1) = two k * 2 := by unfold two; rw [Int.pow_succ]
theorem two_mono {a b : Nat} (h : a ≤ b) : two a ≤ two b := by
  induction h with
  | refl => exact Int.le_refl _
  | step _ ih => rw [two_succ]; have := two_pos a; omega
theorem two_inj {a b : Nat} (h : two a = two b) : a = b := by
  rcases Nat.lt_trichotomy a b with hl | hl | hl
  · have := two_mono (a := a + 1) (b := b) hl; rw [two_succ] at this; have := two_pos a; omega
  · exact hl
  · have := two_mono (a := b + 1) (b := a) hl; rw [two_succ] at this; have := two_pos b; omega
theorem least_two (k : Nat) : Least k (two k) := by
  refine ⟨Int.le_refl _, fun j hj => ?_⟩
  have := two_mono (a := j + 1) (b := k) hj
  rw [two_succ] at this
  have := two_pos j
  omega
theorem least_exists (m : Nat) (n : Int) (h : n ≤ two m) : ∃ k, k ≤ m ∧ Least k n := by
  induction m with
  | zero => exact ⟨0, Nat.le_refl _, h, fun j hj => absurd hj (Nat.not_lt_zero _)⟩
  | succ m ih =>
    by_cases hm : n ≤ two m
    · obtain ⟨k, hk, hl⟩ := ih hm
      exact ⟨k, by omega, hl⟩
    · refine ⟨m + 1, Nat.le_refl _, h, fun j hj => ?_⟩
      have := two_mono (a := j) (b := m) (by omega)
      omega
theorem least_bits (k : Nat) (hk : k ≤ 20) (n : Int) (hn : 2 ≤ n) (h : Least k n) : Lib.bitLen (n - 1).toNat = k := by
  have h20 := two_le hk
  obtain ⟨h1, h2⟩ := h
  have hx : ∃ x : Nat, n = x + 1 ∧ 1 ≤ x := ⟨(n - 1).toNat, by omega, by omega⟩
  obtain ⟨x, rfl, hx1⟩ := hx
  have e : ((x : Int) + 1 - 1).toNat = x := by omega
  rw [e]
  obtain ⟨b1, b2, b3⟩ := Lib.bitLenAux_bounds 64 x (by omega) (by omega)
  have hL : Lib.bitLen x = Lib.bitLenAux 64 x := rfl
  rw [hL]
  have c1 : x < 2 ^ k := by
    have : (x : Int) + 1 ≤ ((2 ^ k : Nat) : Int) := by unfold two at h1; simpa using h1
    omega
  have hk0 : k ≠ 0 := by
    rintro rfl; simp at c1; omega
  have c2 : 2 ^ (k - 1) ≤ x := by
    have h := h2 (k - 1) (by omega)
    have : ((2 ^ (k - 1) : Nat) : Int) < (x : Int) + 1 := by unfold two at h; simpa using h
    omega
  have d1 : Lib.bitLenAux 64 x - 1 < k := (Nat.pow_lt_pow_iff_right (a := 2) (by decide)).1 (Nat.lt_of_le_of_lt b2 c1)
  have d2 : k - 1 < Lib.bitLenAux 64 x := (Nat.pow_lt_pow_iff_right (a := 2) (by decide)).1 (Nat.lt_of_le_of_lt c2 b3)
  omega

theorem up_yes (k : Nat) (hk : k ≤ 20) (n : Int) (hw : -9223372036854775808 ≤ n) (h : Least k n) (w : World) :
    Calls Try.prog 89 #[.int .i64 n] w fun e w' => e = .returned (.tuple #[.agg #[.int .u8 k], .nilIface]) ∧ w.alloc (.cells #[.int .u8 k] 106) = w' := by
  have h20 := two_le hk
  have hle := h.1
  have H := Lib.hid h
  by_cases hn : n < 2
  · have hk0 : k = 0 := by
      rcases Nat.eq_zero_or_pos k with h0 | h0
      · exact h0
      · have := h.2 0 h0; have e : two 0 = 1 := rfl; omega
    subst hk0
    clear h
    go_enter Try.func89, Try.ntmps89
    go_wp2
    go_returns
    exact ⟨rfl, rfl⟩
  · have hb : Lib.bitLen (n.toNat - 1) = k := by
      have := least_bits k hk n (by omega) h
      rw [show (n - 1).toNat = n.toNat - 1 by omega] at this
      exact this
    have hB := Lib.hid hb
    clear hb
    clear h
    go_enter Try.func89, Try.ntmps89
    go_wp2_with (go_at_call 148; refine (Try.bits_Len _ _ (by omega) (by omega)).mono ?_; rintro e w' ⟨rfl, rfl⟩)
    go_returns
    exact ⟨by rw [hB.out, show ((k : Int) % 256) = k by omega], by rw [hB.out, show ((k : Int) % 256) = k by omega]⟩

theorem up_no (n : Int) (h : 1048576 < n) (w : World) :
    Calls Try.prog 89 #[.int .i64 n] w fun e w' => ∃ op : ByteArray, e = .returned (.tuple #[.agg #[.int .u8 0], .iface 241 (.pointer (some ⟨w.heap.size + 1, 0, none⟩))]) ∧ (w.alloc (.cells #[.int .u8 0] 106)).alloc (.cells #[.string op, .int .i64 n, .iface 184 (.int .i64 7)] 243) = w' := by
  go_enter Try.func89, Try.ntmps89
  go_wp2_with (go_at_call 115; refine (wrap_iface _ _ _ _).mono ?_; rintro e w' ⟨rfl, rfl⟩)
  go_returns
  exact ⟨_, rfl, rfl⟩

theorem of_yes (k : Nat) (hk : k ≤ 20) (w : World) :
    Calls Try.prog 62 #[.int .i64 (two k)] w fun e w' => e = .returned (.tuple #[.agg #[.int .u8 k], .nilIface]) ∧ Below w.heap.size w w' := by
  have h20 := two_le hk
  have hpos := two_pos k
  go_enter Try.func62, Try.ntmps62
  go_wp2_with (first | (go_at_call 89; refine (up_yes k hk _ (by omega) (least_two k) _).mono ?_; rintro e w' ⟨rfl, rfl⟩) | (go_at_call 87; refine (slots_any k hk _).mono ?_; rintro e w'' ⟨rfl, rfl⟩))
  go_returns
  exact ⟨rfl, by go_grown⟩

theorem of_great (n : Int) (h : 1048576 < n) (w : World) :
    Calls Try.prog 62 #[.int .i64 n] w fun e w' => ∃ F, e = .returned (.tuple #[.agg #[.int .u8 0], F]) ∧ Chain w' F 1 7 ∧ Below w.heap.size w w' := by
  go_enter Try.func62, Try.ntmps62
  go_wp2_with (first | (go_at_call 89; refine (up_no n h _).mono ?_; rintro e w' ⟨op, rfl, rfl⟩) | (go_at_call 115; refine (wrap_iface _ _ _ _).mono ?_; rintro e w' ⟨rfl, rfl⟩))
  go_returns
  exact ⟨_, rfl, .fault _ _ _ _ 0 7 (heap_at _ _ _ (by simp)) (.num 7), by go_grown⟩

theorem of_other (n : Int) (hw : -9223372036854775808 ≤ n) (h : n ≤ 1048576) (hno : ∀ k, k ≤ 20 → n ≠ two k) (w : World) :
    Calls Try.prog 62 #[.int .i64 n] w fun e w' => ∃ F, e = .returned (.tuple #[.agg #[.int .u8 0], F]) ∧ Chain w' F 1 7 ∧ Below w.heap.size w w' := by
  obtain ⟨k, hk, hl⟩ := least_exists 20 n h
  have hL := Lib.hid hl
  have hne := hno k hk
  have hN : (two k == n) = false := by simpa using fun e => hne e.symm
  clear hl hno hne
  go_enter Try.func62, Try.ntmps62
  go_wp2_with (first | (go_at_call 89; refine (up_yes k hk _ hw hL.out _).mono ?_; rintro e w' ⟨rfl, rfl⟩) | (go_at_call 87; refine (slots_any k hk _).mono ?_; rintro e w'' ⟨rfl, rfl⟩) | (go_at_call 115; refine (wrap_iface _ _ _ _).mono ?_; rintro e w' ⟨rfl, rfl⟩))
  go_returns
  exact ⟨_, rfl, .fault _ _ _ _ 0 7 (heap_at _ _ _ (by simp)) (.num 7), by go_grown⟩
end Go.Proofs.Ytjadapjjilegnaa
