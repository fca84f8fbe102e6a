/-
  One's own table, step by step, and the statements' own example. Conditions: fewer than 64 actors; for Wake fewer than 2^62 wakes.
-/
import Derived.Test.YtpnglcafjofmnaaActor3
namespace Go.Proofs.Ytpnglcafjofmnaa
open Go.RowKit

/-- One's own table: it lies in new blocks alone. -/
def Mt (W w : World) (b : Nat) (xs : List Ac) : Prop := ∃ v, Tb w b v xs ∧ Below W.heap.size W w ∧ W.heap.size ≤ b ∧ ∀ g, v.ownBlock = some g → W.heap.size ≤ g
theorem Mt.below {W w : World} {b : Nat} {xs : List Ac} (h : Mt W w b xs) : Below W.heap.size W w := let ⟨_, _, h, _⟩ := h; h
theorem Mt.later {W w w' : World} {b : Nat} {xs : List Ac} (h : Mt W w b xs) (hb : Below w.heap.size w w') : Mt W w' b xs :=
  let ⟨v, h1, h2, h3, h4⟩ := h; ⟨v, h1.keepB hb, bthen h2 hb, h3, h4⟩
theorem Tb.mine {W w w' : World} {b : Nat} {v : Value} {xs : List Ac} (hb : Below W.heap.size W w) (h3 : W.heap.size ≤ b) (h4 : ∀ g, v.ownBlock = some g → W.heap.size ≤ g) (h : TbStep w w' b v xs) : Mt W w' b xs := by
  obtain ⟨v', k1, k2, k3⟩ := h
  refine ⟨v', k1, hb.trans (k2.below hb.size fun k e => ?_), h3, fun g hg => ?_⟩
  · rcases e with rfl | e
    · exact h3
    · exact h4 k e
  · rcases k3 with k3 | k3
    · exact h4 g (by rw [← k3]; exact hg)
    · exact Nat.le_trans hb.size (k3 g hg)

theorem new_t (W : World) : Calls Try.prog 35 #[] W fun e w' => e = .returned (.pointer (some ⟨W.heap.size, 0, none⟩)) ∧ Mt W w' W.heap.size [] := by
  refine (tnew W).mono ?_
  rintro e w' ⟨rfl, rfl⟩
  exact ⟨rfl, _, Tb.start W, balloc (Below.refl _ _) _, Nat.le_refl _, fun g h => by simp [Value.ownBlock] at h⟩
theorem add_t {W w : World} {b : Nat} {xs : List Ac} (h : Mt W w b xs) (hl : (xs.length : Int) < 64) :
    Calls Try.prog 36 #[.pointer (some ⟨b, 0, none⟩)] w fun e w' => e = .returned (.tuple #[.int .i64 xs.length, .nilIface]) ∧ Mt W w' b (xs ++ [(0, false, 0)]) := by
  obtain ⟨v, h1, h2, h3, h4⟩ := h
  exact (tadd_some w b v xs h1 hl).mono fun e w' h => ⟨h.1, Tb.mine h2 h3 h4 h.2⟩
theorem park_t {W w : World} {b : Nat} {xs : List Ac} (h : Mt W w b xs) (i : Nat) (a : Ac) (hi : xs[i]? = some a) (hs : a.1 ≠ 2) :
    Calls Try.prog 38 #[.pointer (some ⟨b, 0, none⟩), .int .i64 i] w fun e w' => e = .returned (.tuple #[.bool (!a.2.1), .nilIface]) ∧ Mt W w' b (xs.set i (parkS a)) := by
  obtain ⟨v, h1, h2, h3, h4⟩ := h
  exact (park_ok w b v xs i a h1 hi hs).mono fun e w' h => ⟨h.1, Tb.mine h2 h3 h4 h.2.step⟩
theorem wake_t {W w : World} {b : Nat} {xs : List Ac} (h : Mt W w b xs) (i : Nat) (a : Ac) (hi : xs[i]? = some a) (hs : a.1 ≠ 2) (h0 : 0 ≤ a.2.2) (hm : a.2.2 < 4611686018427387904) :
    Calls Try.prog 40 #[.pointer (some ⟨b, 0, none⟩), .int .i64 i] w fun e w' => e = .returned (.tuple #[.bool (a.1 == 1), .nilIface]) ∧ Mt W w' b (xs.set i (wakeS a)) := by
  obtain ⟨v, h1, h2, h3, h4⟩ := h
  exact (wake_ok w b v xs i a h1 hi hs h0 hm).mono fun e w' h => ⟨h.1, Tb.mine h2 h3 h4 h.2.step⟩
theorem state_t {W w : World} {b : Nat} {xs : List Ac} (h : Mt W w b xs) (i : Nat) (a : Ac) (hi : xs[i]? = some a) :
    Calls Try.prog 45 #[.pointer (some ⟨b, 0, none⟩), .int .i64 i] w fun e w' => e = .returned (.int .i64 a.1) ∧ Mt W w' b xs := by
  have h' := h
  obtain ⟨v, h1, _⟩ := h
  exact (tstate_in w b v xs i a h1 hi).mono fun e w' k => ⟨k.1, h'.later k.2⟩
theorem wakes_t {W w : World} {b : Nat} {xs : List Ac} (h : Mt W w b xs) (i : Nat) (a : Ac) (hi : xs[i]? = some a) :
    Calls Try.prog 47 #[.pointer (some ⟨b, 0, none⟩), .int .i64 i] w fun e w' => e = .returned (.int .i64 a.2.2) ∧ Mt W w' b xs := by
  have h' := h
  obtain ⟨v, h1, _⟩ := h
  exact (twakes_in w b v xs i a h1 hi).mono fun e w' k => ⟨k.1, h'.later k.2⟩
theorem runnable_t {W w : World} {b : Nat} {xs : List Ac} (h : Mt W w b xs) (hl : (xs.length : Int) ≤ 1048576) :
    Calls Try.prog 48 #[.pointer (some ⟨b, 0, none⟩)] w fun e w' => ∃ p c, e = .returned (.slice p (readyL xs xs.length).length c) ∧ Mt W w' b xs := by
  have h' := h
  obtain ⟨v, h1, _⟩ := h
  refine (runnable_any w b v xs h1 hl).mono ?_
  rintro e w' ⟨v', rfl, hb, ho, _⟩
  obtain ⟨p, c, rfl, _⟩ := row_form ho
  exact ⟨p, c, rfl, h'.later hb⟩

/-- The statements' own example. -/
theorem awake5 (W : World) : Calls Try.prog 34 #[] W fun e w' => e = .returned (.bool true) ∧ Below W.heap.size W w' := by
  go_enter Try.func34, Try.ntmps34
  go_wp2_with (first
    | (go_at_call 35; refine (new_t _).mono ?_; rintro e w1 ⟨rfl, hm1⟩)
    | (go_at_call 36; refine (add_t hm1 (by decide)).mono ?_; rintro e w2 ⟨rfl, hm2⟩)
    | (go_at_call 40; refine (wake_t (xs := [(0, false, 0)]) hm2 0 (0, false, 0) rfl (by decide) (by decide) (by decide)).mono ?_; rintro e w3 ⟨rfl, hm3⟩)
    | (go_at_call 38; refine (park_t (xs := [(0, false, 1)]) hm4 0 (0, false, 1) rfl (by decide)).mono ?_; rintro e w5 ⟨rfl, hm5⟩)
    | (go_at_call 38; refine (park_t (xs := [(0, true, 1)]) hm3 0 (0, true, 1) rfl (by decide)).mono ?_; rintro e w4 ⟨rfl, hm4⟩)
    | (go_at_call 45; refine (state_t (xs := [(1, false, 1)]) hm5 0 (1, false, 1) rfl).mono ?_; rintro e w6 ⟨rfl, hm6⟩))
  go_ret
  exact ⟨rfl, hm6.below⟩
end Go.Proofs.Ytpnglcafjofmnaa
