/-
  pow.Next, Room, Wrap and the document's answers for them, each by one plain function; whether an error is the number that is asked: contracts.
-/
import Derived.Test.YtekligmejngkaaaPow3
namespace Go.Proofs.Ytekligmejngkaaa
open Go.RowKit

/-- E is the error of number c; 0: there is none. -/
def ErrN (W : World) (E : Value) (c : Int) : Prop := (c = 0 ∧ E = .nilIface) ∨ (c ≠ 0 ∧ ∃ d, Chain W E d c)
theorem ErrN.keep {W W' : World} (hb : Below W.heap.size W W') {E : Value} {c : Int} (h : ErrN W E c) : ErrN W' E c := by
  rcases h with h | ⟨h0, d, h⟩
  · exact Or.inl h
  · exact Or.inr ⟨h0, d, h.keep hb⟩
theorem isN_same {W : World} (E : Value) (c : Int) (h : ErrN W E c) :
    Calls Try.prog 9 #[E, .int .i64 c] W fun e w' => e = .returned (.bool true) ∧ W = w' := by
  rcases h with ⟨rfl, rfl⟩ | ⟨h0, d, h⟩
  · exact (isN_nil 0).mono fun e w' ⟨he, hw⟩ => ⟨by rw [he]; rfl, hw⟩
  · exact (isN_chain c E d c h h0).mono fun e w' ⟨he, hw⟩ => ⟨by rw [he]; simp, hw⟩

def nextV (seq n : Int) : Int := if n < 1 ∨ 1048576 < n then 0 else if seq < -1 then 0 else if 4611686018427387904 - n < seq then 0 else seq + n
def nextC (seq n : Int) : Int := if n < 1 ∨ 1048576 < n then 1 else if seq < -1 then 5 else if 4611686018427387904 - n < seq then 15 else 0

theorem next_any (seq n : Int) (w : World) :
    Calls Try.prog 20 #[.int .i64 seq, .int .i64 n] w fun e w' => ∃ F, e = .returned (.tuple #[.int .i64 (nextV seq n), F]) ∧ ErrN w' F (nextC seq n) ∧ Below w.heap.size w w' := by
  unfold nextV nextC
  by_cases h1 : n < 1 ∨ 1048576 < n
  · rw [if_pos h1, if_pos h1]
    exact (next_arg seq n h1 w).mono fun e w' ⟨F, he, hc, hb⟩ => ⟨F, he, Or.inr ⟨by decide, 1, hc⟩, hb⟩
  · rw [if_neg h1, if_neg h1]
    by_cases h2 : seq < -1
    · rw [if_pos h2, if_pos h2]
      exact (next_range seq n (by omega) (by omega) h2 w).mono fun e w' ⟨F, he, hc, hb⟩ => ⟨F, he, Or.inr ⟨by decide, 1, hc⟩, hb⟩
    · rw [if_neg h2, if_neg h2]
      by_cases h3 : 4611686018427387904 - n < seq
      · rw [if_pos h3, if_pos h3]
        exact (next_end seq n (by omega) (by omega) h3 w).mono fun e w' ⟨F, he, hc, hb⟩ => ⟨F, he, Or.inr ⟨by decide, 1, hc⟩, hb⟩
      · rw [if_neg h3, if_neg h3]
        exact (next_yes seq n (by omega) (by omega) (by omega) (by omega) w).mono fun e w' ⟨he, hw⟩ => ⟨.nilIface, he, Or.inl ⟨rfl, rfl⟩, hw ▸ Below.refl _ _⟩

theorem refNext_any (seq n : Int) (w : World) :
    Calls Try.prog 21 #[.int .i64 seq, .int .i64 n] w fun e w' => e = .returned (.tuple #[.int .i64 (nextV seq n), .int .i64 (nextC seq n)]) ∧ w = w' := by
  unfold nextV nextC
  by_cases h1 : n < 1 ∨ 1048576 < n
  · rw [if_pos h1, if_pos h1]; exact refNext_arg seq n h1 w
  · rw [if_neg h1, if_neg h1]
    by_cases h2 : seq < -1
    · rw [if_pos h2, if_pos h2]; exact refNext_range seq n (by omega) (by omega) h2 w
    · rw [if_neg h2, if_neg h2]
      by_cases h3 : 4611686018427387904 - n < seq
      · rw [if_pos h3, if_pos h3]; exact refNext_end seq n (by omega) (by omega) h3 w
      · rw [if_neg h3, if_neg h3]; exact refNext_yes seq n (by omega) (by omega) (by omega) (by omega) w

def roomV (k : Nat) (c l : Int) : Int := if l < -1 ∨ c < l ∨ 4611686018427387904 < c then 0 else max 0 (two k - (c - l))
theorem room_any (k : Nat) (hk : k ≤ 20) (c l : Int) (w : World) :
    Calls Try.prog 22 #[.agg #[.int .u8 k], .int .i64 c, .int .i64 l] w fun e w' => e = .returned (.int .i64 (roomV k c l)) ∧ Below w.heap.size w w' := by
  unfold roomV
  by_cases h : l < -1 ∨ c < l ∨ 4611686018427387904 < c
  · rw [if_pos h]; exact room_no k c l h w
  · rw [if_neg h]; exact room_yes k hk c l (by omega) (by omega) (by omega) w
theorem refRoom_any (k : Nat) (hk : k ≤ 20) (c l : Int) (w : World) :
    Calls Try.prog 23 #[.int .i64 (two k), .int .i64 c, .int .i64 l] w fun e w' => e = .returned (.int .i64 (roomV k c l)) ∧ w = w' := by
  unfold roomV
  by_cases h : l < -1 ∨ c < l ∨ 4611686018427387904 < c
  · rw [if_pos h]; exact refRoom_no (two k) c l h w
  · rw [if_neg h]; exact refRoom_yes k hk c l (by omega) (by omega) (by omega) w

def wrapV (k : Nat) (seq : Int) : Int := if seq < -1 ∨ 4611686018427387904 < seq then 0 else seq - two k
theorem wrapTo_any (k : Nat) (hk : k ≤ 20) (seq : Int) (w : World) :
    Calls Try.prog 17 #[.agg #[.int .u8 k], .int .i64 seq] w fun e w' => ∃ F, e = .returned (.tuple #[.int .i64 (wrapV k seq), F]) ∧ ErrN w' F (if seq < -1 ∨ 4611686018427387904 < seq then 5 else 0) ∧ Below w.heap.size w w' := by
  unfold wrapV
  by_cases h : seq < -1 ∨ 4611686018427387904 < seq
  · rw [if_pos h, if_pos h]
    exact (wrapTo_no k seq h w).mono fun e w' ⟨F, he, hc, hb⟩ => ⟨F, he, Or.inr ⟨by decide, 1, hc⟩, hb⟩
  · rw [if_neg h, if_neg h]
    exact (wrapTo_yes k hk seq (by omega) (by omega) w).mono fun e w' ⟨he, hb⟩ => ⟨.nilIface, he, Or.inl ⟨rfl, rfl⟩, hb⟩
end Go.Proofs.Ytekligmejngkaaa
