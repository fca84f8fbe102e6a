/-
  walk, Highest, Show, New of package avail, by contract. Conditions: the arena has all of the buffer's cells; fewer than 2^61 steps.
-/
import Derived.Test.YteinfkcnengmeaaAv2
import Derived.LoopTactic
namespace Go.Proofs.Yteinfkcnengmeaa
open Go.RowKit
section
variable {R : Rest}

/-- What asking up to where all are shown leaves. -/
def Told (R : Rest) (W0 w : World) (b q f k : Nat) (xs : List Int) (st lo hi : Int) (e : Ending) : Prop :=
  ∃ (j : Nat) (st' : Int), RunTo (shownB xs f k) lo hi j ∧ e = .returned (.tuple #[.int .i64 (lo + j - 1), .nilIface]) ∧ Av R W0 w b q f k xs st' ∧ st ≤ st' ∧ st' ≤ st + 1048577

set_option maxHeartbeats 1000000 in
theorem walk_some {W0 W : World} {b q f k : Nat} {xs : List Int} {st : Int} (h : Av R W0 W b q f k xs st) (lo hi : Int) (hl0 : 0 ≤ lo) (hl1 : lo ≤ 4611686018427387904) (hh0 : -9223372036854775808 ≤ hi) (hh : hi ≤ 4611686018427387904) (hl : f + two k ≤ (xs.length : Int)) (h0 : 0 ≤ st) (h1 : st < 2305843009213693952) :
    Calls Try.prog 91 #[.pointer (some ⟨q, 0, none⟩), .pointer (some ⟨b, 0, none⟩), .int .i64 lo, .int .i64 hi] W fun e w' => Told R W0 w' b q f k xs st lo hi e := by
  have H := Lib.hid h
  have HL := Lib.hid hl
  have hk := two_le h.bf.2.1
  clear h hl
  go_enter Try.func91, Try.ntmps91
  go_wp2
  go_loopw [10] (fun i wl => ∃ j : Nat, i = .int .i64 (lo + j) ∧ Hid (Av R W0 wl b q f k xs (st + j)) ∧ Hid (∀ i : Nat, i < j → shownB xs f k (lo + i) = true) ∧ (j = 0 ∨ lo + j - 1 ≤ hi)) (fun i _ => (hi + 1 - intOf i).toNat)
  case atStart => exact ⟨0, by simp, by simpa using H, Lib.hid fun i hi => absurd hi (by omega), Or.inl rfl⟩
  case round =>
    obtain ⟨j, rfl, HA, HJ, hj⟩ := hrel
    have hjk := run_le HJ.out
    by_cases hle : lo + (j : Int) ≤ hi
    · by_cases hp : shownB xs f k (lo + j) = true
      · have HN : Hid (∀ i : Nat, i < j + 1 → shownB xs f k (lo + i) = true) := Lib.hid fun i hi => by
          by_cases e : i = j
          · subst e; exact hp
          · exact HJ.out i (by omega)
        go_wp2_with (go_at_call 90; refine (ashown_some HA.out (lo + j) HL.out (by omega) (by omega)).mono ?_; rintro e w2 ⟨rfl, hh⟩; rw [hp]; have H2 := Lib.hid hh; clear hh)
        exact ⟨⟨j + 1, by go_num, by rw [show st + ((j + 1 : Nat) : Int) = st + j + 1 by omega]; exact H2, HN, Or.inr (by omega)⟩, by simp [intOf]; omega⟩
      · have hp' : shownB xs f k (lo + j) = false := by simpa using hp
        clear hp
        go_wp2_with (go_at_call 90; refine (ashown_some HA.out (lo + j) HL.out (by omega) (by omega)).mono ?_; rintro e w2 ⟨rfl, hh⟩; rw [hp']; have H2 := Lib.hid hh; clear hh)
        go_ret2
        exact ⟨j, st + j + 1, ⟨HJ.out, fun _ => hp', hj⟩, rfl, H2.out, by omega, by omega⟩
    · have hgt : hi < lo + (j : Int) := by omega
      have hmx : max (lo - 1) hi = lo + (j : Int) - 1 := by omega
      go_wp2
      all_goals go_ret2
      all_goals exact ⟨j, st + j, ⟨HJ.out, fun h => absurd h (by omega), hj⟩, congrArg (fun x => Ending.returned (.tuple #[.int .i64 x, .nilIface])) (by omega), HA.out, by omega, by omega⟩
end
end Go.Proofs.Yteinfkcnengmeaa
