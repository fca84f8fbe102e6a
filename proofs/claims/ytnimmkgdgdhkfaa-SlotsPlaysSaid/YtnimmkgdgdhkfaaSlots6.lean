/-
  A ring that a call made itself: each call of package slots keeps it one; the statements' own example of package slots; by contract. No condition but those that each names.
-/
import Derived.Test.YtnimmkgdgdhkfaaSlots5
namespace Go.Proofs.Ytnimmkgdgdhkfaa
open Go.RowKit

/-- A ring that was made since W0: nothing of W0 has turned. -/
def MineR (W0 W : World) (b g c k : Nat) (xs : List Ev) : Prop := Rg W b g c k xs ∧ Below W0.heap.size W0 W ∧ W0.heap.size ≤ b ∧ W0.heap.size ≤ g
theorem MineR.keep {W0 W w : World} {b g c k : Nat} {xs : List Ev} (h : MineR W0 W b g c k xs) (hb : Below W.heap.size W w) : MineR W0 w b g c k xs := ⟨h.1.keepB hb, bthen h.2.1 hb, h.2.2⟩
theorem MineR.set {W0 W w : World} {b g c k : Nat} {xs ys : List Ev} (h : MineR W0 W b g c k xs) (hs : RgSet W w b g c k ys) : MineR W0 w b g c k ys :=
  ⟨hs.1, h.2.1.trans (hs.2.below h.2.1.size fun _ hk => hk ▸ h.2.2.2), h.2.2⟩
theorem MineR.set' {W0 W : World} {b g c k i : Nat} {xs : List Ev} (h : MineR W0 W b g c k xs) (hi : i < xs.length) (a : Ev) : MineR W0 ((W.setCell ⟨g, i * 2, none⟩ (.int .i64 a.1)).setCell ⟨g, i * 2 + 1, none⟩ (.int .i64 a.2)) b g c k (xs.set i a) := h.set (h.1.set hi a)
theorem put_m {W0 W : World} {b g c k : Nat} {xs : List Ev} (h : MineR W0 W b g c k xs) (seq x y : Int) (h0 : 0 ≤ seq) (h1 : seq ≤ 4611686018427387904) (i : Nat) (hi : seq % two k = i) (hlt : i < xs.length) :
    Calls Try.prog 41 #[.pointer (some ⟨b, 0, none⟩), .int .i64 seq, .agg #[.int .i64 x, .int .i64 y]] W fun e w' => e = .returned .nilIface ∧ MineR W0 w' b g c k (xs.set i (x, y)) :=
  (put_ok seq x y W b g c k xs h.1 h0 h1 i hi hlt).mono fun _ _ ⟨he, hs⟩ => ⟨he, h.set hs⟩
theorem get_m {W0 W : World} {b g c k : Nat} {xs : List Ev} (h : MineR W0 W b g c k xs) (seq : Int) (h0 : 0 ≤ seq) (h1 : seq ≤ 4611686018427387904) (i : Nat) (hi : seq % two k = i) (a : Ev) (ha : xs[i]? = some a) :
    Calls Try.prog 43 #[.pointer (some ⟨b, 0, none⟩), .int .i64 seq] W fun e w' => e = .returned (.tuple #[.agg #[.int .i64 a.1, .int .i64 a.2], .nilIface]) ∧ MineR W0 w' b g c k xs :=
  (get_ok seq W b g c k xs h.1 h0 h1 i hi a ha).mono fun _ _ ⟨he, hb⟩ => ⟨he, h.keep hb⟩
theorem RgNew.mine {W w : World} {k : Nat} {xs : List Ev} {e : Ending} (h : RgNew W w k xs e) : ∃ b g c, e = .returned (.tuple #[.pointer (some ⟨b, 0, none⟩), .nilIface]) ∧ MineR W w b g c k xs := by
  obtain ⟨b, g, c, he, hr, hb, h1, h2⟩ := h
  exact ⟨b, g, c, he, hr, hb, h1, h2⟩

/-- What the example's ring has behind so many puts. -/
def awk : Nat → List Ev
  | 0 => [(0, 0), (0, 0)]
  | 1 => [(1, 0), (0, 0)]
  | 2 => [(1, 0), (2, 0)]
  | _ => [(3, 0), (2, 0)]

set_option maxHeartbeats 1000000 in
theorem awake6 (W : World) : Calls Try.prog 38 #[] W fun e w' => e = .returned (.bool true) ∧ Below W.heap.size W w' := by
  go_enter Try.func38, Try.ntmps38
  go_wp2_with (go_at_call 39; refine (rnew_ok 1 2 (by decide) rfl _).mono ?_; rintro e w1 hn; obtain ⟨b, g, c, rfl, hm⟩ := hn.mine; have HM := Lib.hid (show MineR W w1 b g c 1 (awk 0) from hm); clear hm hn)
  go_loopw [10] (fun i wl => ∃ j : Nat, j ≤ 3 ∧ i = .int .i64 j ∧ Hid (MineR W wl b g c 1 (awk j))) (fun i _ => 3 - (intOf i).toNat)
  case atStart => exact ⟨0, by decide, rfl, HM⟩
  case round =>
    obtain ⟨j, hj, rfl, HJ⟩ := hrel
    by_cases hlt : j < 3
    · obtain ⟨i, hi, hil, hn⟩ : ∃ i : Nat, (j : Int) % two 1 = i ∧ i < (awk j).length ∧ (awk j).set i ((j : Int) + 1, 0) = awk (j + 1) := by
        have : j = 0 ∨ j = 1 ∨ j = 2 := by omega
        rcases this with rfl | rfl | rfl
        · exact ⟨0, rfl, by decide, rfl⟩
        · exact ⟨1, rfl, by decide, rfl⟩
        · exact ⟨0, rfl, by decide, rfl⟩
      have HI := Lib.hid hi
      have HN := Lib.hid hn
      clear hi hn
      go_wp2_with (go_at_call 41; refine (put_m HJ.out j (j + 1) 0 (by omega) (by omega) i HI.out hil).mono ?_; rintro e w2 ⟨rfl, hm⟩; rw [HN.out] at hm; have HM2 := Lib.hid hm; clear hm)
      exact ⟨⟨j + 1, by omega, by go_num, HM2⟩, by simp [intOf]; omega⟩
    · obtain rfl : j = 3 := by omega
      clear hlt HM
      go_wp2_with (go_at_call 43; refine (get_m HJ.out 0 (by omega) (by omega) 0 rfl (3, 0) rfl).mono ?_; rintro e w3 ⟨rfl, hm⟩; have HB := Lib.hid hm.2.1; clear hm)
      go_ret
      exact ⟨rfl, bthen HB.out (by go_grown)⟩
end Go.Proofs.Ytnimmkgdgdhkfaa
