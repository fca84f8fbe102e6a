/-
  What the statements of package gate ask by themselves: whether two slices are the same, the least of some numbers: by contract. Condition: at most a million numbers.
-/
import Derived.Test.YtdbjeaploanalaaGate7
namespace Go.Proofs.Ytdbjeaploanalaa
open Go.RowKit

theorem IntsAt.keep {W w : World} {v : Value} {l : List Int} (h : IntsAt W v l) (hb : Below W.heap.size W w) : IntsAt w v l := by
  obtain ⟨p, cap, rfl, h⟩ := h
  refine ⟨p, cap, rfl, h.imp id ?_⟩
  rintro ⟨b, off, rfl, hc⟩
  exact ⟨b, off, rfl, fun j hj => keepc hb (hc j hj)⟩
theorem IntsAt.of_row {W : World} {B : Nat} {e : TypeId} {p : Option Addr} {n c : Nat} {l : List Int} (h : W.ownsRow B e 1 (.slice p n c) n (l.map (Value.int .i64))) : IntsAt W (.slice p n c) l := by
  have hn : l.length = n := by have := h.1; simpa using this
  subst hn
  refine ⟨p, c, rfl, ?_⟩
  rcases Nat.eq_zero_or_pos l.length with h0 | h0
  · exact .inl h0
  · obtain ⟨g, cap, hs, _⟩ := row_some h h0
    simp at hs
    obtain ⟨rfl, rfl⟩ := hs
    refine .inr ⟨g, 0, rfl, fun j hj => ?_⟩
    rw [Nat.zero_add, h.cellAt j (by omega)]
    simp [List.getElem?_eq_getElem hj]

set_option maxHeartbeats 1000000 in
set_option maxRecDepth 100000 in
theorem same_yes {W : World} {u v : Value} {l : List Int} (h : IntsAt W u l) (k : IntsAt W v l) (hbig : l.length ≤ 1000000) :
    Calls Try.prog 42 #[u, v] W fun e w' => e = .returned (.bool true) ∧ Below W.heap.size W w' := by
  obtain ⟨p, c, rfl, h⟩ := h
  obtain ⟨q, d, rfl, k⟩ := k
  have H := Lib.hid h
  have K := Lib.hid k
  clear h k
  generalize l.length = n at *
  go_enter Try.func42, Try.ntmps42
  go_wp2_with fail
  go_loopw [13] (fun i wl => ∃ j : Nat, j ≤ n ∧ i = .int .i64 j ∧ Hid (Below W.heap.size W wl)) (fun i _ => n - (intOf i).toNat)
  case atStart => exact ⟨0, by omega, rfl, Below.refl _ _⟩
  case round =>
    obtain ⟨j, hj, rfl, HB⟩ := hrel
    by_cases hlt : j < n
    · rcases H.out with h | ⟨b1, o1, rfl, hc⟩
      · omega
      rcases K.out with h | ⟨b2, o2, rfl, hd⟩
      · omega
      have c1 := keepc HB.out (hc j hlt)
      have c2 := keepc HB.out (hd j hlt)
      clear hc hd
      generalize l.getD j 0 = z at *
      go_wp2
      go_big_quiet (fail)
      go_wp2
      exact ⟨⟨j + 1, by omega, by go_num, drewB HB.out _⟩, by simp [intOf]; omega⟩
    · go_wp2
      go_ret
      exact ⟨rfl, HB.out⟩

theorem isMin_less {l : List Int} {y z : Int} {m : Int} (h : IsMin (l ++ [m]) y) (hz : z < y) : IsMin (l ++ [z] ++ [m]) z := by
  refine ⟨by simp, fun x hx => ?_⟩
  simp only [List.append_assoc, List.mem_append, List.mem_singleton] at hx
  rcases hx with hx | hx | hx
  · have := h.2 x (by simp [hx]); omega
  · omega
  · have := h.2 x (by simp [hx]); omega
theorem isMin_more {l : List Int} {y z : Int} {m : Int} (h : IsMin (l ++ [m]) y) (hz : ¬ z < y) : IsMin (l ++ [z] ++ [m]) y := by
  refine ⟨?_, fun x hx => ?_⟩
  · have := h.1
    simp only [List.append_assoc, List.mem_append, List.mem_singleton] at this ⊢
    rcases this with h | h
    · exact .inl h
    · exact .inr (.inr h)
  · simp only [List.append_assoc, List.mem_append, List.mem_singleton] at hx
    rcases hx with hx | hx | hx
    · exact h.2 x (by simp [hx])
    · omega
    · exact h.2 x (by simp [hx])

set_option maxHeartbeats 1000000 in
set_option maxRecDepth 100000 in
theorem rleast {W : World} {u : Value} {l : List Int} (h : IntsAt W u l) (most : Int) (hbig : l.length ≤ 1000000) :
    Calls Try.prog 47 #[u, .int .i64 most] W fun e w' => ∃ m, e = .returned (.int .i64 m) ∧ IsMin (l ++ [most]) m ∧ W = w' := by
  obtain ⟨p, c, rfl, h⟩ := h
  have H := Lib.hid h
  have HT := Lib.hid (List.take_length (l := l))
  have HS : Hid (∀ k, k < l.length → l.take (k + 1) = l.take k ++ [l.getD k 0]) := fun k hk => take_snoc hk
  clear h
  generalize l.length = n at *
  go_enter Try.func47, Try.ntmps47
  go_wp2_with fail
  go_loopw [1, 5] (fun m i wl => ∃ (k : Nat) (y : Int), k ≤ n ∧ i = .int .i64 k ∧ m = .int .i64 y ∧ Hid (IsMin (l.take k ++ [most]) y) ∧ wl = W) (fun _ i _ => n - (intOf i).toNat)
  case atStart => exact ⟨0, most, by omega, rfl, rfl, Lib.hid (by simpa using IsMin.one most), rfl⟩
  case round =>
    obtain ⟨k, y, hk, rfl, rfl, HY, rfl⟩ := hrel
    by_cases hlt : k < n
    · rcases H.out with h | ⟨b1, o1, rfl, hc⟩
      · omega
      have c1 := hc k hlt
      have HSk := HS.out k hlt
      clear hc
      generalize l.getD k 0 = z at *
      by_cases hz : z < y
      · have HN := Lib.hid (isMin_less HY.out hz)
        rw [← HSk] at HN
        clear HSk
        go_wp2
        exact ⟨⟨k + 1, z, by omega, by go_num, rfl, HN, trivial⟩, by simp [intOf]; omega⟩
      · have HN := Lib.hid (isMin_more HY.out hz)
        rw [← HSk] at HN
        clear HSk
        go_wp2
        exact ⟨⟨k + 1, y, by omega, by go_num, rfl, HN, trivial⟩, by simp [intOf]; omega⟩
    · obtain rfl : k = n := by omega
      have HY2 := HY.out
      rw [HT.out] at HY2
      have HY3 := Lib.hid HY2
      clear HY2
      go_wp2
      go_ret
      exact ⟨y, rfl, HY3.out, rfl⟩
end Go.Proofs.Ytdbjeaploanalaa
