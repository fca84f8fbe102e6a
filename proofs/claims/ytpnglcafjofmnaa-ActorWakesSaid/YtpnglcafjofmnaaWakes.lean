/-
  ActorWakes' walk. No condition.
-/
import Derived.Test.YtpnglcafjofmnaaActor4
namespace Go.Proofs.Ytpnglcafjofmnaa
open Go.RowKit

/-- The actor after so many wakes. -/
def wst (pk : Bool) (k : Nat) : Ac := match pk, k with
  | true, 0 => (1, false, 0)
  | true, k + 1 => (0, decide (0 < k), ((k + 1 : Nat) : Int))
  | false, k => (0, decide (0 < k), (k : Int))
theorem wst_false (k : Nat) : wakeS (wst false k) = wst false (k + 1) := by
  show (if (0 : Int) = 1 then _ else _) = _
  rw [if_neg (by decide)]
  simp [wst]
theorem wst_first : wakeS (wst true 0) = wst true 1 := by
  show (if (1 : Int) = 1 then _ else _) = _
  rw [if_pos rfl]
  simp [wst]
theorem wst_next (k : Nat) : wakeS (wst true (k + 1)) = wst true (k + 2) := by
  show (if (0 : Int) = 1 then _ else _) = _
  rw [if_neg (by decide)]
  simp [wst]
theorem wst_live (pk : Bool) (k : Nat) : (wst pk k).1 ≠ 2 ∧ (wst pk k).2.2 = k := by
  cases pk <;> cases k <;> simp [wst]

theorem wake_w {W w : World} {b : Nat} {pk : Bool} {k : Nat} (h : Mt W w b [wst pk k]) (hk : k < 20) (u : Bool) (hu : ((wst pk k).1 == 1) = u) (y : Ac) (hy : wakeS (wst pk k) = y) :
    Calls Try.prog 40 #[.pointer (some ⟨b, 0, none⟩), .int .i64 0] w fun e w' => e = .returned (.tuple #[.bool u, .nilIface]) ∧ Mt W w' b [y] := by
  subst hu hy
  exact wake_t h 0 (wst pk k) rfl (wst_live pk k).1 (by rw [(wst_live pk k).2]; omega) (by rw [(wst_live pk k).2]; omega)
theorem state_w {W w : World} {b : Nat} {a : Ac} (h : Mt W w b [a]) (s : Int) (hs : a.1 = s) :
    Calls Try.prog 45 #[.pointer (some ⟨b, 0, none⟩), .int .i64 0] w fun e w' => e = .returned (.int .i64 s) ∧ Mt W w' b [a] := by
  subst hs
  exact state_t h 0 a rfl
theorem park_w {W w : World} {b : Nat} {a : Ac} (h : Mt W w b [a]) (hl : a.1 ≠ 2) (u : Bool) (hu : (!a.2.1) = u) (y : Ac) (hy : parkS a = y) :
    Calls Try.prog 38 #[.pointer (some ⟨b, 0, none⟩), .int .i64 0] w fun e w' => e = .returned (.tuple #[.bool u, .nilIface]) ∧ Mt W w' b [y] := by
  subst hu hy
  exact park_t h 0 a rfl hl
theorem run_none {W w : World} {b : Nat} (h : Mt W w b [(1, false, 0)]) :
    Calls Try.prog 48 #[.pointer (some ⟨b, 0, none⟩)] w fun e w' => ∃ p c, e = .returned (.slice p 0 c) ∧ Mt W w' b [(1, false, 0)] := runnable_t h (by decide)

set_option maxRecDepth 100000 in
set_option maxHeartbeats 4000000 in
theorem wakes_free (W : World) (z : Int) (n : Nat) (hz0 : 0 ≤ z) (hz1 : z ≤ 255) (hn : z % 20 = n) :
    Calls Try.prog 9 #[.int .u8 z, .bool false] W fun e w' => e = .returned (.bool true) ∧ Below W.heap.size W w' := by
  have HN := Lib.hid hn
  have hn20 : n < 20 := by omega
  clear hn
  go_enter Try.func9, Try.ntmps9
  go_wp2_with (first
    | (go_at_call 35; refine (new_t _).mono ?_; rintro e w1 ⟨rfl, hm1⟩)
    | (go_at_call 36; refine (add_t hm1 (by decide)).mono ?_; rintro e w2 ⟨rfl, hm2⟩))
  rw [HN.out]
  have HS := Lib.hid (show Mt W w2 W.heap.size [wst false 0] from hm2)
  clear hm1 hm2
  go_loopw [48] (fun i wl => ∃ k : Nat, k ≤ n ∧ i = .int .i64 k ∧ Hid (Mt W wl W.heap.size [wst false k])) (fun i _ => n - (intOf i).toNat)
  case atStart => exact ⟨0, Nat.zero_le _, rfl, HS⟩
  case round =>
    obtain ⟨k, hk, rfl, HM⟩ := hrel
    by_cases hlt : k < n
    · go_wp2_with (first
        | (go_at_call 40; refine (wake_w HM.out (by omega) false rfl _ (wst_false k)).mono ?_; rintro e w3 ⟨rfl, hm3⟩)
        | (go_at_call 45; refine (state_w hm3 0 rfl).mono ?_; rintro e w4 ⟨rfl, hm4⟩; have HM4 := Lib.hid hm4; clear hm4))
      exact ⟨⟨k + 1, by omega, by go_num, HM4⟩, by simp [intOf]; omega⟩
    · obtain rfl : k = n := by omega
      clear hlt
      rcases Nat.lt_or_ge 0 k with h0 | h0
      · have hm : Mt W wr W.heap.size [(0, true, (k : Int))] := by
          have := HM.out
          simpa [wst, h0] using this
        rcases Nat.lt_or_ge 1 k with h1 | h1
        · go_wp2_with (first
            | (go_at_call 38; refine (park_w hm5 (by show (0 : Int) ≠ 2; decide) true rfl _ rfl).mono ?_; rintro e w6 ⟨rfl, hm6⟩)
            | (go_at_call 38; refine (park_w hm (by show (0 : Int) ≠ 2; decide) false rfl (0, false, (k : Int)) rfl).mono ?_; rintro e w5 ⟨rfl, hm5⟩)
            | (go_at_call 34; refine (awake5 _).mono ?_; rintro e w7 ⟨rfl, hb7⟩; have hm7 := hm6.later hb7)
            | (go_at_call 47; refine (wakes_t hm7 0 (1, false, (k : Int)) rfl).mono ?_; rintro e w8 ⟨rfl, hm8⟩))
          go_ret
          exact ⟨rfl, hm8.below⟩
        · obtain rfl : k = 1 := by omega
          go_wp2_with (first
            | (go_at_call 38; refine (park_w hm5 (by show (0 : Int) ≠ 2; decide) true rfl _ rfl).mono ?_; rintro e w6 ⟨rfl, hm6⟩)
            | (go_at_call 38; refine (park_w hm (by show (0 : Int) ≠ 2; decide) false rfl (0, false, 1) rfl).mono ?_; rintro e w5 ⟨rfl, hm5⟩)
            | (go_at_call 34; refine (awake5 _).mono ?_; rintro e w7 ⟨rfl, hb7⟩; have hm7 := hm6.later hb7)
            | (go_at_call 47; refine (wakes_t hm7 0 (1, false, 1) rfl).mono ?_; rintro e w8 ⟨rfl, hm8⟩))
          go_ret
          exact ⟨rfl, hm8.below⟩
      · obtain rfl : k = 0 := by omega
        have hm : Mt W wr W.heap.size [(0, false, 0)] := HM.out
        go_wp2_with (first
          | (go_at_call 38; refine (park_w hm5 (by show (1 : Int) ≠ 2; decide) true rfl (1, false, 0) rfl).mono ?_; rintro e w6 ⟨rfl, hm6⟩)
          | (go_at_call 38; refine (park_w hm (by show (0 : Int) ≠ 2; decide) true rfl (1, false, 0) rfl).mono ?_; rintro e w5 ⟨rfl, hm5⟩)
          | (go_at_call 34; refine (awake5 _).mono ?_; rintro e w7 ⟨rfl, hb7⟩; have hm7 := hm6.later hb7)
          | (go_at_call 47; refine (wakes_t hm7 0 (1, false, 0) rfl).mono ?_; rintro e w8 ⟨rfl, hm8⟩))
        go_ret
        exact ⟨rfl, hm8.below⟩

set_option maxRecDepth 100000 in
set_option maxHeartbeats 4000000 in
theorem wakes_parked (W : World) (z : Int) (n : Nat) (hz0 : 0 ≤ z) (hz1 : z ≤ 255) (hn : z % 20 = n) :
    Calls Try.prog 9 #[.int .u8 z, .bool true] W fun e w' => e = .returned (.bool true) ∧ Below W.heap.size W w' := by
  have HN := Lib.hid hn
  have hn20 : n < 20 := by omega
  clear hn
  go_enter Try.func9, Try.ntmps9
  go_wp2_with (first
    | (go_at_call 35; refine (new_t _).mono ?_; rintro e w1 ⟨rfl, hm1⟩)
    | (go_at_call 36; refine (add_t hm1 (by decide)).mono ?_; rintro e w2 ⟨rfl, hm2⟩)
    | (go_at_call 38; refine (park_w (a := (0, false, 0)) hm2 (by show (0 : Int) ≠ 2; decide) true rfl (1, false, 0) rfl).mono ?_; rintro e w3 ⟨rfl, hm3⟩))
  rw [HN.out]
  have HS := Lib.hid (show Mt W w3 W.heap.size [wst true 0] from hm3)
  clear hm1 hm2 hm3
  go_loopw [48] (fun i wl => ∃ k : Nat, k ≤ n ∧ i = .int .i64 k ∧ Hid (Mt W wl W.heap.size [wst true k])) (fun i _ => n - (intOf i).toNat)
  case atStart => exact ⟨0, Nat.zero_le _, rfl, HS⟩
  case round =>
    obtain ⟨k, hk, rfl, HM⟩ := hrel
    by_cases hlt : k < n
    · rcases k with _ | k
      · go_wp2_with (first
          | (go_at_call 40; refine (wake_w HM.out (by omega) true rfl _ wst_first).mono ?_; rintro e w3 ⟨rfl, hm3⟩)
          | (go_at_call 45; refine (state_w hm3 0 rfl).mono ?_; rintro e w4 ⟨rfl, hm4⟩; have HM4 := Lib.hid hm4; clear hm4))
        exact ⟨⟨1, by omega, by go_num, HM4⟩, by simp [intOf]; omega⟩
      · have d0 : (((k + 1 : Nat) : Int) == 0) = false := by rw [beq_eq_false_iff_ne]; omega
        have HM' : Hid (Mt W wr W.heap.size [wst true (k + 1)]) := HM
        generalize hj : k + 1 = j at d0 hk hlt ⊢
        go_wp2_with (first
          | (go_at_call 40; refine (wake_w HM'.out (by omega) false rfl _ (wst_next k)).mono ?_; rintro e w3 ⟨rfl, hm3⟩)
          | (go_at_call 45; refine (state_w hm3 0 rfl).mono ?_; rintro e w4 ⟨rfl, hm4⟩; have HM4 := Lib.hid hm4; clear hm4))
        subst hj
        exact ⟨⟨k + 2, by omega, by go_num, HM4⟩, by simp [intOf]; omega⟩
    · obtain rfl : k = n := by omega
      clear hlt
      rcases Nat.lt_or_ge 0 k with h0 | h0
      · rcases Nat.lt_or_ge 1 k with h1 | h1
        · have hm : Mt W wr W.heap.size [(0, true, (k : Int))] := by
            obtain ⟨j, rfl⟩ : ∃ j, k = j + 1 := ⟨k - 1, by omega⟩
            have hj : 0 < j := by omega
            have := HM.out
            simpa [wst, hj] using this
          have d0 : ((k : Int) == 0) = false := by rw [beq_eq_false_iff_ne]; omega
          go_wp2_with (first
            | (go_at_call 38; refine (park_w hm5 (by show (0 : Int) ≠ 2; decide) true rfl _ rfl).mono ?_; rintro e w6 ⟨rfl, hm6⟩)
            | (go_at_call 38; refine (park_w hm (by show (0 : Int) ≠ 2; decide) false rfl (0, false, (k : Int)) rfl).mono ?_; rintro e w5 ⟨rfl, hm5⟩)
            | (go_at_call 34; refine (awake5 _).mono ?_; rintro e w7 ⟨rfl, hb7⟩; have hm7 := hm6.later hb7)
            | (go_at_call 47; refine (wakes_t hm7 0 (1, false, (k : Int)) rfl).mono ?_; rintro e w8 ⟨rfl, hm8⟩))
          go_ret
          exact ⟨rfl, hm8.below⟩
        · obtain rfl : k = 1 := by omega
          have hm : Mt W wr W.heap.size [(0, false, 1)] := HM.out
          go_wp2_with (first
            | (go_at_call 38; refine (park_w hm5 (by show (1 : Int) ≠ 2; decide) true rfl (1, false, 1) rfl).mono ?_; rintro e w6 ⟨rfl, hm6⟩)
            | (go_at_call 38; refine (park_w hm (by show (0 : Int) ≠ 2; decide) true rfl (1, false, 1) rfl).mono ?_; rintro e w5 ⟨rfl, hm5⟩)
            | (go_at_call 34; refine (awake5 _).mono ?_; rintro e w7 ⟨rfl, hb7⟩; have hm7 := hm6.later hb7)
            | (go_at_call 47; refine (wakes_t hm7 0 (1, false, 1) rfl).mono ?_; rintro e w8 ⟨rfl, hm8⟩))
          go_ret
          exact ⟨rfl, hm8.below⟩
      · obtain rfl : k = 0 := by omega
        have hm : Mt W wr W.heap.size [(1, false, 0)] := HM.out
        go_wp2_with (first
          | (go_at_call 34; refine (awake5 _).mono ?_; rintro e w7 ⟨rfl, hb7⟩; have hm7 := hm.later hb7)
          | (go_at_call 45; refine (state_w hm7 1 rfl).mono ?_; rintro e w8 ⟨rfl, hm8⟩)
          | (go_at_call 48; refine (run_none hm8).mono ?_; rintro e w9 ⟨p9, c9, rfl, hm9⟩))
        go_ret
        exact ⟨rfl, hm9.below⟩
end Go.Proofs.Ytpnglcafjofmnaa
