/-
  slices.IndexFunc with Set's closure, Next and Drop of package clock, by contract. Conditions: the clock's row is its own; at most 2^20 timers.
-/
import Derived.Test.YtpnglcafjofmnaaSet
import Derived.Test.YtpnglcafjofmnaaSrt
namespace Go.Proofs.Ytpnglcafjofmnaa
open Go.RowKit

/-- Set's closure: whether a timer is later. -/
theorem clo_set (W : World) (t : Int × Int) (cp : Nat) (x : Int) (h : W.cell? ⟨cp, 0, none⟩ = some (.int .i64 x)) :
    Calls Try.prog 60 #[.agg #[.int .i64 t.1, .int .i64 t.2], .pointer (some ⟨cp, 0, none⟩)] W fun e w' => e = .returned (.bool (decide (x < t.1))) ∧ Below W.heap.size W w' := by
  have h1 := keepc (balloc (Below.refl W.heap.size W) (.cells #[.int .i64 t.1, .int .i64 t.2] 117)) h
  go_enter Try.func60, Try.ntmps60
  go_wp2
  go_ret
  exact ⟨rfl, by go_grown⟩

/-- The place of the first that is later. -/
def later (x : Int) (ts : List (Int × Int)) : Nat := (ts.takeWhile fun t => decide (t.1 ≤ x)).length
theorem later_at (x : Int) : ∀ (ts : List (Int × Int)) (k : Nat), k < ts.length → (∀ j, (h : j < ts.length) → j < k → ts[j].1 ≤ x) → (∀ h : k < ts.length, x < ts[k].1) → later x ts = k
  | [], k, hk, _, _ => by simp at hk
  | t :: ts, 0, _, _, h => by
    have := h (by simp)
    unfold later
    rw [List.takeWhile_cons_of_neg (by simpa using this)]
    rfl
  | t :: ts, k + 1, hk, ha, h => by
    have h0 := ha 0 (by simp) (by omega)
    have ih := later_at x ts k (by simpa using hk) (fun j hj hjk => ha (j + 1) (by simp; omega) (by omega)) (fun hk' => h (by simp; omega))
    unfold later at ih ⊢
    rw [List.takeWhile_cons_of_pos (by simpa using h0), List.length_cons, ih]
theorem later_end (x : Int) : ∀ (ts : List (Int × Int)), (∀ j, (h : j < ts.length) → ts[j].1 ≤ x) → later x ts = ts.length
  | [], _ => rfl
  | t :: ts, ha => by
    have h0 := ha 0 (by simp)
    have ih := later_end x ts (fun j hj => ha (j + 1) (by simp; omega))
    unfold later at ih ⊢
    rw [List.takeWhile_cons_of_pos (by simpa using h0), List.length_cons, ih, List.length_cons]
theorem later_le (x : Int) (ts : List (Int × Int)) : later x ts ≤ ts.length := by
  induction ts with
  | nil => exact Nat.le_refl _
  | cons t ts ih =>
    unfold later at ih ⊢
    rw [List.takeWhile_cons]
    split
    · simp only [List.length_cons]; omega
    · simp
theorem ins_later (t : Int × Int) : ∀ ts : List (Int × Int), ins t ts = ts.take (later t.1 ts) ++ t :: ts.drop (later t.1 ts)
  | [] => rfl
  | x :: ts => by
    rw [ins_cons]
    by_cases h : t.1 < x.1
    · rw [if_pos h]
      have : later t.1 (x :: ts) = 0 := by unfold later; rw [List.takeWhile_cons_of_neg (by simpa using h)]; rfl
      rw [this]; rfl
    · rw [if_neg h]
      have : later t.1 (x :: ts) = later t.1 ts + 1 := by unfold later; rw [List.takeWhile_cons_of_pos (by simp; omega)]; rfl
      rw [this, ins_later t ts]; rfl

/-- What IndexFunc answers. -/
def laterR (x : Int) (ts : List (Int × Int)) : Int := if later x ts < ts.length then (later x ts : Int) else -1
theorem laterR_in {x : Int} {ts : List (Int × Int)} {k : Nat} (h : later x ts = k) (hk : k < ts.length) : laterR x ts = k := by unfold laterR; rw [h, if_pos hk]
theorem laterR_out {x : Int} {ts : List (Int × Int)} (h : later x ts = ts.length) : laterR x ts = -1 := by unfold laterR; rw [h, if_neg (by omega)]
theorem ret_i {a b : Int} (h : a = b) : Ending.returned (.int .i64 a) = .returned (.int .i64 b) := by rw [h]

set_option maxHeartbeats 1000000 in
theorem index_some (W : World) (g cap : Nat) (ts : List (Int × Int)) (cp : Nat) (x : Int) (ho : W.ownsRow 0 117 2 (.slice (some ⟨g, 0, none⟩) ts.length cap) ts.length (flat ts)) (hn : (ts.length : Int) ≤ 1048576) (hx : W.cell? ⟨cp, 0, none⟩ = some (.int .i64 x)) :
    Calls Try.prog 59 #[.slice (some ⟨g, 0, none⟩) ts.length cap, .func (.func 60) #[] #[.pointer (some ⟨cp, 0, none⟩)]] W fun e w' =>
      e = .returned (.int .i64 (laterR x ts)) ∧ Below W.heap.size W w' := by
  have he : ∀ (x y : Int) (w : World), (callFunc 60 #[.agg #[.int .i64 x, .int .i64 y], .pointer (some ⟨cp, 0, none⟩)]).run Try.prog w = .ok (.enter 60 #[.agg #[.int .i64 x, .int .i64 y], .pointer (some ⟨cp, 0, none⟩)]) w := fun _ _ _ => by kernel_rfl
  have HE := Lib.hid he
  have HO := Lib.hid ho
  have HX := Lib.hid hx
  clear he ho hx
  go_enter Try.func59, Try.ntmps59
  go_wp2_with fail
  go_loopw [8] (fun i wl => ∃ k : Nat, k ≤ ts.length ∧ i = .int .i64 k ∧ Below W.heap.size W wl ∧ Hid (∀ j, (h : j < ts.length) → j < k → ts[j].1 ≤ x)) (fun i _ => ts.length - (intOf i).toNat)
  case atStart => exact ⟨0, Nat.zero_le _, rfl, Below.refl _ _, fun j _ h => absurd h (Nat.not_lt_zero _)⟩
  case round =>
    obtain ⟨k, hk, rfl, hb, HN⟩ := hrel
    have HB := Lib.hid hb
    clear hb
    by_cases hlt : k < ts.length
    · obtain ⟨f1, f2⟩ := flat_get ts k hlt
      have g0 : wr.cell? ⟨g, k * 2, none⟩ = some (.int .i64 ts[k].1) := keepc HB.out ((HO.out.cellAt (k * 2) (by omega)).trans (by rw [show k * 2 = 2 * k by omega]; exact f1))
      have g1 : wr.cell? ⟨g, k * 2 + 1, none⟩ = some (.int .i64 ts[k].2) := keepc HB.out ((HO.out.cellAt (k * 2 + 1) (by omega)).trans (by rw [show k * 2 + 1 = 2 * k + 1 by omega]; exact f2))
      have HG := Lib.hid (rfl : ts[k] = ts[k])
      obtain ⟨t, ht⟩ : ∃ t, t = ts[k] := ⟨_, rfl⟩
      rw [← ht] at g0 g1
      have HT := Lib.hid ht
      have hcall := fun w => HE.out t.1 t.2 w
      clear f1 f2 ht HG
      go_wp2_with fail
      refine (clo_set _ t cp x (keepc HB.out HX.out)).mono ?_
      rintro e w4 ⟨rfl, hb4⟩
      have HB4 := Lib.hid (bthen HB.out hb4)
      clear hb4 g0 g1 hcall
      by_cases hgt : x < t.1
      · go_wp2
        go_ret
        have hl : later x ts = k := later_at x ts k hlt (fun j h hj => HN.out j h hj) (fun _ => by rw [← HT.out]; exact hgt)
        exact ⟨ret_i (laterR_in hl hlt).symm, HB4.out⟩
      · have hgt' : t.1 ≤ x := by omega
        clear hgt
        go_wp2
        exact ⟨⟨k + 1, by omega, by go_num, HB4.out, fun j h hj => by
          rcases Nat.lt_or_eq_of_le (Nat.lt_succ_iff.1 hj) with h' | h'
          · exact HN.out j h h'
          · subst h'; rw [← HT.out]; exact hgt'⟩, by simp [intOf]; omega⟩
    · obtain rfl : k = ts.length := by omega
      clear hlt
      go_wp2
      go_ret
      have hl : later x ts = ts.length := later_end x ts fun j h => HN.out j h h
      exact ⟨ret_i (laterR_out hl).symm, HB.out⟩
end Go.Proofs.Ytpnglcafjofmnaa
