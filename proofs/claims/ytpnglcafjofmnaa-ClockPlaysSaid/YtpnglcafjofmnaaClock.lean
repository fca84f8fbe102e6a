/-
  package clock by contract: a clock that is none; Now, Waiting; the three closures. Conditions: the clock's row is its own.
-/
import Derived.Test.YtpnglcafjofmnaaErr
import Derived.Test.YtpnglcafjofmnaaMem2
import Derived.Test.YtpnglcafjofmnaaCells6
import Derived.WalkSpells
import Derived.OwnWalk
namespace Go.Proofs.Ytpnglcafjofmnaa
open Go.RowKit

/-- Timers as cells. -/
def flat (ts : List (Int × Int)) : List Value := ts.flatMap fun t => [.int .i64 t.1, .int .i64 t.2]
theorem flat_len (ts : List (Int × Int)) : (flat ts).length = ts.length * 2 := by
  unfold flat
  induction ts with
  | nil => rfl
  | cons t l ih => simp only [List.flatMap_cons, List.length_append, ih, List.length_cons, List.length_nil]; omega
theorem flat_append (a b : List (Int × Int)) : flat (a ++ b) = flat a ++ flat b := by unfold flat; rw [List.flatMap_append]
theorem flat_one (t : Int × Int) : flat [t] = [.int .i64 t.1, .int .i64 t.2] := rfl
theorem flat_get (ts : List (Int × Int)) (k : Nat) (h : k < ts.length) : (flat ts)[2 * k]? = some (.int .i64 ts[k].1) ∧ (flat ts)[2 * k + 1]? = some (.int .i64 ts[k].2) := by
  have e : ts = ts.take k ++ (ts[k] :: ts.drop (k + 1)) := by rw [← List.drop_eq_getElem_cons h, List.take_append_drop]
  have hl : (flat (ts.take k)).length = 2 * k := by rw [flat_len, List.length_take]; omega
  have h2 : flat ts = flat (ts.take k) ++ (.int .i64 ts[k].1 :: .int .i64 ts[k].2 :: flat (ts.drop (k + 1))) := by
    conv => lhs; rw [e]
    rw [flat_append]; rfl
  rw [h2]
  constructor
  · rw [List.getElem?_append_right (by omega), hl]; simp
  · rw [List.getElem?_append_right (by omega), hl]; simp

/-- A clock in a block: the time, its row. -/
def Ck (W : World) (b : Nat) (v : Value) (ts : List (Int × Int)) (now : Int) : Prop :=
  W.heap[b]? = some (.cells #[.int .i64 now, v] 51 (0, 0)) ∧ W.ownsRow 0 117 2 v ts.length (flat ts)
theorem Ck.c0 {W : World} {b : Nat} {v : Value} {ts : List (Int × Int)} {now : Int} (h : Ck W b v ts now) : W.cell? ⟨b, 0, none⟩ = some (.int .i64 now) := (obj_cell h.1 0).trans rfl
theorem Ck.c1 {W : World} {b : Nat} {v : Value} {ts : List (Int × Int)} {now : Int} (h : Ck W b v ts now) : W.cell? ⟨b, 1, none⟩ = some v := (obj_cell h.1 1).trans rfl
theorem Ck.f {W : World} {b : Nat} {v : Value} {ts : List (Int × Int)} {now : Int} (h : Ck W b v ts now) (i : Nat) : W.frozen? ⟨b, i, none⟩ = false := obj_free h.1 i
theorem Ck.ne {W : World} {b : Nat} {v : Value} {ts : List (Int × Int)} {now : Int} (h : Ck W b v ts now) : v.ownBlock ≠ some b := row_ne h.2 h.1 (by decide)
theorem Ck.keep {S : Nat → Prop} {W w' : World} {b : Nat} {v : Value} {ts : List (Int × Int)} {now : Int} (h : Ck W b v ts now) (hf : Frm S W w') (hb : ¬ S b) (hr : ∀ g, v.ownBlock = some g → ¬ S g) : Ck w' b v ts now :=
  ⟨hf.obj h.1 hb, hf.row h.2 hr⟩
theorem Ck.keepB {W w' : World} {b : Nat} {v : Value} {ts : List (Int × Int)} {now : Int} (h : Ck W b v ts now) (hf : Below W.heap.size W w') : Ck w' b v ts now :=
  h.keep (Frm.of_below hf fun _ => False) id fun _ _ => id

theorem now_nil (W : World) : Calls Try.prog 31 #[.pointer none] W fun e w' => e = .returned (.int .i64 0) ∧ W = w' := by
  go_enter Try.func31, Try.ntmps31
  go_wp2
  go_ret
  exact ⟨rfl, rfl⟩
theorem waiting_nil (W : World) : Calls Try.prog 32 #[.pointer none] W fun e w' => e = .returned (.int .i64 0) ∧ W = w' := by
  go_enter Try.func32, Try.ntmps32
  go_wp2
  go_ret
  exact ⟨rfl, rfl⟩
theorem cclone_nil (W : World) : Calls Try.prog 33 #[.pointer none] W fun e w' => e = .returned (.pointer none) ∧ W = w' := by
  go_enter Try.func33, Try.ntmps33
  go_wp2
  go_ret
  exact ⟨rfl, rfl⟩
theorem drop_nil (who : Int) (W : World) : Calls Try.prog 26 #[.pointer none, .int .i64 who] W fun e w' => e = .returned (.int .i64 0) ∧ Below W.heap.size W w' := by
  go_enter Try.func26, Try.ntmps26
  go_wp2
  go_ret
  exact ⟨rfl, by go_grown⟩
theorem tick_nil (d : Int) (W : World) : Calls Try.prog 28 #[.pointer none, .int .i64 d] W fun e w' => ∃ b, e = .returned (.tuple #[.slice none 0 0, .iface 131 (.pointer (some ⟨b, 0, none⟩))]) ∧ Chain w' (.iface 131 (.pointer (some ⟨b, 0, none⟩))) 1 2 ∧ Below W.heap.size W w' := by
  go_enter Try.func28, Try.ntmps28
  go_wp2_with (go_at_call 57; refine (wrap_iface _ _ _ _).mono ?_; rintro e w' ⟨rfl, hw⟩; obtain ⟨hc, hb⟩ := err_new hw; clear hw)
  go_ret2
  exact ⟨_, rfl, by simpa using hc, bthen (balloc (Below.refl _ _) _) hb⟩
theorem set_nil (at' who : Int) (W : World) : Calls Try.prog 24 #[.pointer none, .int .i64 at', .int .i64 who] W fun e w' => ∃ b, e = .returned (.iface 131 (.pointer (some ⟨b, 0, none⟩))) ∧ Chain w' (.iface 131 (.pointer (some ⟨b, 0, none⟩))) 1 2 ∧ Below W.heap.size W w' := by
  go_enter Try.func24, Try.ntmps24
  go_wp2_with (go_at_call 57; refine (wrap_iface _ _ _ _).mono ?_; rintro e w' ⟨rfl, hw⟩; obtain ⟨hc, hb⟩ := err_new hw; clear hw)
  go_ret
  exact ⟨_, rfl, by simpa using hc, bthen (balloc (Below.refl _ _) _) hb⟩
theorem now_some (W : World) (b : Nat) (v : Value) (ts : List (Int × Int)) (now : Int) (h : Ck W b v ts now) : Calls Try.prog 31 #[.pointer (some ⟨b, 0, none⟩)] W fun e w' => e = .returned (.int .i64 now) ∧ W = w' := by
  have c0 := h.c0
  clear h
  go_enter Try.func31, Try.ntmps31
  go_wp2
  go_ret
  exact ⟨rfl, rfl⟩
theorem waiting_some (W : World) (b : Nat) (v : Value) (ts : List (Int × Int)) (now : Int) (h : Ck W b v ts now) : Calls Try.prog 32 #[.pointer (some ⟨b, 0, none⟩)] W fun e w' => e = .returned (.int .i64 ts.length) ∧ W = w' := by
  have c1 := h.c1
  obtain ⟨p, c, rfl, hc⟩ := row_form h.2
  clear h hc
  go_enter Try.func32, Try.ntmps32
  go_wp2
  go_ret
  exact ⟨rfl, rfl⟩

/-- Drop's closure: whether a timer is someone's. -/
theorem clo_drop (W : World) (t : Int × Int) (cp : Nat) (who : Int) (h : W.cell? ⟨cp, 0, none⟩ = some (.int .i64 who)) :
    Calls Try.prog 63 #[.agg #[.int .i64 t.1, .int .i64 t.2], .pointer (some ⟨cp, 0, none⟩)] W fun e w' => e = .returned (.bool (t.2 == who)) ∧ Below W.heap.size W w' := by
  have h1 := keepc (balloc (Below.refl W.heap.size W) (.cells #[.int .i64 t.1, .int .i64 t.2] 117)) h
  go_enter Try.func63, Try.ntmps63
  go_wp2
  go_ret
  exact ⟨rfl, by go_grown⟩
/-- Tick's closure: whether a timer's time has come. -/
theorem clo_tick (W : World) (t : Int × Int) (cp b : Nat) (now : Int) (h : W.cell? ⟨cp, 0, none⟩ = some (.pointer (some ⟨b, 0, none⟩))) (h0 : W.cell? ⟨b, 0, none⟩ = some (.int .i64 now)) :
    Calls Try.prog 64 #[.agg #[.int .i64 t.1, .int .i64 t.2], .pointer (some ⟨cp, 0, none⟩)] W fun e w' => e = .returned (.bool (decide (t.1 ≤ now))) ∧ Below W.heap.size W w' := by
  have h1 := keepc (balloc (Below.refl W.heap.size W) (.cells #[.int .i64 t.1, .int .i64 t.2] 117)) h
  have h2 := keepc (balloc (Below.refl W.heap.size W) (.cells #[.int .i64 t.1, .int .i64 t.2] 117)) h0
  go_enter Try.func64, Try.ntmps64
  go_wp2_with fail
  go_quiet (fail)
  go_wp2
  go_ret
  exact ⟨rfl, bthen (balloc (Below.refl _ _) _) ⟨rfl, rfl, rfl, Nat.le_refl _, fun _ _ => rfl⟩⟩
end Go.Proofs.Ytpnglcafjofmnaa
