/-
  Tick's errors, by contract. Conditions: the clock's row is its own.
-/
import Derived.Test.YtpnglcafjofmnaaDrop
namespace Go.Proofs.Ytpnglcafjofmnaa
open Go.RowKit

/-- A refusal of two results. -/
def Bad2 (W w' : World) (n : Int) (e : Ending) : Prop :=
  ∃ b, e = .returned (.tuple #[.slice none 0 0, .iface 131 (.pointer (some ⟨b, 0, none⟩))]) ∧ Chain w' (.iface 131 (.pointer (some ⟨b, 0, none⟩))) 1 n ∧ Below W.heap.size W w'

set_option maxRecDepth 100000 in
theorem tick_low (W : World) (b : Nat) (v : Value) (ts : List (Int × Int)) (now d : Int) (h : Ck W b v ts now) (h1 : d < 1) :
    Calls Try.prog 28 #[.pointer (some ⟨b, 0, none⟩), .int .i64 d] W fun e w' => Bad2 W w' 1 e := by
  have d1 : decide (d < 1) = true := decide_eq_true h1
  have hsz : W.heap.size ≤ (W.alloc (.cells #[.pointer (some ⟨b, 0, none⟩)] 75)).heap.size := by simp
  have hB1 := balloc (Below.refl W.heap.size W) (.cells #[.pointer (some ⟨b, 0, none⟩)] 75)
  have p0 : (W.alloc (.cells #[.pointer (some ⟨b, 0, none⟩)] 75)).cell? ⟨W.heap.size, 0, none⟩ = some (.pointer (some ⟨b, 0, none⟩)) := (obj_cell (obj_new W _) 0).trans rfl
  have HSZ := Lib.hid hsz
  have HB1 := Lib.hid hB1
  clear h hsz hB1
  go_enter Try.func28, Try.ntmps28
  go_wp2_with fail
  go_wp2_with (go_at_call 57; refine (wrap_iface _ _ _ _).mono ?_; rintro e w' ⟨rfl, hw⟩; obtain ⟨hc, hb⟩ := err_new hw; clear hw)
  go_ret2
  exact ⟨_, rfl, by simpa using hc, bthen HB1.out hb⟩

set_option maxRecDepth 100000 in
theorem tick_over (W : World) (b : Nat) (v : Value) (ts : List (Int × Int)) (now d : Int) (h : Ck W b v ts now) (h0 : 0 ≤ now) (h1 : ¬ d < 1) (hm : now ≤ 1099511627776) (h2 : 1099511627776 - now < d) :
    Calls Try.prog 28 #[.pointer (some ⟨b, 0, none⟩), .int .i64 d] W fun e w' => Bad2 W w' 5 e := by
  have d1 : decide (d < 1) = false := decide_eq_false h1
  have d2 : decide (1099511627776 - now < d) = true := decide_eq_true h2
  have hk := h.keepB ((Below.refl _ W).alloc (Nat.le_refl _) (.cells #[.pointer (some ⟨b, 0, none⟩)] 75))
  have c0 := hk.c0
  have hsz : W.heap.size ≤ (W.alloc (.cells #[.pointer (some ⟨b, 0, none⟩)] 75)).heap.size := by simp
  have hB1 := balloc (Below.refl W.heap.size W) (.cells #[.pointer (some ⟨b, 0, none⟩)] 75)
  have p0 : (W.alloc (.cells #[.pointer (some ⟨b, 0, none⟩)] 75)).cell? ⟨W.heap.size, 0, none⟩ = some (.pointer (some ⟨b, 0, none⟩)) := (obj_cell (obj_new W _) 0).trans rfl
  have HSZ := Lib.hid hsz
  have HB1 := Lib.hid hB1
  clear h hk hsz hB1
  go_enter Try.func28, Try.ntmps28
  go_wp2_with fail
  go_wp2_with (go_at_call 57; refine (wrap_iface _ _ _ _).mono ?_; rintro e w' ⟨rfl, hw⟩; obtain ⟨hc, hb⟩ := err_new hw; clear hw)
  go_ret2
  exact ⟨_, rfl, by simpa using hc, bthen HB1.out hb⟩
end Go.Proofs.Ytpnglcafjofmnaa
