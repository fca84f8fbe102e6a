/-
  Set's errors, by contract. Conditions: the clock's row is its own.
-/
import Derived.Test.YtpnglcafjofmnaaSet2
namespace Go.Proofs.Ytpnglcafjofmnaa
open Go.RowKit

/-- A refusal: an error of the number n, and nothing else turned. -/
def Bad (W w' : World) (n : Int) (e : Ending) : Prop :=
  ∃ b, e = .returned (.iface 131 (.pointer (some ⟨b, 0, none⟩))) ∧ Chain w' (.iface 131 (.pointer (some ⟨b, 0, none⟩))) 1 n ∧ Below W.heap.size W w'

theorem bad_end {W w1 w' : World} {ap nq : Nat} (ha : W.heap.size = ap) (h1 : Below ap W w1) (hs : ap ≤ w1.heap.size) (h2 : Below (w1.drewN nq).heap.size (w1.drewN nq) w') : Below W.heap.size W w' := by
  subst ha
  have h3 : Below W.heap.size w1 (w1.drewN nq) := ⟨rfl, rfl, rfl, Nat.le_refl _, fun _ _ => rfl⟩
  exact (h1.trans h3).trans (h2.mono hs)

set_option maxRecDepth 100000 in
set_option maxHeartbeats 1000000 in
theorem set_low (W : World) (b : Nat) (v : Value) (ts : List (Int × Int)) (now at' who : Int) (h : Ck W b v ts now) (h1 : at' ≤ now) :
    Calls Try.prog 24 #[.pointer (some ⟨b, 0, none⟩), .int .i64 at', .int .i64 who] W fun e w' => Bad W w' 5 e := by
  obtain ⟨p, c, rfl, hcc⟩ := row_form h.2
  clear hcc
  have hk := h.keepB ((Below.refl _ W).alloc (Nat.le_refl _) (.cells #[.int .i64 at'] 2))
  have ha := obj_new W (.cells #[.int .i64 at'] 2)
  have hB1 := balloc (Below.refl W.heap.size W) (.cells #[.int .i64 at'] 2)
  have c0 := hk.c0
  have c1 := hk.c1
  have p0 : (W.alloc (.cells #[.int .i64 at'] 2)).cell? ⟨W.heap.size, 0, none⟩ = some (.int .i64 at') := (obj_cell ha 0).trans rfl
  have hsz : W.heap.size ≤ (W.alloc (.cells #[.int .i64 at'] 2)).heap.size := by simp
  have HSZ := Lib.hid hsz
  have HB1 := Lib.hid hB1
  clear h hk ha hB1 hsz
  have d1 : decide (at' ≤ now) = true := decide_eq_true h1
  go_enter Try.func24, Try.ntmps24
  go_wp2_with fail
  generalize W.alloc (.cells #[.int .i64 at'] 2) = w1 at *
  have hW : W.heap.size = W.heap.size := rfl
  generalize hap : W.heap.size = ap at *
  clear hW
  go_quiet (fail)
  go_wp2_with (go_at_call 57; refine (wrap_iface _ _ _ _).mono ?_; rintro e w' ⟨rfl, hw⟩; obtain ⟨hc, hb⟩ := err_new hw; clear hw)
  go_ret
  exact ⟨_, rfl, by simpa using hc, bad_end hap HB1.out HSZ.out hb⟩

set_option maxRecDepth 100000 in
set_option maxHeartbeats 1000000 in
theorem set_high (W : World) (b : Nat) (v : Value) (ts : List (Int × Int)) (now at' who : Int) (h : Ck W b v ts now) (h1 : ¬ at' ≤ now) (h2 : 1099511627776 < at') :
    Calls Try.prog 24 #[.pointer (some ⟨b, 0, none⟩), .int .i64 at', .int .i64 who] W fun e w' => Bad W w' 5 e := by
  obtain ⟨p, c, rfl, hcc⟩ := row_form h.2
  clear hcc
  have hk := h.keepB ((Below.refl _ W).alloc (Nat.le_refl _) (.cells #[.int .i64 at'] 2))
  have ha := obj_new W (.cells #[.int .i64 at'] 2)
  have hB1 := balloc (Below.refl W.heap.size W) (.cells #[.int .i64 at'] 2)
  have c0 := hk.c0
  have c1 := hk.c1
  have p0 : (W.alloc (.cells #[.int .i64 at'] 2)).cell? ⟨W.heap.size, 0, none⟩ = some (.int .i64 at') := (obj_cell ha 0).trans rfl
  have hsz : W.heap.size ≤ (W.alloc (.cells #[.int .i64 at'] 2)).heap.size := by simp
  have HSZ := Lib.hid hsz
  have HB1 := Lib.hid hB1
  clear h hk ha hB1 hsz
  have d1 : decide (at' ≤ now) = false := decide_eq_false h1
  have d2 : decide (1099511627776 < at') = true := decide_eq_true h2
  go_enter Try.func24, Try.ntmps24
  go_wp2_with fail
  generalize W.alloc (.cells #[.int .i64 at'] 2) = w1 at *
  have hW : W.heap.size = W.heap.size := rfl
  generalize hap : W.heap.size = ap at *
  clear hW
  go_quiet (fail)
  go_wp2_with (go_at_call 57; refine (wrap_iface _ _ _ _).mono ?_; rintro e w' ⟨rfl, hw⟩; obtain ⟨hc, hb⟩ := err_new hw; clear hw)
  go_ret
  exact ⟨_, rfl, by simpa using hc, bad_end hap HB1.out HSZ.out hb⟩

set_option maxRecDepth 100000 in
set_option maxHeartbeats 1000000 in
theorem set_neg (W : World) (b : Nat) (v : Value) (ts : List (Int × Int)) (now at' who : Int) (h : Ck W b v ts now) (h1 : ¬ at' ≤ now) (h2 : ¬ 1099511627776 < at') (h3 : who < 0) :
    Calls Try.prog 24 #[.pointer (some ⟨b, 0, none⟩), .int .i64 at', .int .i64 who] W fun e w' => Bad W w' 1 e := by
  obtain ⟨p, c, rfl, hcc⟩ := row_form h.2
  clear hcc
  have hk := h.keepB ((Below.refl _ W).alloc (Nat.le_refl _) (.cells #[.int .i64 at'] 2))
  have ha := obj_new W (.cells #[.int .i64 at'] 2)
  have hB1 := balloc (Below.refl W.heap.size W) (.cells #[.int .i64 at'] 2)
  have c0 := hk.c0
  have c1 := hk.c1
  have p0 : (W.alloc (.cells #[.int .i64 at'] 2)).cell? ⟨W.heap.size, 0, none⟩ = some (.int .i64 at') := (obj_cell ha 0).trans rfl
  have hsz : W.heap.size ≤ (W.alloc (.cells #[.int .i64 at'] 2)).heap.size := by simp
  have HSZ := Lib.hid hsz
  have HB1 := Lib.hid hB1
  clear h hk ha hB1 hsz
  have d1 : decide (at' ≤ now) = false := decide_eq_false h1
  have d2 : decide (1099511627776 < at') = false := decide_eq_false h2
  have d3 : decide (who < 0) = true := decide_eq_true h3
  go_enter Try.func24, Try.ntmps24
  go_wp2_with fail
  generalize W.alloc (.cells #[.int .i64 at'] 2) = w1 at *
  have hW : W.heap.size = W.heap.size := rfl
  generalize hap : W.heap.size = ap at *
  clear hW
  go_quiet (fail)
  go_wp2_with (go_at_call 57; refine (wrap_iface _ _ _ _).mono ?_; rintro e w' ⟨rfl, hw⟩; obtain ⟨hc, hb⟩ := err_new hw; clear hw)
  go_ret
  exact ⟨_, rfl, by simpa using hc, bad_end hap HB1.out HSZ.out hb⟩

set_option maxRecDepth 100000 in
set_option maxHeartbeats 1000000 in
theorem set_over (W : World) (b : Nat) (v : Value) (ts : List (Int × Int)) (now at' who : Int) (h : Ck W b v ts now) (h1 : ¬ at' ≤ now) (h2 : ¬ 1099511627776 < at') (h3 : ¬ who < 0) (h4 : 64 ≤ who) :
    Calls Try.prog 24 #[.pointer (some ⟨b, 0, none⟩), .int .i64 at', .int .i64 who] W fun e w' => Bad W w' 1 e := by
  obtain ⟨p, c, rfl, hcc⟩ := row_form h.2
  clear hcc
  have hk := h.keepB ((Below.refl _ W).alloc (Nat.le_refl _) (.cells #[.int .i64 at'] 2))
  have ha := obj_new W (.cells #[.int .i64 at'] 2)
  have hB1 := balloc (Below.refl W.heap.size W) (.cells #[.int .i64 at'] 2)
  have c0 := hk.c0
  have c1 := hk.c1
  have p0 : (W.alloc (.cells #[.int .i64 at'] 2)).cell? ⟨W.heap.size, 0, none⟩ = some (.int .i64 at') := (obj_cell ha 0).trans rfl
  have hsz : W.heap.size ≤ (W.alloc (.cells #[.int .i64 at'] 2)).heap.size := by simp
  have HSZ := Lib.hid hsz
  have HB1 := Lib.hid hB1
  clear h hk ha hB1 hsz
  have d1 : decide (at' ≤ now) = false := decide_eq_false h1
  have d2 : decide (1099511627776 < at') = false := decide_eq_false h2
  have d3 : decide (who < 0) = false := decide_eq_false h3
  have d4 : decide (64 ≤ who) = true := decide_eq_true h4
  go_enter Try.func24, Try.ntmps24
  go_wp2_with fail
  generalize W.alloc (.cells #[.int .i64 at'] 2) = w1 at *
  have hW : W.heap.size = W.heap.size := rfl
  generalize hap : W.heap.size = ap at *
  clear hW
  go_quiet (fail)
  go_wp2_with (go_at_call 57; refine (wrap_iface _ _ _ _).mono ?_; rintro e w' ⟨rfl, hw⟩; obtain ⟨hc, hb⟩ := err_new hw; clear hw)
  go_ret
  exact ⟨_, rfl, by simpa using hc, bad_end hap HB1.out HSZ.out hb⟩

set_option maxRecDepth 100000 in
set_option maxHeartbeats 1000000 in
theorem set_many (W : World) (b : Nat) (v : Value) (ts : List (Int × Int)) (now at' who : Int) (h : Ck W b v ts now) (h1 : ¬ at' ≤ now) (h2 : ¬ 1099511627776 < at') (h3 : ¬ who < 0) (h4 : ¬ 64 ≤ who) (h5 : 64 ≤ (ts.length : Int)) :
    Calls Try.prog 24 #[.pointer (some ⟨b, 0, none⟩), .int .i64 at', .int .i64 who] W fun e w' => Bad W w' 8 e := by
  obtain ⟨p, c, rfl, hcc⟩ := row_form h.2
  clear hcc
  have hk := h.keepB ((Below.refl _ W).alloc (Nat.le_refl _) (.cells #[.int .i64 at'] 2))
  have ha := obj_new W (.cells #[.int .i64 at'] 2)
  have hB1 := balloc (Below.refl W.heap.size W) (.cells #[.int .i64 at'] 2)
  have c0 := hk.c0
  have c1 := hk.c1
  have p0 : (W.alloc (.cells #[.int .i64 at'] 2)).cell? ⟨W.heap.size, 0, none⟩ = some (.int .i64 at') := (obj_cell ha 0).trans rfl
  have hsz : W.heap.size ≤ (W.alloc (.cells #[.int .i64 at'] 2)).heap.size := by simp
  have HSZ := Lib.hid hsz
  have HB1 := Lib.hid hB1
  clear h hk ha hB1 hsz
  have d1 : decide (at' ≤ now) = false := decide_eq_false h1
  have d2 : decide (1099511627776 < at') = false := decide_eq_false h2
  have d3 : decide (who < 0) = false := decide_eq_false h3
  have d4 : decide (64 ≤ who) = false := decide_eq_false h4
  have d5 : decide (64 ≤ (ts.length : Int)) = true := decide_eq_true h5
  go_enter Try.func24, Try.ntmps24
  go_wp2_with fail
  generalize W.alloc (.cells #[.int .i64 at'] 2) = w1 at *
  have hW : W.heap.size = W.heap.size := rfl
  generalize hap : W.heap.size = ap at *
  clear hW
  go_quiet (fail)
  go_wp2_with (go_at_call 57; refine (wrap_iface _ _ _ _).mono ?_; rintro e w' ⟨rfl, hw⟩; obtain ⟨hc, hb⟩ := err_new hw; clear hw)
  go_ret
  exact ⟨_, rfl, by simpa using hc, bad_end hap HB1.out HSZ.out hb⟩
end Go.Proofs.Ytpnglcafjofmnaa
