/-
  The law's do, kind by kind, where its regions are plain: Signal, Park, Wake, Tick, Show, Published, a claim, nothing. Conditions: the state's.
-/
import Derived.Test.YtdfcfdcekdmcmaaGreatPk47
set_option linter.unusedVariables false
set_option linter.unusedSimpArgs false
namespace Go.Proofs.YtdfcfdcekdmcmaaGreat
open Go.RowKit
set_option linter.unusedVariables false
set_option linter.unusedSimpArgs false
theorem bon_mid {R : Rest} {W0 w : World} {a q r wb : Nat} (h : BoN R W0 w a q r wb) : Mid W0 a (PlP a q r wb) R w := by
  obtain ⟨cs, st, C, d, h1, h2, h3⟩ := h
  exact ⟨cs, st, C, d, ⟨h1, h2, h3.pl⟩, h3.mv⟩
section
variable {R : Rest} {W0 W w : World} {a : Nat} {q r wb : Nat}
set_option maxHeartbeats 1000000 in
set_option maxRecDepth 100000 in
theorem do_signal (h : Mid W0 a (PlP a q r wb) R W) (hq : q ≤ 1000) (A B t u : Int) :
    Calls Tryz.prog 12 #[.pointer (some ⟨r, 0, none⟩), .pointer (some ⟨wb, 0, none⟩), .agg #[.int .i64 3, .int .i64 A, .int .i64 B, .int .i64 t, .int .i64 u]] W fun e w' => e = .returned (.bool true) ∧ Mid W0 a (PlP a (q + 1) r wb) R w' := by
  have h1 := (mid_bx _ _ _).new #[.int .i64 3, .int .i64 A, .int .i64 B, .int .i64 t, .int .i64 u] 30 h
  have HP : Hid (Calls Tryz.prog 20 #[.pointer (some ⟨r, 0, none⟩), .int .i64 A] (W.alloc (.cells #[.int .i64 3, .int .i64 A, .int .i64 B, .int .i64 t, .int .i64 u] 30)) fun e w1 => ∃ (m : Int) (E : Value), e = .returned (.tuple #[.int .i64 m, E]) ∧ (R.box W0.heap.size W.heap.size #[.int .i64 3, .int .i64 A, .int .i64 B, .int .i64 t, .int .i64 u] 30).inv w1 ∧ Calls Tryz.prog 58 #[.pointer (some ⟨wb, 0, none⟩), .int .i64 A] w1 fun e w2 => ∃ n, e = .returned (.tuple #[.int .i64 m, .int .i64 n]) ∧ ErrAt w2 E n ∧ Mid W0 a (PlP a (q + 1) r wb) (R.box W0.heap.size W.heap.size #[.int .i64 3, .int .i64 A, .int .i64 B, .int .i64 t, .int .i64 u] 30) w2) := by
    obtain ⟨cs, st, C, d, ⟨rfl, rfl, pl⟩, hmv⟩ := h1
    exact Lib.hid (((pair_signal ⟨hmv, pl⟩ hq A) : Calls _ _ _ _ _).mono fun e w1 ⟨m, E, he, hi, hc⟩ => ⟨m, E, he, hi, hc.mono fun e w2 ⟨n, he, hE, hB⟩ => ⟨n, he, hE, bon_mid hB⟩⟩)
  clear h h1
  go_enter Tryz.func12, Tryz.ntmps12
  go_wp2_with (first
    | (go_at_call 20; refine HP.out.mono ?_; rintro e w1 ⟨m, E, rfl, hi, hc⟩; have hob := hi.2.1; have k1 : w1.cell? ⟨W.heap.size, 1, none⟩ = some (.int .i64 A) := (obj_cell hob 1).trans rfl; have k2 : w1.cell? ⟨W.heap.size, 2, none⟩ = some (.int .i64 B) := (obj_cell hob 2).trans rfl; have k3 : w1.cell? ⟨W.heap.size, 3, none⟩ = some (.int .i64 t) := (obj_cell hob 3).trans rfl; have k4 : w1.cell? ⟨W.heap.size, 4, none⟩ = some (.int .i64 u) := (obj_cell hob 4).trans rfl; have HC := Lib.hid hc; clear hi hc hob)
    | (go_at_call 58; refine HC.out.mono ?_; rintro e w2 ⟨n, rfl, hE, hm⟩; have HE := Lib.hid hE; have HM := Lib.hid hm; clear hE hm)
    | (go_at_call 44; refine (is_same HE.out).mono ?_; rintro e y ⟨rfl, rfl⟩))
  go_ret
  exact ⟨by simp, (mid_bx _ _ _).drop HM.out⟩
set_option maxHeartbeats 1000000 in
set_option maxRecDepth 100000 in
theorem do_park (h : Mid W0 a (PlP a q r wb) R W) (hq : q ≤ 1000) (A B t u : Int) :
    Calls Tryz.prog 12 #[.pointer (some ⟨r, 0, none⟩), .pointer (some ⟨wb, 0, none⟩), .agg #[.int .i64 4, .int .i64 A, .int .i64 B, .int .i64 t, .int .i64 u]] W fun e w' => e = .returned (.bool true) ∧ Mid W0 a (PlP a (q + 1) r wb) R w' := by
  have h1 := (mid_bx _ _ _).new #[.int .i64 4, .int .i64 A, .int .i64 B, .int .i64 t, .int .i64 u] 30 h
  have HP : Hid (Calls Tryz.prog 22 #[.pointer (some ⟨r, 0, none⟩), .int .i64 A, .int .i64 t] (W.alloc (.cells #[.int .i64 4, .int .i64 A, .int .i64 B, .int .i64 t, .int .i64 u] 30)) fun e w1 => ∃ (m : Bool) (E : Value), e = .returned (.tuple #[.bool m, E]) ∧ (R.box W0.heap.size W.heap.size #[.int .i64 4, .int .i64 A, .int .i64 B, .int .i64 t, .int .i64 u] 30).inv w1 ∧ Calls Tryz.prog 59 #[.pointer (some ⟨wb, 0, none⟩), .int .i64 A, .int .i64 t] w1 fun e w2 => ∃ n, e = .returned (.tuple #[.bool m, .int .i64 n]) ∧ ErrAt w2 E n ∧ Mid W0 a (PlP a (q + 1) r wb) (R.box W0.heap.size W.heap.size #[.int .i64 4, .int .i64 A, .int .i64 B, .int .i64 t, .int .i64 u] 30) w2) := by
    obtain ⟨cs, st, C, d, ⟨rfl, rfl, pl⟩, hmv⟩ := h1
    exact Lib.hid (((pair_park ⟨hmv, pl⟩ hq A t) : Calls _ _ _ _ _).mono fun e w1 ⟨m, E, he, hi, hc⟩ => ⟨m, E, he, hi, hc.mono fun e w2 ⟨n, he, hE, hB⟩ => ⟨n, he, hE, bon_mid hB⟩⟩)
  clear h h1
  go_enter Tryz.func12, Tryz.ntmps12
  go_wp2_with (first
    | (go_at_call 22; refine HP.out.mono ?_; rintro e w1 ⟨m, E, rfl, hi, hc⟩; have hob := hi.2.1; have k1 : w1.cell? ⟨W.heap.size, 1, none⟩ = some (.int .i64 A) := (obj_cell hob 1).trans rfl; have k2 : w1.cell? ⟨W.heap.size, 2, none⟩ = some (.int .i64 B) := (obj_cell hob 2).trans rfl; have k3 : w1.cell? ⟨W.heap.size, 3, none⟩ = some (.int .i64 t) := (obj_cell hob 3).trans rfl; have k4 : w1.cell? ⟨W.heap.size, 4, none⟩ = some (.int .i64 u) := (obj_cell hob 4).trans rfl; have HC := Lib.hid hc; clear hi hc hob)
    | (go_at_call 59; refine HC.out.mono ?_; rintro e w2 ⟨n, rfl, hE, hm⟩; have HE := Lib.hid hE; have HM := Lib.hid hm; clear hE hm)
    | (go_at_call 44; refine (is_same HE.out).mono ?_; rintro e y ⟨rfl, rfl⟩))
  go_ret
  exact ⟨by simp, (mid_bx _ _ _).drop HM.out⟩
set_option maxHeartbeats 1000000 in
set_option maxRecDepth 100000 in
theorem do_wake (h : Mid W0 a (PlP a q r wb) R W) (hq : q ≤ 1000) (A B t u : Int) :
    Calls Tryz.prog 12 #[.pointer (some ⟨r, 0, none⟩), .pointer (some ⟨wb, 0, none⟩), .agg #[.int .i64 5, .int .i64 A, .int .i64 B, .int .i64 t, .int .i64 u]] W fun e w' => e = .returned (.bool true) ∧ Mid W0 a (PlP a (q + 1) r wb) R w' := by
  have h1 := (mid_bx _ _ _).new #[.int .i64 5, .int .i64 A, .int .i64 B, .int .i64 t, .int .i64 u] 30 h
  have HP : Hid (Calls Tryz.prog 42 #[.pointer (some ⟨r, 0, none⟩), .int .i64 A] (W.alloc (.cells #[.int .i64 5, .int .i64 A, .int .i64 B, .int .i64 t, .int .i64 u] 30)) fun e w1 => ∃ (m : Bool) (E : Value), e = .returned (.tuple #[.bool m, E]) ∧ (R.box W0.heap.size W.heap.size #[.int .i64 5, .int .i64 A, .int .i64 B, .int .i64 t, .int .i64 u] 30).inv w1 ∧ Calls Tryz.prog 60 #[.pointer (some ⟨wb, 0, none⟩), .int .i64 A] w1 fun e w2 => ∃ n, e = .returned (.tuple #[.bool m, .int .i64 n]) ∧ ErrAt w2 E n ∧ Mid W0 a (PlP a (q + 1) r wb) (R.box W0.heap.size W.heap.size #[.int .i64 5, .int .i64 A, .int .i64 B, .int .i64 t, .int .i64 u] 30) w2) := by
    obtain ⟨cs, st, C, d, ⟨rfl, rfl, pl⟩, hmv⟩ := h1
    exact Lib.hid (((pair_wake ⟨hmv, pl⟩ hq A) : Calls _ _ _ _ _).mono fun e w1 ⟨m, E, he, hi, hc⟩ => ⟨m, E, he, hi, hc.mono fun e w2 ⟨n, he, hE, hB⟩ => ⟨n, he, hE, bon_mid hB⟩⟩)
  clear h h1
  go_enter Tryz.func12, Tryz.ntmps12
  go_wp2_with (first
    | (go_at_call 42; refine HP.out.mono ?_; rintro e w1 ⟨m, E, rfl, hi, hc⟩; have hob := hi.2.1; have k1 : w1.cell? ⟨W.heap.size, 1, none⟩ = some (.int .i64 A) := (obj_cell hob 1).trans rfl; have k2 : w1.cell? ⟨W.heap.size, 2, none⟩ = some (.int .i64 B) := (obj_cell hob 2).trans rfl; have k3 : w1.cell? ⟨W.heap.size, 3, none⟩ = some (.int .i64 t) := (obj_cell hob 3).trans rfl; have k4 : w1.cell? ⟨W.heap.size, 4, none⟩ = some (.int .i64 u) := (obj_cell hob 4).trans rfl; have HC := Lib.hid hc; clear hi hc hob)
    | (go_at_call 60; refine HC.out.mono ?_; rintro e w2 ⟨n, rfl, hE, hm⟩; have HE := Lib.hid hE; have HM := Lib.hid hm; clear hE hm)
    | (go_at_call 44; refine (is_same HE.out).mono ?_; rintro e y ⟨rfl, rfl⟩))
  go_ret
  exact ⟨by simp, (mid_bx _ _ _).drop HM.out⟩
set_option maxHeartbeats 1000000 in
set_option maxRecDepth 100000 in
theorem do_show (h : Mid W0 a (PlP a q r wb) R W) (hq : q ≤ 1000) (A B t u : Int) (ht1 : -9223372036854775808 ≤ t) (ht2 : t ≤ 9223372036854775807) :
    Calls Tryz.prog 12 #[.pointer (some ⟨r, 0, none⟩), .pointer (some ⟨wb, 0, none⟩), .agg #[.int .i64 9, .int .i64 A, .int .i64 B, .int .i64 t, .int .i64 u]] W fun e w' => e = .returned (.bool true) ∧ Mid W0 a (PlP a (q + 1) r wb) R w' := by
  have h1 := (mid_bx _ _ _).new #[.int .i64 9, .int .i64 A, .int .i64 B, .int .i64 t, .int .i64 u] 30 h
  have HP : Hid (Calls Tryz.prog 29 #[.pointer (some ⟨r, 0, none⟩), .int .i64 A, .int .i64 t, .int .i64 u] (W.alloc (.cells #[.int .i64 9, .int .i64 A, .int .i64 B, .int .i64 t, .int .i64 u] 30)) fun e w1 => ∃ (m : Int) (E : Value), e = .returned (.tuple #[.int .i64 m, E]) ∧ (R.box W0.heap.size W.heap.size #[.int .i64 9, .int .i64 A, .int .i64 B, .int .i64 t, .int .i64 u] 30).inv w1 ∧ Calls Tryz.prog 65 #[.pointer (some ⟨wb, 0, none⟩), .int .i64 A, .int .i64 t, .int .i64 u] w1 fun e w2 => ∃ n, e = .returned (.tuple #[.int .i64 m, .int .i64 n]) ∧ ErrAt w2 E n ∧ Mid W0 a (PlP a (q + 1) r wb) (R.box W0.heap.size W.heap.size #[.int .i64 9, .int .i64 A, .int .i64 B, .int .i64 t, .int .i64 u] 30) w2) := by
    obtain ⟨cs, st, C, d, ⟨rfl, rfl, pl⟩, hmv⟩ := h1
    exact Lib.hid (((pair_show ⟨hmv, pl⟩ hq A t u ht1 ht2) : Calls _ _ _ _ _).mono fun e w1 ⟨m, E, he, hi, hc⟩ => ⟨m, E, he, hi, hc.mono fun e w2 ⟨n, he, hE, hB⟩ => ⟨n, he, hE, bon_mid hB⟩⟩)
  clear h h1
  go_enter Tryz.func12, Tryz.ntmps12
  go_wp2_with (first
    | (go_at_call 29; refine HP.out.mono ?_; rintro e w1 ⟨m, E, rfl, hi, hc⟩; have hob := hi.2.1; have k1 : w1.cell? ⟨W.heap.size, 1, none⟩ = some (.int .i64 A) := (obj_cell hob 1).trans rfl; have k2 : w1.cell? ⟨W.heap.size, 2, none⟩ = some (.int .i64 B) := (obj_cell hob 2).trans rfl; have k3 : w1.cell? ⟨W.heap.size, 3, none⟩ = some (.int .i64 t) := (obj_cell hob 3).trans rfl; have k4 : w1.cell? ⟨W.heap.size, 4, none⟩ = some (.int .i64 u) := (obj_cell hob 4).trans rfl; have HC := Lib.hid hc; clear hi hc hob)
    | (go_at_call 65; refine HC.out.mono ?_; rintro e w2 ⟨n, rfl, hE, hm⟩; have HE := Lib.hid hE; have HM := Lib.hid hm; clear hE hm)
    | (go_at_call 44; refine (is_same HE.out).mono ?_; rintro e y ⟨rfl, rfl⟩))
  go_ret
  exact ⟨by simp, (mid_bx _ _ _).drop HM.out⟩
set_option maxHeartbeats 1000000 in
set_option maxRecDepth 100000 in
theorem do_pub (h : Mid W0 a (PlP a q r wb) R W) (hq : q ≤ 1000) (A B t u : Int) :
    Calls Tryz.prog 12 #[.pointer (some ⟨r, 0, none⟩), .pointer (some ⟨wb, 0, none⟩), .agg #[.int .i64 10, .int .i64 A, .int .i64 B, .int .i64 t, .int .i64 u]] W fun e w' => e = .returned (.bool true) ∧ Mid W0 a (PlP a (q + 1) r wb) R w' := by
  have h1 := (mid_bx _ _ _).new #[.int .i64 10, .int .i64 A, .int .i64 B, .int .i64 t, .int .i64 u] 30 h
  have HP : Hid (Calls Tryz.prog 30 #[.pointer (some ⟨r, 0, none⟩), .int .i64 A, .int .i64 t] (W.alloc (.cells #[.int .i64 10, .int .i64 A, .int .i64 B, .int .i64 t, .int .i64 u] 30)) fun e w1 => ∃ (m : Int) (E : Value), e = .returned (.tuple #[.int .i64 m, E]) ∧ (R.box W0.heap.size W.heap.size #[.int .i64 10, .int .i64 A, .int .i64 B, .int .i64 t, .int .i64 u] 30).inv w1 ∧ Calls Tryz.prog 66 #[.pointer (some ⟨wb, 0, none⟩), .int .i64 A, .int .i64 t] w1 fun e w2 => ∃ n, e = .returned (.tuple #[.int .i64 m, .int .i64 n]) ∧ ErrAt w2 E n ∧ Mid W0 a (PlP a (q + 1) r wb) (R.box W0.heap.size W.heap.size #[.int .i64 10, .int .i64 A, .int .i64 B, .int .i64 t, .int .i64 u] 30) w2) := by
    obtain ⟨cs, st, C, d, ⟨rfl, rfl, pl⟩, hmv⟩ := h1
    exact Lib.hid (((pair_pub ⟨hmv, pl⟩ hq A t) : Calls _ _ _ _ _).mono fun e w1 ⟨m, E, he, hi, hc⟩ => ⟨m, E, he, hi, hc.mono fun e w2 ⟨n, he, hE, hB⟩ => ⟨n, he, hE, bon_mid hB⟩⟩)
  clear h h1
  go_enter Tryz.func12, Tryz.ntmps12
  go_wp2_with (first
    | (go_at_call 30; refine HP.out.mono ?_; rintro e w1 ⟨m, E, rfl, hi, hc⟩; have hob := hi.2.1; have k1 : w1.cell? ⟨W.heap.size, 1, none⟩ = some (.int .i64 A) := (obj_cell hob 1).trans rfl; have k2 : w1.cell? ⟨W.heap.size, 2, none⟩ = some (.int .i64 B) := (obj_cell hob 2).trans rfl; have k3 : w1.cell? ⟨W.heap.size, 3, none⟩ = some (.int .i64 t) := (obj_cell hob 3).trans rfl; have k4 : w1.cell? ⟨W.heap.size, 4, none⟩ = some (.int .i64 u) := (obj_cell hob 4).trans rfl; have HC := Lib.hid hc; clear hi hc hob)
    | (go_at_call 66; refine HC.out.mono ?_; rintro e w2 ⟨n, rfl, hE, hm⟩; have HE := Lib.hid hE; have HM := Lib.hid hm; clear hE hm)
    | (go_at_call 44; refine (is_same HE.out).mono ?_; rintro e y ⟨rfl, rfl⟩))
  go_ret
  exact ⟨by simp, (mid_bx _ _ _).drop HM.out⟩
set_option maxHeartbeats 1000000 in
set_option maxRecDepth 100000 in
theorem do_claim (h : Mid W0 a (PlP a q r wb) R W) (hq : q ≤ 1000) (A B t u : Int) :
    Calls Tryz.prog 12 #[.pointer (some ⟨r, 0, none⟩), .pointer (some ⟨wb, 0, none⟩), .agg #[.int .i64 8, .int .i64 A, .int .i64 B, .int .i64 t, .int .i64 u]] W fun e w' => e = .returned (.bool true) ∧ Mid W0 a (PlP a (q + 1) r wb) R w' := by
  have HP := Lib.hid (pair_claim ((mid_bx _ _ _).new #[.int .i64 8, .int .i64 A, .int .i64 B, .int .i64 t, .int .i64 u] 30 h) hq A B)
  clear h
  go_enter Tryz.func12, Tryz.ntmps12
  go_wp2_with (go_at_call 64; refine HP.out.mono ?_; rintro e w1 ⟨rfl, hm⟩; have HM := Lib.hid hm; clear hm)
  go_ret
  exact ⟨rfl, (mid_bx _ _ _).drop HM.out⟩
set_option maxHeartbeats 1000000 in
set_option maxRecDepth 100000 in
theorem do_none (h : Mid W0 a (PlP a q r wb) R W) (K A B t u : Int) (hK : K < 0 ∨ 10 < K) :
    Calls Tryz.prog 12 #[.pointer (some ⟨r, 0, none⟩), .pointer (some ⟨wb, 0, none⟩), .agg #[.int .i64 K, .int .i64 A, .int .i64 B, .int .i64 t, .int .i64 u]] W fun e w' => e = .returned (.bool true) ∧ Mid W0 a (PlP a (q + 1) r wb) R w' := by
  have HP : Hid (Mid W0 a (PlP a (q + 1) r wb) R (W.alloc (.cells #[.int .i64 K, .int .i64 A, .int .i64 B, .int .i64 t, .int .i64 u] 30))) := by
    obtain ⟨cs, st, C, d, ⟨h1, h2, pl⟩, hmv⟩ := (mid_bx _ _ _).drop ((mid_bx _ _ _).new #[.int .i64 K, .int .i64 A, .int .i64 B, .int .i64 t, .int .i64 u] 30 h)
    exact Lib.hid ⟨cs, st, C, d, ⟨h1, h2, pl.up (by omega)⟩, hmv⟩
  have d0 : (K == 0) = false := by simp; omega
  have d1 : (K == 1) = false := by simp; omega
  have d2 : (K == 2) = false := by simp; omega
  have d3 : (K == 3) = false := by simp; omega
  have d4 : (K == 4) = false := by simp; omega
  have d5 : (K == 5) = false := by simp; omega
  have d6 : (K == 6) = false := by simp; omega
  have d7 : (K == 7) = false := by simp; omega
  have d8 : (K == 8) = false := by simp; omega
  have d9 : (K == 9) = false := by simp; omega
  have d10 : (K == 10) = false := by simp; omega
  clear h hK
  go_enter Tryz.func12, Tryz.ntmps12
  go_wp2_with fail
  go_ret
  exact ⟨rfl, HP.out⟩
end
end Go.Proofs.YtdfcfdcekdmcmaaGreat
