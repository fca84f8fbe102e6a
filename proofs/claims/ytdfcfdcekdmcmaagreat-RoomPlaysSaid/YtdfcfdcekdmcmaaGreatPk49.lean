/-
  The law's same by contract; do's Tick, Ring and an actor more. Conditions: the state's.
  The law's do where a region draws its order: Enlist and Halt; each region by what is listed, with three calls in a forced order among loads in any. Conditions: the state's.
  The law's do, whatever is done; both sides new. Conditions: a ring of 64 slots at most; numbers of 64 bits.
  What Alike reads, on both sides, by contract: rings, actors, the time, a ring's numbers. No condition but those that each theorem names.
  The law's small by contract: what it allows. Condition: the operations lie as they are read.
  A room's Waiting by contract: a ring's list, in a row of its own. Condition: the list is no longer than 1000.
-/
import Derived.Test.YtdfcfdcekdmcmaaGreatPk02
import Derived.Test.YtdfcfdcekdmcmaaGreatPk04
import Derived.Test.YtdfcfdcekdmcmaaGreatPk36
import Derived.Test.YtdfcfdcekdmcmaaGreatPk37
import Derived.Test.YtdfcfdcekdmcmaaGreatPk48
set_option linter.unusedVariables false
set_option linter.unusedSimpArgs false
namespace Go.Proofs.YtdfcfdcekdmcmaaGreat
open Go.RowKit
set_option linter.unusedVariables false
set_option linter.unusedSimpArgs false
theorem ints14 {W : World} {B : Nat} {u : Value} {l : List Int} (h : W.ownsRow B 3 1 u l.length (l.map (Value.int .i64))) : ∃ p c, u = .slice p l.length c ∧ (l.length = 0 ∨ ∃ b, p = some ⟨b, 0, none⟩ ∧ ∀ j, j < l.length → W.cell? ⟨b, j, none⟩ = some (.int .i64 (l.getD j 0))) := by
  by_cases hl : l.length = 0
  · obtain ⟨p, c, hv, -⟩ := row_form h
    exact ⟨p, c, hv, .inl hl⟩
  · obtain ⟨b, c, hv, _, _⟩ := row_some h (by omega)
    refine ⟨_, c, hv, .inr ⟨b, rfl, fun j hj => ?_⟩⟩
    rw [hv] at h
    rw [h.cellAt j (by omega)]
    simp [List.getElem?_eq_getElem hj]
set_option maxHeartbeats 1000000 in
set_option maxRecDepth 100000 in
theorem same14 {W : World} {B B' : Nat} {u v : Value} {l : List Int} (h : W.ownsRow B 3 1 u l.length (l.map (Value.int .i64))) (k : W.ownsRow B' 3 1 v l.length (l.map (Value.int .i64))) (hbig : l.length ≤ 1000000) :
    Calls Tryz.prog 62 #[u, v] W fun e w' => e = .returned (.bool true) ∧ Below W.heap.size W w' := by
  obtain ⟨p, c, e1, h2⟩ := ints14 h
  obtain ⟨q, d, e2, k2⟩ := ints14 k
  clear h k
  subst e1 e2
  have H := Lib.hid h2
  have K := Lib.hid k2
  clear h2 k2
  generalize l.length = n at *
  go_enter Tryz.func62, Tryz.ntmps62
  go_wp2_with fail
  go_loopw [13] (fun i wl => ∃ j : Nat, j ≤ n ∧ i = .int .i64 j ∧ Hid (Below W.heap.size W wl)) (fun i _ => n - (intOf i).toNat)
  case atStart => exact ⟨0, by omega, rfl, Below.refl _ _⟩
  case round =>
    obtain ⟨j, hj, rfl, HB⟩ := hrel
    by_cases hlt : j < n
    · rcases H.out with h | ⟨b1, rfl, hc⟩
      · omega
      rcases K.out with h | ⟨b2, rfl, hd⟩
      · omega
      have c1 := keepc HB.out (hc j hlt)
      have c2 := keepc HB.out (hd j hlt)
      clear hc hd
      generalize l.getD j 0 = z at *
      go_wp2
      go_big_quiet (fail)
      go_wp2
      exact ⟨⟨j + 1, by omega, by go_num, drewB HB.out _⟩, by simp [intOf]; omega⟩
    · go_wp2
      go_ret
      exact ⟨rfl, HB.out⟩
section
variable {R : Rest} {W0 W w : World} {a : Nat} {q r wb : Nat}
set_option maxHeartbeats 1000000 in
set_option maxRecDepth 100000 in
theorem do_tick (h : Mid W0 a (PlP a q r wb) R W) (hq : q ≤ 1000) (A B t u : Int) :
    Calls Tryz.prog 12 #[.pointer (some ⟨r, 0, none⟩), .pointer (some ⟨wb, 0, none⟩), .agg #[.int .i64 6, .int .i64 A, .int .i64 B, .int .i64 t, .int .i64 u]] W fun e w' => e = .returned (.bool true) ∧ Mid W0 a (PlP a (q + 1) r wb) R w' := by
  have h1 := (mid_bx _ _ _).new #[.int .i64 6, .int .i64 A, .int .i64 B, .int .i64 t, .int .i64 u] 30 h
  have HP : Hid (Calls Tryz.prog 43 #[.pointer (some ⟨r, 0, none⟩), .int .i64 t] (W.alloc (.cells #[.int .i64 6, .int .i64 A, .int .i64 B, .int .i64 t, .int .i64 u] 30)) fun e w1 => ∃ (m E : Value), e = .returned (.tuple #[m, E]) ∧ (R.box W0.heap.size W.heap.size #[.int .i64 6, .int .i64 A, .int .i64 B, .int .i64 t, .int .i64 u] 30).inv w1 ∧ Calls Tryz.prog 61 #[.pointer (some ⟨wb, 0, none⟩), .int .i64 t] w1 fun e w2 => ∃ (n : Int) (r2 : Value), e = .returned (.tuple #[r2, .int .i64 n]) ∧ ErrAt w2 E n ∧ (Calls Tryz.prog 62 #[m, r2] w2 fun e w' => e = .returned (.bool true) ∧ Below w2.heap.size w2 w') ∧ Mid W0 a (PlP a (q + 1) r wb) (R.box W0.heap.size W.heap.size #[.int .i64 6, .int .i64 A, .int .i64 B, .int .i64 t, .int .i64 u] 30) w2) := by
    obtain ⟨cs, st, C, d, ⟨rfl, rfl, pl⟩, hmv⟩ := h1
    exact Lib.hid (((pair_tick ⟨hmv, pl⟩ hq t) : Calls _ _ _ _ _).mono fun e w1 ⟨m, E, he, hi, hc⟩ => ⟨m, E, he, hi, hc.mono fun e w2 ⟨n, r2, os, he, hE, hl, ho1, ho2, hB⟩ => ⟨n, r2, he, hE, same14 ho1 ho2 (by omega), bon_mid hB⟩⟩)
  clear h h1
  go_enter Tryz.func12, Tryz.ntmps12
  go_wp2_with (first
    | (go_at_call 43; refine HP.out.mono ?_; rintro e w1 ⟨m, E, rfl, hi, hc⟩; have hob := hi.2.1; have k3 : w1.cell? ⟨W.heap.size, 3, none⟩ = some (.int .i64 t) := (obj_cell hob 3).trans rfl; have HC := Lib.hid hc; clear hi hc hob)
    | (go_at_call 61; refine HC.out.mono ?_; rintro e w2 ⟨n, r2, rfl, hE, hs, hm⟩; have HE := Lib.hid hE; have HS := Lib.hid hs; have HM := Lib.hid hm; clear hE hs hm)
    | (go_at_call 44; refine (is_same HE.out).mono ?_; rintro e y ⟨rfl, rfl⟩)
    | (go_at_call 62; refine HS.out.mono ?_; rintro e y2 ⟨rfl, hb⟩; have HM2 := Lib.hid ((mid_bx _ _ _).keep HM.out hb); clear hb))
  go_ret
  exact ⟨rfl, (mid_bx _ _ _).drop HM2.out⟩
set_option maxHeartbeats 1000000 in
set_option maxRecDepth 100000 in
theorem do_add (h : Mid W0 a (PlP a q r wb) R W) (hq : q ≤ 1000) (A B t u : Int) :
    Calls Tryz.prog 12 #[.pointer (some ⟨r, 0, none⟩), .pointer (some ⟨wb, 0, none⟩), .agg #[.int .i64 1, .int .i64 A, .int .i64 B, .int .i64 t, .int .i64 u]] W fun e w' => e = .returned (.bool true) ∧ Mid W0 a (PlP a (q + 1) r wb) R w' := by
  have h1 := (mid_bx _ _ _).new #[.int .i64 1, .int .i64 A, .int .i64 B, .int .i64 t, .int .i64 u] 30 h
  have HP : Hid (∃ tc tb, (Calls Tryz.prog 14 #[.pointer (some ⟨r, 0, none⟩)] (W.alloc (.cells #[.int .i64 1, .int .i64 A, .int .i64 B, .int .i64 t, .int .i64 u] 30)) fun e w' => e = .returned (.pointer (some ⟨tc, 0, none⟩)) ∧ (W.alloc (.cells #[.int .i64 1, .int .i64 A, .int .i64 B, .int .i64 t, .int .i64 u] 30)) = w') ∧ Calls Tryz.prog 52 #[.pointer (some ⟨tc, 0, none⟩)] (W.alloc (.cells #[.int .i64 1, .int .i64 A, .int .i64 B, .int .i64 t, .int .i64 u] 30)) fun e w1 => ∃ (z : Int) (E : Value), e = .returned (.tuple #[.int .i64 z, E]) ∧ w1.cell? ⟨wb, 2, none⟩ = some (.pointer (some ⟨tb, 0, none⟩)) ∧ Calls Tryz.prog 56 #[.pointer (some ⟨tb, 0, none⟩)] w1 fun e w2 => ∃ n, e = .returned (.int .i64 n) ∧ ErrAt w2 E n ∧ Mid W0 a (PlP a (q + 1) r wb) (R.box W0.heap.size W.heap.size #[.int .i64 1, .int .i64 A, .int .i64 B, .int .i64 t, .int .i64 u] 30) w2) := by
    obtain ⟨cs, st, C, d, ⟨rfl, rfl, pl⟩, hmv⟩ := h1
    exact Lib.hid ⟨C.t, d.tb, pair_actors ⟨hmv, pl⟩, ((pair_add ⟨hmv, pl⟩ hq) : Calls _ _ _ _ _).mono fun e w1 ⟨z, E, he, hi, hk, hc⟩ => ⟨z, E, he, hk, hc.mono fun e w2 ⟨n, he, hE, hB⟩ => ⟨n, he, hE, bon_mid hB⟩⟩⟩
  obtain ⟨tc, tb, hp1, hp2⟩ := HP.out
  have HP1 := Lib.hid hp1
  have HP2 := Lib.hid hp2
  clear h h1 hp1 hp2 HP
  go_enter Tryz.func12, Tryz.ntmps12
  go_wp2_with (first
    | (go_at_call 14; refine HP1.out.mono ?_; rintro e w0 ⟨rfl, rfl⟩)
    | (go_at_call 52; refine HP2.out.mono ?_; rintro e w1 ⟨z, E, rfl, hk, hc⟩; have HC := Lib.hid hc; clear hc)
    | (go_at_call 56; refine HC.out.mono ?_; rintro e w2 ⟨n, rfl, hE, hm⟩; have HE := Lib.hid hE; have HM := Lib.hid hm; clear hE hm)
    | (go_at_call 44; refine (is_same HE.out).mono ?_; rintro e y ⟨rfl, rfl⟩))
  go_ret
  exact ⟨rfl, (mid_bx _ _ _).drop HM.out⟩
theorem ringn_mid {m n : Int} (h : RingN R W0 w a q r wb m n) : Mid W0 a (PlP a q r wb) R w ∧ ((n ≠ 0 ∧ m = 0) ∨ (n = 0 ∧ ∃ (p : Option Addr) (len cap : Nat), w.cell? ⟨wb, 4, none⟩ = some (.slice p len cap) ∧ 0 < len ∧ len ≤ 8 ∧ m = (len : Int) - 1)) := by
  obtain ⟨cs, st, C, d, rfl, rfl, h, h1⟩ := h
  refine ⟨⟨cs, st, C, d, ⟨rfl, rfl, h.pl⟩, h.mv⟩, ?_⟩
  rcases h1 with h1 | ⟨h1, h2, h3⟩
  · exact .inl h1
  · obtain ⟨p, cap, hv, -⟩ := row_form h.dm.rings
    exact .inr ⟨h1, p, d.L.length, cap, (obj_cell h.dm.box 4).trans (by simp [Dw.cells, hv]), h2, h.pl.l8, h3⟩
set_option maxHeartbeats 1000000 in
set_option maxRecDepth 100000 in
theorem do_ring (h : Mid W0 a (PlP a q r wb) R W) (hq : q ≤ 1000) (A B t u : Int) (hA : A ≤ 64) (hA2 : -9223372036854775808 ≤ A) :
    Calls Tryz.prog 12 #[.pointer (some ⟨r, 0, none⟩), .pointer (some ⟨wb, 0, none⟩), .agg #[.int .i64 0, .int .i64 A, .int .i64 B, .int .i64 t, .int .i64 u]] W fun e w' => e = .returned (.bool true) ∧ Mid W0 a (PlP a (q + 1) r wb) R w' := by
  have h1 := (mid_bx _ _ _).new #[.int .i64 0, .int .i64 A, .int .i64 B, .int .i64 t, .int .i64 u] 30 h
  have HP : Hid (Calls Tryz.prog 23 #[.pointer (some ⟨r, 0, none⟩), .int .i64 A, .int .i64 B] (W.alloc (.cells #[.int .i64 0, .int .i64 A, .int .i64 B, .int .i64 t, .int .i64 u] 30)) fun e w1 => ∃ (m : Int) (E : Value), e = .returned (.tuple #[.int .i64 m, E]) ∧ (R.box W0.heap.size W.heap.size #[.int .i64 0, .int .i64 A, .int .i64 B, .int .i64 t, .int .i64 u] 30).inv w1 ∧ Calls Tryz.prog 55 #[.pointer (some ⟨wb, 0, none⟩), .int .i64 A, .int .i64 B] w1 fun e w2 => ∃ n, e = .returned (.int .i64 n) ∧ ErrAt w2 E n ∧ RingN (R.box W0.heap.size W.heap.size #[.int .i64 0, .int .i64 A, .int .i64 B, .int .i64 t, .int .i64 u] 30) W0 w2 a (q + 1) r wb m n) := by
    obtain ⟨cs, st, C, d, ⟨rfl, rfl, pl⟩, hmv⟩ := h1
    exact Lib.hid (pair_ring ⟨hmv, pl⟩ hq A B hA hA2)
  clear h h1 hA hA2
  go_enter Tryz.func12, Tryz.ntmps12
  go_upto_region 5 with (first
    | (go_at_call 23; refine HP.out.mono ?_; rintro e w1 ⟨m, E, rfl, hi, hc⟩; have hob := hi.2.1; have k1 : w1.cell? ⟨W.heap.size, 1, none⟩ = some (.int .i64 A) := (obj_cell hob 1).trans rfl; have k2 : w1.cell? ⟨W.heap.size, 2, none⟩ = some (.int .i64 B) := (obj_cell hob 2).trans rfl; have HC := Lib.hid hc; clear hi hc hob)
    | (go_at_call 55; refine HC.out.mono ?_; rintro e w2 ⟨n, rfl, hE, hm⟩; have HE := Lib.hid hE; have HM := Lib.hid (ringn_mid hm); clear hE hm))
  obtain ⟨hm, hmn⟩ := HM.out
  have HMM := Lib.hid hm
  clear hm HM k1 k2 HC HP
  rcases hmn with ⟨h0, rfl⟩ | ⟨rfl, p, len, cap, k4, l0, l8, rfl⟩
  · have d0 : (n != 0) = true := by simpa using h0
    have d1 : (n == 0) = false := by simpa using h0
    clear h0
    go_wp2_with (first
      | (go_at_call 44; refine (is_same HE.out).mono ?_; rintro e y ⟨rfl, rfl⟩))
    go_ret
    exact ⟨by simp, (mid_bx _ _ _).drop HMM.out⟩
  · go_wp2_with (first
      | (go_at_call 44; refine (is_same HE.out).mono ?_; rintro e y ⟨rfl, rfl⟩))
    go_ret
    exact ⟨by simp, (mid_bx _ _ _).drop HMM.out⟩
end
end Go.Proofs.YtdfcfdcekdmcmaaGreat
namespace Go.Proofs.YtdfcfdcekdmcmaaGreat
open Go.RowKit
set_option linter.unusedVariables false
set_option linter.unusedSimpArgs false
def rg10 : List Oper :=
  [{ dst := some 97, op := Op.move (Operand.tmp 0), type := 25, pos := "law.go:127", after := #[], guard := none },
  { dst := some 98, op := Op.fieldAddr 30 (Operand.tmp 5) 1, type := 0, pos := "law.go:127", after := #[], guard := none },
  { dst := some 99, op := Op.load 3 (Operand.tmp 98), type := 3, pos := "law.go:127", after := #[{ on := 1, ground := Ground.data }], guard := none },
  { dst := some 100, op := Op.fieldAddr 30 (Operand.tmp 5) 2, type := 0, pos := "law.go:127", after := #[], guard := none },
  { dst := some 101, op := Op.load 3 (Operand.tmp 100), type := 3, pos := "law.go:127", after := #[{ on := 3, ground := Ground.data }], guard := none },
  { dst := some 102, op := Op.call { callee := Callee.value (Operand.func 17), args := #[Operand.tmp 97, Operand.tmp 99, Operand.tmp 101], argTypes := #[25, 3, 3] }, type := 38, pos := "law.go:127", after := #[{ on := 0, ground := Ground.data }, { on := 2, ground := Ground.data }, { on := 4, ground := Ground.data }], guard := none },
  { dst := some 103, op := Op.move (Operand.tmp 1), type := 27, pos := "law.go:127", after := #[], guard := none },
  { dst := some 104, op := Op.fieldAddr 30 (Operand.tmp 5) 1, type := 0, pos := "law.go:127", after := #[], guard := none },
  { dst := some 105, op := Op.load 3 (Operand.tmp 104), type := 3, pos := "law.go:127", after := #[{ on := 7, ground := Ground.data }], guard := none },
  { dst := some 106, op := Op.fieldAddr 30 (Operand.tmp 5) 2, type := 0, pos := "law.go:127", after := #[], guard := none },
  { dst := some 107, op := Op.load 3 (Operand.tmp 106), type := 3, pos := "law.go:127", after := #[{ on := 9, ground := Ground.data }], guard := none },
  { dst := some 108, op := Op.call { callee := Callee.value (Operand.func 57), args := #[Operand.tmp 103, Operand.tmp 105, Operand.tmp 107], argTypes := #[27, 3, 3] }, type := 3, pos := "law.go:127", after := #[{ on := 6, ground := Ground.data }, { on := 8, ground := Ground.data }, { on := 10, ground := Ground.data }, { on := 5, ground := Ground.chain }], guard := none },
  { dst := some 109, op := Op.call { callee := Callee.value (Operand.func 44), args := #[Operand.tmp 102, Operand.tmp 108], argTypes := #[38, 3] }, type := 4, pos := "law.go:127", after := #[{ on := 5, ground := Ground.data }, { on := 11, ground := Ground.data }, { on := 11, ground := Ground.chain }], guard := none },
  { dst := some 6, op := Op.assign (Operand.tmp 109), type := 4, pos := "law.go:127", after := #[{ on := 12, ground := Ground.data }, { on := 12, ground := Ground.chain }, { on := 0, ground := Ground.phase }, { on := 1, ground := Ground.phase }, { on := 2, ground := Ground.phase }, { on := 3, ground := Ground.phase }, { on := 4, ground := Ground.phase }, { on := 5, ground := Ground.phase }, { on := 6, ground := Ground.phase }, { on := 7, ground := Ground.phase }, { on := 8, ground := Ground.phase }, { on := 9, ground := Ground.phase }, { on := 10, ground := Ground.phase }, { on := 11, ground := Ground.phase }, { on := 12, ground := Ground.phase }], guard := none }]
def rg28 : List Oper :=
  [{ dst := some 212, op := Op.move (Operand.tmp 0), type := 25, pos := "law.go:145", after := #[], guard := none },
  { dst := some 213, op := Op.fieldAddr 30 (Operand.tmp 5) 1, type := 0, pos := "law.go:145", after := #[], guard := none },
  { dst := some 214, op := Op.load 3 (Operand.tmp 213), type := 3, pos := "law.go:145", after := #[{ on := 1, ground := Ground.data }], guard := none },
  { dst := some 215, op := Op.call { callee := Callee.value (Operand.func 45), args := #[Operand.tmp 212, Operand.tmp 214], argTypes := #[25, 3] }, type := 38, pos := "law.go:145", after := #[{ on := 0, ground := Ground.data }, { on := 2, ground := Ground.data }], guard := none },
  { dst := some 216, op := Op.move (Operand.tmp 1), type := 27, pos := "law.go:145", after := #[], guard := none },
  { dst := some 217, op := Op.fieldAddr 30 (Operand.tmp 5) 1, type := 0, pos := "law.go:145", after := #[], guard := none },
  { dst := some 218, op := Op.load 3 (Operand.tmp 217), type := 3, pos := "law.go:145", after := #[{ on := 5, ground := Ground.data }], guard := none },
  { dst := some 219, op := Op.call { callee := Callee.value (Operand.func 63), args := #[Operand.tmp 216, Operand.tmp 218], argTypes := #[27, 3] }, type := 3, pos := "law.go:145", after := #[{ on := 4, ground := Ground.data }, { on := 6, ground := Ground.data }, { on := 3, ground := Ground.chain }], guard := none },
  { dst := some 220, op := Op.call { callee := Callee.value (Operand.func 44), args := #[Operand.tmp 215, Operand.tmp 219], argTypes := #[38, 3] }, type := 4, pos := "law.go:145", after := #[{ on := 3, ground := Ground.data }, { on := 7, ground := Ground.data }, { on := 7, ground := Ground.chain }], guard := none },
  { dst := some 6, op := Op.assign (Operand.tmp 220), type := 4, pos := "law.go:145", after := #[{ on := 8, ground := Ground.data }, { on := 8, ground := Ground.chain }, { on := 0, ground := Ground.phase }, { on := 1, ground := Ground.phase }, { on := 2, ground := Ground.phase }, { on := 3, ground := Ground.phase }, { on := 4, ground := Ground.phase }, { on := 5, ground := Ground.phase }, { on := 6, ground := Ground.phase }, { on := 7, ground := Ground.phase }, { on := 8, ground := Ground.phase }], guard := none }]
structure MD (c d : Nat) (vs : List Value) (ob : Nat) (oc : Array Value) (P0 : World → Prop) (P1 : Value → World → Prop) (P2 : Value → Value → World → Prop) (P3 : World → Prop) (s : Array Bool) (V : Nat → Value) (w : World) : Prop where
  p : ∀ k, k < d → k ≠ c → s.getD k true = true → V k = vs.getD k undef
  b : w.heap[ob]? = some (.cells oc 30 (0, 0))
  o1 : s.getD d true = true → s.getD c true = true
  o2 : s.getD (d + 1) true = true → s.getD d true = true
  q0 : s.getD c true = false → P0 w
  q1 : s.getD c true = true → s.getD d true = false → P1 (V c) w
  q2 : s.getD d true = true → s.getD (d + 1) true = false → P2 (V c) (V d) w
  q3 : s.getD (d + 1) true = true → V (d + 1) = .bool true ∧ P3 w
section
variable {c d k : Nat} {vs : List Value} {ob : Nat} {oc : Array Value} {P0 : World → Prop} {P1 : Value → World → Prop} {P2 : Value → Value → World → Prop} {P3 : World → Prop} {s : Array Bool} {V : Nat → Value} {w w' : World} {v : Value}
theorem MD.pure (h : MD c d vs ob oc P0 P1 P2 P3 s V w) (hk : k < d) (hkc : k ≠ c) (hv : v = vs.getD k undef) : MD c d vs ob oc P0 P1 P2 P3 (s.setIfInBounds k true) (upd V k v) w := by
  have hcd : k ≠ d := by omega
  have hcd1 : k ≠ d + 1 := by omega
  refine ⟨fun j hj hjc hs => ?_, h.b, ?_, ?_, ?_, ?_, ?_, ?_⟩
  · by_cases e : j = k
    · subst e
      rw [upd_self]
      exact hv
    · rw [upd_ne _ e]
      rw [getD_set_ne true (Ne.symm e)] at hs
      exact h.p j hj hjc hs
  · rw [getD_set_ne true hcd, getD_set_ne true hkc]; exact h.o1
  · rw [getD_set_ne true hcd, getD_set_ne true hcd1]; exact h.o2
  · rw [getD_set_ne true hkc]; exact h.q0
  · rw [getD_set_ne true hkc, getD_set_ne true hcd, upd_ne _ (Ne.symm hkc)]; exact h.q1
  · rw [getD_set_ne true hcd, getD_set_ne true hcd1, upd_ne _ (Ne.symm hkc), upd_ne _ (Ne.symm hcd)]; exact h.q2
  · rw [getD_set_ne true hcd1, upd_ne _ (Ne.symm hcd1)]; exact h.q3
theorem MD.call0 (h : MD c d vs ob oc P0 P1 P2 P3 s V w) (hcd : c < d) (hs : s.getD c true = false) (hb : w'.heap[ob]? = some (.cells oc 30 (0, 0))) (hP : P1 v w') : MD c d vs ob oc P0 P1 P2 P3 (s.setIfInBounds c true) (upd V c v) w' := by
  have e1 : c ≠ d := by omega
  have e2 : c ≠ d + 1 := by omega
  have n1 : ¬ s.getD d true = true := fun e => by rw [h.o1 e] at hs; cases hs
  have n2 : ¬ s.getD (d + 1) true = true := fun e => n1 (h.o2 e)
  refine ⟨fun j hj hjc hs => ?_, hb, fun _ => set_self _ _, ?_, fun e => ?_, fun _ _ => ?_, ?_, ?_⟩
  · rw [upd_ne _ hjc]
    rw [getD_set_ne true (Ne.symm hjc)] at hs
    exact h.p j hj hjc hs
  · rw [getD_set_ne true e1, getD_set_ne true e2]; exact h.o2
  · rw [set_self] at e; cases e
  · rw [upd_self]; exact hP
  · rw [getD_set_ne true e1]; exact fun e => absurd e n1
  · rw [getD_set_ne true e2]; exact fun e => absurd e n2
theorem MD.call1 (h : MD c d vs ob oc P0 P1 P2 P3 s V w) (hcd : c < d) (hc : s.getD c true = true) (hs : s.getD d true = false) (hb : w'.heap[ob]? = some (.cells oc 30 (0, 0))) (hP : P2 (V c) v w') : MD c d vs ob oc P0 P1 P2 P3 (s.setIfInBounds d true) (upd V d v) w' := by
  have e1 : d ≠ c := by omega
  have e2 : d ≠ d + 1 := by omega
  have n2 : ¬ s.getD (d + 1) true = true := fun e => by rw [h.o2 e] at hs; cases hs
  refine ⟨fun j hj hjc hs => ?_, hb, fun _ => ?_, fun _ => set_self _ _, fun e => ?_, fun _ e => ?_, fun _ _ => ?_, ?_⟩
  · rw [upd_ne _ (show j ≠ d by omega)]
    rw [getD_set_ne true (show d ≠ j by omega)] at hs
    exact h.p j hj hjc hs
  · rw [getD_set_ne true e1]; exact hc
  · rw [getD_set_ne true e1, hc] at e; cases e
  · rw [set_self] at e; cases e
  · rw [upd_self, upd_ne _ (Ne.symm e1)]; exact hP
  · rw [getD_set_ne true e2]; exact fun e => absurd e n2
theorem MD.call2 (h : MD c d vs ob oc P0 P1 P2 P3 s V w) (hcd : c < d) (hd : s.getD d true = true) (hb : w'.heap[ob]? = some (.cells oc 30 (0, 0))) (hP : P3 w') : MD c d vs ob oc P0 P1 P2 P3 (s.setIfInBounds (d + 1) true) (upd V (d + 1) (.bool true)) w' := by
  have e1 : d + 1 ≠ c := by omega
  have e2 : d + 1 ≠ d := by omega
  refine ⟨fun j hj hjc hs => ?_, hb, ?_, fun _ => ?_, fun e => ?_, fun _ e => ?_, fun _ e => ?_, fun _ => ⟨upd_self _ _ _, hP⟩⟩
  · rw [upd_ne _ (show j ≠ d + 1 by omega)]
    rw [getD_set_ne true (show d + 1 ≠ j by omega)] at hs
    exact h.p j hj hjc hs
  · rw [getD_set_ne true e1, getD_set_ne true e2]; exact h.o1
  · rw [getD_set_ne true e2]; exact hd
  · rw [getD_set_ne true e1, h.o1 hd] at e; cases e
  · rw [getD_set_ne true e2, hd] at e; cases e
  · rw [set_self] at e; cases e
end
theorem fa_op1 (ob : Nat) (w : World) : (Instr.fieldAt 30 (.pointer (some ⟨ob, 0, none⟩)) 1).run Tryz.prog w = .ok (.pointer (some ⟨ob, 1, none⟩)) w := by kernel_rfl
theorem fa_op2 (ob : Nat) (w : World) : (Instr.fieldAt 30 (.pointer (some ⟨ob, 0, none⟩)) 2).run Tryz.prog w = .ok (.pointer (some ⟨ob, 2, none⟩)) w := by kernel_rfl
theorem dd10 : DD (fun k => ([some 97, some 98, some 99, some 100, some 101, some 102, some 103, some 104, some 105, some 106, some 107, some 108, some 109] : List (Option Tmp)).getD k none) 13 := dd_of (by kernel_rfl) 13 (by decide)
theorem icas10 {i : Nat} (h : i < 13) : i = 0 ∨ i = 1 ∨ i = 2 ∨ i = 3 ∨ i = 4 ∨ i = 5 ∨ i = 6 ∨ i = 7 ∨ i = 8 ∨ i = 9 ∨ i = 10 ∨ i = 11 ∨ i = 12 := by omega
def vv10 (r wb ob : Nat) (A B : Int) : List Value := [.pointer (some ⟨r, 0, none⟩), .pointer (some ⟨ob, 1, none⟩), .int .i64 A, .pointer (some ⟨ob, 2, none⟩), .int .i64 B, undef, .pointer (some ⟨wb, 0, none⟩), .pointer (some ⟨ob, 1, none⟩), .int .i64 A, .pointer (some ⟨ob, 2, none⟩), .int .i64 B]
theorem enc10 (vs : Array Value) (w : World) : (callFunc 17 vs).run Tryz.prog w = .ok (.enter 17 vs) w := by go_simp
theorem end10 (vs : Array Value) (w : World) : (callFunc 57 vs).run Tryz.prog w = .ok (.enter 57 vs) w := by go_simp
theorem eni10 (vs : Array Value) (w : World) : (callFunc 44 vs).run Tryz.prog w = .ok (.enter 44 vs) w := by go_simp
set_option maxHeartbeats 4000000 in
theorem wr10 {a0 : Act} {r wb ob : Nat} {A B : Int} {W : World} {oc : Array Value} {P0 : World → Prop} {P1 : Value → World → Prop} {P2 : Value → Value → World → Prop} {P3 : World → Prop} (e0 : a0.eval (.tmp 0) = .pointer (some ⟨r, 0, none⟩)) (e1 : a0.eval (.tmp 1) = .pointer (some ⟨wb, 0, none⟩)) (e5 : a0.eval (.tmp 5) = .pointer (some ⟨ob, 0, none⟩)) (hsz : a0.tmps.size = 290)
    (ho1 : oc[1]? = some (.int .i64 A)) (ho2 : oc[2]? = some (.int .i64 B)) (hb0 : W.heap[ob]? = some (.cells oc 30 (0, 0))) (h0 : P0 { W with drawn := W.drawn + 1 })
    (hc0 : ∀ w, P0 w → Calls Tryz.prog 17 #[.pointer (some ⟨r, 0, none⟩), .int .i64 A, .int .i64 B] w fun e w' => ∃ E, e = .returned E ∧ P1 E w' ∧ w'.heap[ob]? = some (.cells oc 30 (0, 0)))
    (hc1 : ∀ E w, P1 E w → Calls Tryz.prog 57 #[.pointer (some ⟨wb, 0, none⟩), .int .i64 A, .int .i64 B] w fun e w' => ∃ v, e = .returned v ∧ P2 E v w' ∧ w'.heap[ob]? = some (.cells oc 30 (0, 0)))
    (hc2 : ∀ E v w, P2 E v w → Calls Tryz.prog 44 #[E, v] w fun e w' => e = .returned (.bool true) ∧ P3 w' ∧ w'.heap[ob]? = some (.cells oc 30 (0, 0))) :
    (Code.region 10 rg10.toArray true).wp Tryz.prog (fun e a' y => e = .normal ∧ ∃ (E nv : Value), P3 y ∧ a' = ((((((((((((((a0.put (some 97) (.pointer (some ⟨r, 0, none⟩))).put (some 98) (.pointer (some ⟨ob, 1, none⟩))).put (some 99) (.int .i64 A)).put (some 100) (.pointer (some ⟨ob, 2, none⟩))).put (some 101) (.int .i64 B)).put (some 102) E).put (some 103) (.pointer (some ⟨wb, 0, none⟩))).put (some 104) (.pointer (some ⟨ob, 1, none⟩))).put (some 105) (.int .i64 A)).put (some 106) (.pointer (some ⟨ob, 2, none⟩))).put (some 107) (.int .i64 B)).put (some 108) nv).put (some 109) (.bool true)).put (some 6) (.bool true))) a0 W := by
  have hrep : ∀ k, k < 14 → (Array.replicate rg10.length false).getD k true = false := fun k hk => by
    simp [show k < rg10.length from hk]
  refine wp_region_act (l := rg10) 13 (fun k => ([some 97, some 98, some 99, some 100, some 101, some 102, some 103, some 104, some 105, some 106, some 107, some 108, some 109] : List (Option Tmp)).getD k none) (MD 5 11 (vv10 r wb ob A B) ob oc P0 P1 P2 P3) mixed (by decide) (by kernel_rfl) (by kernel_rfl) (by kernel_rfl) (by kernel_rfl) (fun _ => undef) ⟨fun k hk _ h => (by rw [hrep k (by omega)] at h; cases h), hb0, fun h => (by rw [hrep 11 (by decide)] at h; cases h), fun h => (by rw [hrep 12 (by decide)] at h; cases h), fun _ => h0, fun h => (by rw [hrep 5 (by decide)] at h; cases h), fun h => (by rw [hrep 11 (by decide)] at h; cases h), fun h => (by rw [hrep 12 (by decide)] at h; cases h)⟩ (fun k s V w hk hr hM => ?_) (fun V w hM => ?_)
  · have hun := ready_un hr
    have ev : ∀ (j k : Nat), j < 13 → ([some 97, some 98, some 99, some 100, some 101, some 102, some 103, some 104, some 105, some 106, some 107, some 108, some 109] : List (Option Tmp)).getD j none = some k → s.getD j true = true → k < 290 → (actOf (fun k => ([some 97, some 98, some 99, some 100, some 101, some 102, some 103, some 104, some 105, some 106, some 107, some 108, some 109] : List (Option Tmp)).getD k none) V s a0 13).eval (.tmp k) = V j := fun j k hj hk hs hk2 => actOf_eval 13 dd10 hj hk hs (by rw [hsz]; exact hk2)
    have ev0 : ∀ k, (∀ j, j < 13 → ([some 97, some 98, some 99, some 100, some 101, some 102, some 103, some 104, some 105, some 106, some 107, some 108, some 109] : List (Option Tmp)).getD j none ≠ some k) → (actOf (fun k => ([some 97, some 98, some 99, some 100, some 101, some 102, some 103, some 104, some 105, some 106, some 107, some 108, some 109] : List (Option Tmp)).getD k none) V s a0 13).eval (.tmp k) = a0.eval (.tmp k) := fun k h => actOf_eval0 13 fun j hj _ => h j hj
    have l1 : (Instr.loadAt 3 (.pointer (some ⟨ob, 1, none⟩))).run Tryz.prog w = .ok (.int .i64 A) w := by
      have k1 := (obj_cell hM.b 1).trans ho1
      go_simp
    have l2 : (Instr.loadAt 3 (.pointer (some ⟨ob, 2, none⟩))).run Tryz.prog w = .ok (.int .i64 B) w := by
      have k2 := (obj_cell hM.b 2).trans ho2
      go_simp
    rcases icas10 hk with rfl | rfl | rfl | rfl | rfl | rfl | rfl | rfl | rfl | rfl | rfl | rfl | rfl
    · exact act_val dd10 rfl rfl rfl hk hun (ex_move (.tmp 0) rfl ((ev0 0 (by decide)).trans e0)) (hM.pure (by decide) (by decide) rfl)
    · exact act_val dd10 rfl rfl rfl hk hun (ex_field 30 (.tmp 5) 1 rfl ((ev0 5 (by decide)).trans e5) (fa_op1 ob w)) (hM.pure (by decide) (by decide) rfl)
    · have d := ready_on hr 1 (by kernel_rfl)
      exact act_val dd10 rfl rfl rfl hk hun (ex_load 3 (.tmp 98) rfl ((ev 1 98 (by decide) rfl d (by decide)).trans (hM.p 1 (by decide) (by decide) d)) l1) (hM.pure (by decide) (by decide) rfl)
    · exact act_val dd10 rfl rfl rfl hk hun (ex_field 30 (.tmp 5) 2 rfl ((ev0 5 (by decide)).trans e5) (fa_op2 ob w)) (hM.pure (by decide) (by decide) rfl)
    · have d := ready_on hr 3 (by kernel_rfl)
      exact act_val dd10 rfl rfl rfl hk hun (ex_load 3 (.tmp 100) rfl ((ev 3 100 (by decide) rfl d (by decide)).trans (hM.p 3 (by decide) (by decide) d)) l2) (hM.pure (by decide) (by decide) rfl)
    · have d0 := ready_on hr 0 (by kernel_rfl)
      have d1 := ready_on hr 2 (by kernel_rfl)
      have d2 := ready_on hr 4 (by kernel_rfl)
      refine act_call dd10 rfl rfl rfl hk hun 17 #[.tmp 97, .tmp 99, .tmp 101] #[25, 3, 3] rfl #[.pointer (some ⟨r, 0, none⟩), .int .i64 A, .int .i64 B] ?_ (enc10 _ _) ((hc0 w (hM.q0 hun)).mono ?_)
      · have x0 := (ev 0 97 (by decide) rfl d0 (by decide)).trans (hM.p 0 (by decide) (by decide) d0)
        have x1 := (ev 2 99 (by decide) rfl d1 (by decide)).trans (hM.p 2 (by decide) (by decide) d1)
        have x2 := (ev 4 101 (by decide) rfl d2 (by decide)).trans (hM.p 4 (by decide) (by decide) d2)
        simp only [List.map_toArray, List.map_cons, List.map_nil, x0, x1, x2]
        rfl
      · rintro e w' ⟨v, rfl, hp, hb⟩
        exact ⟨_, rfl, hM.call0 (by decide) hun hb hp⟩
    · exact act_val dd10 rfl rfl rfl hk hun (ex_move (.tmp 1) rfl ((ev0 1 (by decide)).trans e1)) (hM.pure (by decide) (by decide) rfl)
    · exact act_val dd10 rfl rfl rfl hk hun (ex_field 30 (.tmp 5) 1 rfl ((ev0 5 (by decide)).trans e5) (fa_op1 ob w)) (hM.pure (by decide) (by decide) rfl)
    · have d := ready_on hr 7 (by kernel_rfl)
      exact act_val dd10 rfl rfl rfl hk hun (ex_load 3 (.tmp 104) rfl ((ev 7 104 (by decide) rfl d (by decide)).trans (hM.p 7 (by decide) (by decide) d)) l1) (hM.pure (by decide) (by decide) rfl)
    · exact act_val dd10 rfl rfl rfl hk hun (ex_field 30 (.tmp 5) 2 rfl ((ev0 5 (by decide)).trans e5) (fa_op2 ob w)) (hM.pure (by decide) (by decide) rfl)
    · have d := ready_on hr 9 (by kernel_rfl)
      exact act_val dd10 rfl rfl rfl hk hun (ex_load 3 (.tmp 106) rfl ((ev 9 106 (by decide) rfl d (by decide)).trans (hM.p 9 (by decide) (by decide) d)) l2) (hM.pure (by decide) (by decide) rfl)
    · have d0 := ready_on hr 6 (by kernel_rfl)
      have d1 := ready_on hr 8 (by kernel_rfl)
      have d2 := ready_on hr 10 (by kernel_rfl)
      have dc := ready_on hr 5 (by kernel_rfl)
      refine act_call dd10 rfl rfl rfl hk hun 57 #[.tmp 103, .tmp 105, .tmp 107] #[27, 3, 3] rfl #[.pointer (some ⟨wb, 0, none⟩), .int .i64 A, .int .i64 B] ?_ (end10 _ _) ((hc1 _ w (hM.q1 dc hun)).mono ?_)
      · have x0 := (ev 6 103 (by decide) rfl d0 (by decide)).trans (hM.p 6 (by decide) (by decide) d0)
        have x1 := (ev 8 105 (by decide) rfl d1 (by decide)).trans (hM.p 8 (by decide) (by decide) d1)
        have x2 := (ev 10 107 (by decide) rfl d2 (by decide)).trans (hM.p 10 (by decide) (by decide) d2)
        simp only [List.map_toArray, List.map_cons, List.map_nil, x0, x1, x2]
        rfl
      · rintro e w' ⟨v, rfl, hp, hb⟩
        exact ⟨_, rfl, hM.call1 (by decide) dc hun hb hp⟩
    · have dc := ready_on hr 5 (by kernel_rfl)
      have dd := ready_on hr 11 (by kernel_rfl)
      refine act_call dd10 rfl rfl rfl hk hun 44 #[.tmp 102, .tmp 108] #[38, 3] rfl #[V 5, V 11] ?_ (eni10 _ _) ((hc2 _ _ w (hM.q2 dd hun)).mono ?_)
      · have x0 := ev 5 102 (by decide) rfl dc (by decide)
        have x1 := ev 11 108 (by decide) rfl dd (by decide)
        simp only [List.map_toArray, List.map_cons, List.map_nil, x0, x1]
      · rintro e w' ⟨rfl, hp, hb⟩
        exact ⟨_, rfl, hM.call2 (by decide) dd hb hp⟩
  · have hcn : ∀ j, j < 13 → (canon 13 rg10.length).getD j true = true := fun j hj => canon_at hj
    obtain ⟨hv, h3⟩ := hM.q3 (hcn 12 (by decide))
    have xz : (actOf (fun k => ([some 97, some 98, some 99, some 100, some 101, some 102, some 103, some 104, some 105, some 106, some 107, some 108, some 109] : List (Option Tmp)).getD k none) V (canon 13 rg10.length) a0 13).eval (.tmp 109) = .bool true := (actOf_eval 13 dd10 (i := 12) (by decide) rfl (hcn 12 (by decide)) (by rw [hsz]; decide)).trans hv
    refine wpList_val rfl (ex_assign (.tmp 109) rfl xz) ?_
    refine ⟨rfl, V 5, V 11, h3, ?_⟩
    have p0 := hM.p 0 (by decide) (by decide) (hcn 0 (by decide))
    have p1 := hM.p 1 (by decide) (by decide) (hcn 1 (by decide))
    have p2 := hM.p 2 (by decide) (by decide) (hcn 2 (by decide))
    have p3 := hM.p 3 (by decide) (by decide) (hcn 3 (by decide))
    have p4 := hM.p 4 (by decide) (by decide) (hcn 4 (by decide))
    have p6 := hM.p 6 (by decide) (by decide) (hcn 6 (by decide))
    have p7 := hM.p 7 (by decide) (by decide) (hcn 7 (by decide))
    have p8 := hM.p 8 (by decide) (by decide) (hcn 8 (by decide))
    have p9 := hM.p 9 (by decide) (by decide) (hcn 9 (by decide))
    have p10 := hM.p 10 (by decide) (by decide) (hcn 10 (by decide))
    simp only [actOf]
    rw [if_pos (hcn 0 (by decide)), if_pos (hcn 1 (by decide)), if_pos (hcn 2 (by decide)), if_pos (hcn 3 (by decide)), if_pos (hcn 4 (by decide)), if_pos (hcn 5 (by decide)), if_pos (hcn 6 (by decide)), if_pos (hcn 7 (by decide)), if_pos (hcn 8 (by decide)), if_pos (hcn 9 (by decide)), if_pos (hcn 10 (by decide)), if_pos (hcn 11 (by decide)), if_pos (hcn 12 (by decide))]
    rw [p0, p1, p2, p3, p4, p6, p7, p8, p9, p10, hv]
    simp only [vv10, List.getD_cons_zero, List.getD_cons_succ]
section
variable {R : Rest} {W0 W w : World} {a : Nat} {q r wb : Nat}
set_option maxHeartbeats 1000000 in
set_option maxRecDepth 100000 in
theorem do_enlist (h : Mid W0 a (PlP a q r wb) R W) (hq : q ≤ 1000) (A B t u : Int) :
    Calls Tryz.prog 12 #[.pointer (some ⟨r, 0, none⟩), .pointer (some ⟨wb, 0, none⟩), .agg #[.int .i64 2, .int .i64 A, .int .i64 B, .int .i64 t, .int .i64 u]] W fun e w' => e = .returned (.bool true) ∧ Mid W0 a (PlP a (q + 1) r wb) R w' := by
  have H1 := Lib.hid ((mid_bx _ _ _).new #[.int .i64 2, .int .i64 A, .int .i64 B, .int .i64 t, .int .i64 u] 30 h)
  clear h
  go_enter Tryz.func12, Tryz.ntmps12
  go_upto_region 10 with fail
  refine wp_frame (fun a0 => a0.eval (.tmp 0) = .pointer (some ⟨r, 0, none⟩) ∧ a0.eval (.tmp 1) = .pointer (some ⟨wb, 0, none⟩) ∧ a0.eval (.tmp 5) = .pointer (some ⟨W.heap.size, 0, none⟩) ∧ a0.tmps.size = 290)
    (fun a0 a' y => ∃ (E nv : Value), Mid W0 a (PlP a (q + 1) r wb) (R.box W0.heap.size W.heap.size #[.int .i64 2, .int .i64 A, .int .i64 B, .int .i64 t, .int .i64 u] 30) y ∧ a' = ((((((((((((((a0.put (some 97) (.pointer (some ⟨r, 0, none⟩))).put (some 98) (.pointer (some ⟨W.heap.size, 1, none⟩))).put (some 99) (.int .i64 A)).put (some 100) (.pointer (some ⟨W.heap.size, 2, none⟩))).put (some 101) (.int .i64 B)).put (some 102) E).put (some 103) (.pointer (some ⟨wb, 0, none⟩))).put (some 104) (.pointer (some ⟨W.heap.size, 1, none⟩))).put (some 105) (.int .i64 A)).put (some 106) (.pointer (some ⟨W.heap.size, 2, none⟩))).put (some 107) (.int .i64 B)).put (some 108) nv).put (some 109) (.bool true)).put (some 6) (.bool true))) ⟨rfl, rfl, rfl, rfl⟩ (fun a0 hE => ?_) (fun a' y hR => ?_)
  · obtain ⟨q0, q1, q5, hsz⟩ := hE
    exact wr10 (oc := #[.int .i64 2, .int .i64 A, .int .i64 B, .int .i64 t, .int .i64 u]) (P0 := fun w => Mid W0 a (PlP a q r wb) (R.box W0.heap.size W.heap.size #[.int .i64 2, .int .i64 A, .int .i64 B, .int .i64 t, .int .i64 u] 30) w) (P1 := fun E w => (R.box W0.heap.size W.heap.size #[.int .i64 2, .int .i64 A, .int .i64 B, .int .i64 t, .int .i64 u] 30).inv w ∧ Calls Tryz.prog 57 #[.pointer (some ⟨wb, 0, none⟩), .int .i64 A, .int .i64 B] w fun e w2 => ∃ n, e = .returned (.int .i64 n) ∧ ErrAt w2 E n ∧ Mid W0 a (PlP a (q + 1) r wb) (R.box W0.heap.size W.heap.size #[.int .i64 2, .int .i64 A, .int .i64 B, .int .i64 t, .int .i64 u] 30) w2) (P2 := fun E v w => ∃ n, v = .int .i64 n ∧ ErrAt w E n ∧ Mid W0 a (PlP a (q + 1) r wb) (R.box W0.heap.size W.heap.size #[.int .i64 2, .int .i64 A, .int .i64 B, .int .i64 t, .int .i64 u] 30) w) (P3 := fun w => Mid W0 a (PlP a (q + 1) r wb) (R.box W0.heap.size W.heap.size #[.int .i64 2, .int .i64 A, .int .i64 B, .int .i64 t, .int .i64 u] 30) w) q0 q1 q5 hsz rfl rfl ((mid_bx _ _ _).is H1.out) ((mid_bx _ _ _).keep H1.out (Below.drew (Below.refl _ _)))
      (fun w hw => by
        obtain ⟨cs, st, C, d, ⟨rfl, rfl, pl⟩, hmv⟩ := hw
        exact ((pair_enlist ⟨hmv, pl⟩ hq A B) : Calls _ _ _ _ _).mono fun e w1 ⟨E, he, hi, hc⟩ => ⟨E, he, ⟨hi, hc.mono fun e w2 ⟨n, he, hE, hB⟩ => ⟨n, he, hE, bon_mid hB⟩⟩, hi.2.1⟩)
      (fun E w hw => hw.2.mono fun e w2 ⟨n, he, hE, hB⟩ => ⟨_, he, ⟨n, rfl, hE, hB⟩, (mid_bx _ _ _).is hB⟩)
      (fun E v w hw => by
        obtain ⟨n, rfl, hE, hB⟩ := hw
        exact (is_same hE).mono fun e w2 ⟨he, hw⟩ => ⟨he, hw ▸ hB, hw ▸ (mid_bx _ _ _).is hB⟩)
  · obtain ⟨E, nv, hm, rfl⟩ := hR
    have HM := Lib.hid hm
    clear hm H1
    simp only [Act.put, List.setIfInBounds_toArray, List.set_cons_zero, List.set_cons_succ]
    go_wp2_with fail
    go_ret
    exact ⟨rfl, (mid_bx _ _ _).drop HM.out⟩
end
theorem dd28 : DD (fun k => ([some 212, some 213, some 214, some 215, some 216, some 217, some 218, some 219, some 220] : List (Option Tmp)).getD k none) 9 := dd_of (by kernel_rfl) 9 (by decide)
theorem icas28 {i : Nat} (h : i < 9) : i = 0 ∨ i = 1 ∨ i = 2 ∨ i = 3 ∨ i = 4 ∨ i = 5 ∨ i = 6 ∨ i = 7 ∨ i = 8 := by omega
def vv28 (r wb ob : Nat) (A B : Int) : List Value := [.pointer (some ⟨r, 0, none⟩), .pointer (some ⟨ob, 1, none⟩), .int .i64 A, undef, .pointer (some ⟨wb, 0, none⟩), .pointer (some ⟨ob, 1, none⟩), .int .i64 A]
theorem enc28 (vs : Array Value) (w : World) : (callFunc 45 vs).run Tryz.prog w = .ok (.enter 45 vs) w := by go_simp
theorem end28 (vs : Array Value) (w : World) : (callFunc 63 vs).run Tryz.prog w = .ok (.enter 63 vs) w := by go_simp
theorem eni28 (vs : Array Value) (w : World) : (callFunc 44 vs).run Tryz.prog w = .ok (.enter 44 vs) w := by go_simp
set_option maxHeartbeats 4000000 in
theorem wr28 {a0 : Act} {r wb ob : Nat} {A B : Int} {W : World} {oc : Array Value} {P0 : World → Prop} {P1 : Value → World → Prop} {P2 : Value → Value → World → Prop} {P3 : World → Prop} (e0 : a0.eval (.tmp 0) = .pointer (some ⟨r, 0, none⟩)) (e1 : a0.eval (.tmp 1) = .pointer (some ⟨wb, 0, none⟩)) (e5 : a0.eval (.tmp 5) = .pointer (some ⟨ob, 0, none⟩)) (hsz : a0.tmps.size = 290)
    (ho1 : oc[1]? = some (.int .i64 A)) (ho2 : oc[2]? = some (.int .i64 B)) (hb0 : W.heap[ob]? = some (.cells oc 30 (0, 0))) (h0 : P0 { W with drawn := W.drawn + 1 })
    (hc0 : ∀ w, P0 w → Calls Tryz.prog 45 #[.pointer (some ⟨r, 0, none⟩), .int .i64 A] w fun e w' => ∃ E, e = .returned E ∧ P1 E w' ∧ w'.heap[ob]? = some (.cells oc 30 (0, 0)))
    (hc1 : ∀ E w, P1 E w → Calls Tryz.prog 63 #[.pointer (some ⟨wb, 0, none⟩), .int .i64 A] w fun e w' => ∃ v, e = .returned v ∧ P2 E v w' ∧ w'.heap[ob]? = some (.cells oc 30 (0, 0)))
    (hc2 : ∀ E v w, P2 E v w → Calls Tryz.prog 44 #[E, v] w fun e w' => e = .returned (.bool true) ∧ P3 w' ∧ w'.heap[ob]? = some (.cells oc 30 (0, 0))) :
    (Code.region 28 rg28.toArray true).wp Tryz.prog (fun e a' y => e = .normal ∧ ∃ (E nv : Value), P3 y ∧ a' = ((((((((((a0.put (some 212) (.pointer (some ⟨r, 0, none⟩))).put (some 213) (.pointer (some ⟨ob, 1, none⟩))).put (some 214) (.int .i64 A)).put (some 215) E).put (some 216) (.pointer (some ⟨wb, 0, none⟩))).put (some 217) (.pointer (some ⟨ob, 1, none⟩))).put (some 218) (.int .i64 A)).put (some 219) nv).put (some 220) (.bool true)).put (some 6) (.bool true))) a0 W := by
  have hrep : ∀ k, k < 10 → (Array.replicate rg28.length false).getD k true = false := fun k hk => by
    simp [show k < rg28.length from hk]
  refine wp_region_act (l := rg28) 9 (fun k => ([some 212, some 213, some 214, some 215, some 216, some 217, some 218, some 219, some 220] : List (Option Tmp)).getD k none) (MD 3 7 (vv28 r wb ob A B) ob oc P0 P1 P2 P3) mixed (by decide) (by kernel_rfl) (by kernel_rfl) (by kernel_rfl) (by kernel_rfl) (fun _ => undef) ⟨fun k hk _ h => (by rw [hrep k (by omega)] at h; cases h), hb0, fun h => (by rw [hrep 7 (by decide)] at h; cases h), fun h => (by rw [hrep 8 (by decide)] at h; cases h), fun _ => h0, fun h => (by rw [hrep 3 (by decide)] at h; cases h), fun h => (by rw [hrep 7 (by decide)] at h; cases h), fun h => (by rw [hrep 8 (by decide)] at h; cases h)⟩ (fun k s V w hk hr hM => ?_) (fun V w hM => ?_)
  · have hun := ready_un hr
    have ev : ∀ (j k : Nat), j < 9 → ([some 212, some 213, some 214, some 215, some 216, some 217, some 218, some 219, some 220] : List (Option Tmp)).getD j none = some k → s.getD j true = true → k < 290 → (actOf (fun k => ([some 212, some 213, some 214, some 215, some 216, some 217, some 218, some 219, some 220] : List (Option Tmp)).getD k none) V s a0 9).eval (.tmp k) = V j := fun j k hj hk hs hk2 => actOf_eval 9 dd28 hj hk hs (by rw [hsz]; exact hk2)
    have ev0 : ∀ k, (∀ j, j < 9 → ([some 212, some 213, some 214, some 215, some 216, some 217, some 218, some 219, some 220] : List (Option Tmp)).getD j none ≠ some k) → (actOf (fun k => ([some 212, some 213, some 214, some 215, some 216, some 217, some 218, some 219, some 220] : List (Option Tmp)).getD k none) V s a0 9).eval (.tmp k) = a0.eval (.tmp k) := fun k h => actOf_eval0 9 fun j hj _ => h j hj
    have l1 : (Instr.loadAt 3 (.pointer (some ⟨ob, 1, none⟩))).run Tryz.prog w = .ok (.int .i64 A) w := by
      have k1 := (obj_cell hM.b 1).trans ho1
      go_simp
    have l2 : (Instr.loadAt 3 (.pointer (some ⟨ob, 2, none⟩))).run Tryz.prog w = .ok (.int .i64 B) w := by
      have k2 := (obj_cell hM.b 2).trans ho2
      go_simp
    rcases icas28 hk with rfl | rfl | rfl | rfl | rfl | rfl | rfl | rfl | rfl
    · exact act_val dd28 rfl rfl rfl hk hun (ex_move (.tmp 0) rfl ((ev0 0 (by decide)).trans e0)) (hM.pure (by decide) (by decide) rfl)
    · exact act_val dd28 rfl rfl rfl hk hun (ex_field 30 (.tmp 5) 1 rfl ((ev0 5 (by decide)).trans e5) (fa_op1 ob w)) (hM.pure (by decide) (by decide) rfl)
    · have d := ready_on hr 1 (by kernel_rfl)
      exact act_val dd28 rfl rfl rfl hk hun (ex_load 3 (.tmp 213) rfl ((ev 1 213 (by decide) rfl d (by decide)).trans (hM.p 1 (by decide) (by decide) d)) l1) (hM.pure (by decide) (by decide) rfl)
    · have d0 := ready_on hr 0 (by kernel_rfl)
      have d1 := ready_on hr 2 (by kernel_rfl)
      refine act_call dd28 rfl rfl rfl hk hun 45 #[.tmp 212, .tmp 214] #[25, 3] rfl #[.pointer (some ⟨r, 0, none⟩), .int .i64 A] ?_ (enc28 _ _) ((hc0 w (hM.q0 hun)).mono ?_)
      · have x0 := (ev 0 212 (by decide) rfl d0 (by decide)).trans (hM.p 0 (by decide) (by decide) d0)
        have x1 := (ev 2 214 (by decide) rfl d1 (by decide)).trans (hM.p 2 (by decide) (by decide) d1)
        simp only [List.map_toArray, List.map_cons, List.map_nil, x0, x1]
        rfl
      · rintro e w' ⟨v, rfl, hp, hb⟩
        exact ⟨_, rfl, hM.call0 (by decide) hun hb hp⟩
    · exact act_val dd28 rfl rfl rfl hk hun (ex_move (.tmp 1) rfl ((ev0 1 (by decide)).trans e1)) (hM.pure (by decide) (by decide) rfl)
    · exact act_val dd28 rfl rfl rfl hk hun (ex_field 30 (.tmp 5) 1 rfl ((ev0 5 (by decide)).trans e5) (fa_op1 ob w)) (hM.pure (by decide) (by decide) rfl)
    · have d := ready_on hr 5 (by kernel_rfl)
      exact act_val dd28 rfl rfl rfl hk hun (ex_load 3 (.tmp 217) rfl ((ev 5 217 (by decide) rfl d (by decide)).trans (hM.p 5 (by decide) (by decide) d)) l1) (hM.pure (by decide) (by decide) rfl)
    · have d0 := ready_on hr 4 (by kernel_rfl)
      have d1 := ready_on hr 6 (by kernel_rfl)
      have dc := ready_on hr 3 (by kernel_rfl)
      refine act_call dd28 rfl rfl rfl hk hun 63 #[.tmp 216, .tmp 218] #[27, 3] rfl #[.pointer (some ⟨wb, 0, none⟩), .int .i64 A] ?_ (end28 _ _) ((hc1 _ w (hM.q1 dc hun)).mono ?_)
      · have x0 := (ev 4 216 (by decide) rfl d0 (by decide)).trans (hM.p 4 (by decide) (by decide) d0)
        have x1 := (ev 6 218 (by decide) rfl d1 (by decide)).trans (hM.p 6 (by decide) (by decide) d1)
        simp only [List.map_toArray, List.map_cons, List.map_nil, x0, x1]
        rfl
      · rintro e w' ⟨v, rfl, hp, hb⟩
        exact ⟨_, rfl, hM.call1 (by decide) dc hun hb hp⟩
    · have dc := ready_on hr 3 (by kernel_rfl)
      have dd := ready_on hr 7 (by kernel_rfl)
      refine act_call dd28 rfl rfl rfl hk hun 44 #[.tmp 215, .tmp 219] #[38, 3] rfl #[V 3, V 7] ?_ (eni28 _ _) ((hc2 _ _ w (hM.q2 dd hun)).mono ?_)
      · have x0 := ev 3 215 (by decide) rfl dc (by decide)
        have x1 := ev 7 219 (by decide) rfl dd (by decide)
        simp only [List.map_toArray, List.map_cons, List.map_nil, x0, x1]
      · rintro e w' ⟨rfl, hp, hb⟩
        exact ⟨_, rfl, hM.call2 (by decide) dd hb hp⟩
  · have hcn : ∀ j, j < 9 → (canon 9 rg28.length).getD j true = true := fun j hj => canon_at hj
    obtain ⟨hv, h3⟩ := hM.q3 (hcn 8 (by decide))
    have xz : (actOf (fun k => ([some 212, some 213, some 214, some 215, some 216, some 217, some 218, some 219, some 220] : List (Option Tmp)).getD k none) V (canon 9 rg28.length) a0 9).eval (.tmp 220) = .bool true := (actOf_eval 9 dd28 (i := 8) (by decide) rfl (hcn 8 (by decide)) (by rw [hsz]; decide)).trans hv
    refine wpList_val rfl (ex_assign (.tmp 220) rfl xz) ?_
    refine ⟨rfl, V 3, V 7, h3, ?_⟩
    have p0 := hM.p 0 (by decide) (by decide) (hcn 0 (by decide))
    have p1 := hM.p 1 (by decide) (by decide) (hcn 1 (by decide))
    have p2 := hM.p 2 (by decide) (by decide) (hcn 2 (by decide))
    have p4 := hM.p 4 (by decide) (by decide) (hcn 4 (by decide))
    have p5 := hM.p 5 (by decide) (by decide) (hcn 5 (by decide))
    have p6 := hM.p 6 (by decide) (by decide) (hcn 6 (by decide))
    simp only [actOf]
    rw [if_pos (hcn 0 (by decide)), if_pos (hcn 1 (by decide)), if_pos (hcn 2 (by decide)), if_pos (hcn 3 (by decide)), if_pos (hcn 4 (by decide)), if_pos (hcn 5 (by decide)), if_pos (hcn 6 (by decide)), if_pos (hcn 7 (by decide)), if_pos (hcn 8 (by decide))]
    rw [p0, p1, p2, p4, p5, p6, hv]
    simp only [vv28, List.getD_cons_zero, List.getD_cons_succ]
section
variable {R : Rest} {W0 W w : World} {a : Nat} {q r wb : Nat}
set_option maxHeartbeats 1000000 in
set_option maxRecDepth 100000 in
theorem do_halt (h : Mid W0 a (PlP a q r wb) R W) (hq : q ≤ 1000) (A B t u : Int) :
    Calls Tryz.prog 12 #[.pointer (some ⟨r, 0, none⟩), .pointer (some ⟨wb, 0, none⟩), .agg #[.int .i64 7, .int .i64 A, .int .i64 B, .int .i64 t, .int .i64 u]] W fun e w' => e = .returned (.bool true) ∧ Mid W0 a (PlP a (q + 1) r wb) R w' := by
  have H1 := Lib.hid ((mid_bx _ _ _).new #[.int .i64 7, .int .i64 A, .int .i64 B, .int .i64 t, .int .i64 u] 30 h)
  clear h
  go_enter Tryz.func12, Tryz.ntmps12
  go_upto_region 28 with fail
  refine wp_frame (fun a0 => a0.eval (.tmp 0) = .pointer (some ⟨r, 0, none⟩) ∧ a0.eval (.tmp 1) = .pointer (some ⟨wb, 0, none⟩) ∧ a0.eval (.tmp 5) = .pointer (some ⟨W.heap.size, 0, none⟩) ∧ a0.tmps.size = 290)
    (fun a0 a' y => ∃ (E nv : Value), Mid W0 a (PlP a (q + 1) r wb) (R.box W0.heap.size W.heap.size #[.int .i64 7, .int .i64 A, .int .i64 B, .int .i64 t, .int .i64 u] 30) y ∧ a' = ((((((((((a0.put (some 212) (.pointer (some ⟨r, 0, none⟩))).put (some 213) (.pointer (some ⟨W.heap.size, 1, none⟩))).put (some 214) (.int .i64 A)).put (some 215) E).put (some 216) (.pointer (some ⟨wb, 0, none⟩))).put (some 217) (.pointer (some ⟨W.heap.size, 1, none⟩))).put (some 218) (.int .i64 A)).put (some 219) nv).put (some 220) (.bool true)).put (some 6) (.bool true))) ⟨rfl, rfl, rfl, rfl⟩ (fun a0 hE => ?_) (fun a' y hR => ?_)
  · obtain ⟨q0, q1, q5, hsz⟩ := hE
    exact wr28 (oc := #[.int .i64 7, .int .i64 A, .int .i64 B, .int .i64 t, .int .i64 u]) (P0 := fun w => Mid W0 a (PlP a q r wb) (R.box W0.heap.size W.heap.size #[.int .i64 7, .int .i64 A, .int .i64 B, .int .i64 t, .int .i64 u] 30) w) (P1 := fun E w => (R.box W0.heap.size W.heap.size #[.int .i64 7, .int .i64 A, .int .i64 B, .int .i64 t, .int .i64 u] 30).inv w ∧ Calls Tryz.prog 63 #[.pointer (some ⟨wb, 0, none⟩), .int .i64 A] w fun e w2 => ∃ n, e = .returned (.int .i64 n) ∧ ErrAt w2 E n ∧ Mid W0 a (PlP a (q + 1) r wb) (R.box W0.heap.size W.heap.size #[.int .i64 7, .int .i64 A, .int .i64 B, .int .i64 t, .int .i64 u] 30) w2) (P2 := fun E v w => ∃ n, v = .int .i64 n ∧ ErrAt w E n ∧ Mid W0 a (PlP a (q + 1) r wb) (R.box W0.heap.size W.heap.size #[.int .i64 7, .int .i64 A, .int .i64 B, .int .i64 t, .int .i64 u] 30) w) (P3 := fun w => Mid W0 a (PlP a (q + 1) r wb) (R.box W0.heap.size W.heap.size #[.int .i64 7, .int .i64 A, .int .i64 B, .int .i64 t, .int .i64 u] 30) w) q0 q1 q5 hsz rfl rfl ((mid_bx _ _ _).is H1.out) ((mid_bx _ _ _).keep H1.out (Below.drew (Below.refl _ _)))
      (fun w hw => by
        obtain ⟨cs, st, C, d, ⟨rfl, rfl, pl⟩, hmv⟩ := hw
        exact ((pair_halt ⟨hmv, pl⟩ hq A) : Calls _ _ _ _ _).mono fun e w1 ⟨E, he, hi, hc⟩ => ⟨E, he, ⟨hi, hc.mono fun e w2 ⟨n, he, hE, hB⟩ => ⟨n, he, hE, bon_mid hB⟩⟩, hi.2.1⟩)
      (fun E w hw => hw.2.mono fun e w2 ⟨n, he, hE, hB⟩ => ⟨_, he, ⟨n, rfl, hE, hB⟩, (mid_bx _ _ _).is hB⟩)
      (fun E v w hw => by
        obtain ⟨n, rfl, hE, hB⟩ := hw
        exact (is_same hE).mono fun e w2 ⟨he, hw⟩ => ⟨he, hw ▸ hB, hw ▸ (mid_bx _ _ _).is hB⟩)
  · obtain ⟨E, nv, hm, rfl⟩ := hR
    have HM := Lib.hid hm
    clear hm H1
    simp only [Act.put, List.setIfInBounds_toArray, List.set_cons_zero, List.set_cons_succ]
    go_wp2_with fail
    go_ret
    exact ⟨rfl, (mid_bx _ _ _).drop HM.out⟩
end
end Go.Proofs.YtdfcfdcekdmcmaaGreat
namespace Go.Proofs.YtdfcfdcekdmcmaaGreat
open Go.RowKit
set_option linter.unusedVariables false
set_option linter.unusedSimpArgs false
section
variable {R : Rest} {W0 W w : World} {a : Nat} {q r wb c t : Nat}
theorem do_any (h : Mid W0 a (PlP a q r wb) R W) (hq : q ≤ 1000) (K A B t u : Int) (h0 : K = 0 → A ≤ 64) (hA : -9223372036854775808 ≤ A) (ht1 : -9223372036854775808 ≤ t) (ht2 : t ≤ 9223372036854775807) :
    Calls Tryz.prog 12 #[.pointer (some ⟨r, 0, none⟩), .pointer (some ⟨wb, 0, none⟩), .agg #[.int .i64 K, .int .i64 A, .int .i64 B, .int .i64 t, .int .i64 u]] W fun e w' => e = .returned (.bool true) ∧ Mid W0 a (PlP a (q + 1) r wb) R w' := by
  by_cases hK : K < 0 ∨ 10 < K
  · exact do_none h K A B t u hK
  · have hc : K = 0 ∨ K = 1 ∨ K = 2 ∨ K = 3 ∨ K = 4 ∨ K = 5 ∨ K = 6 ∨ K = 7 ∨ K = 8 ∨ K = 9 ∨ K = 10 := by omega
    rcases hc with rfl | rfl | rfl | rfl | rfl | rfl | rfl | rfl | rfl | rfl | rfl
    · exact do_ring h hq A B t u (h0 rfl) hA
    · exact do_add h hq A B t u
    · exact do_enlist h hq A B t u
    · exact do_signal h hq A B t u
    · exact do_park h hq A B t u
    · exact do_wake h hq A B t u
    · exact do_tick h hq A B t u
    · exact do_halt h hq A B t u
    · exact do_claim h hq A B t u
    · exact do_show h hq A B t u ht1 ht2
    · exact do_pub h hq A B t u
theorem RmNew.cm (h : RmNew W w r a c t) : Cm R0 W w a [] 0 ⟨r, c, t, 0, [], [], .slice none 0 0, .slice none 0 0, .slice none 0 0, []⟩ := by
  have h1 := h.mv
  have h2 : Mv (lay W.heap.size [.box r #[.pointer (some ⟨a, 0, none⟩), .pointer (some ⟨c, 0, none⟩), .pointer (some ⟨t, 0, none⟩), .slice none 0 0] 109, .box t #[.slice none 0 0] 142, .box c #[.int .i64 0, .slice none 0 0] 106] R0) W w a [] 0 := h1
  have h3 := Mv.le h2 (lay_perm (List.Perm.cons _ (List.Perm.swap (Ly.box c #[.int .i64 0, .slice none 0 0] 106) (Ly.box t #[.slice none 0 0] 142) [])))
  have l1 := Ly.mono (B := W.heap.size) (a := .box t #[.slice none 0 0] 142) (Rest.nilLe (R := R0) (B := W.heap.size) 153 3)
  have l2 := l1.trans (Rest.nilLe (B := W.heap.size) 208 2)
  have l3 := Ly.mono (B := W.heap.size) (a := .box c #[.int .i64 0, .slice none 0 0] 106) l2
  have l4 := l3.trans (Rest.nilLe (B := W.heap.size) 143 1)
  have l5 := Ly.mono (B := W.heap.size) (a := .box r #[.pointer (some ⟨a, 0, none⟩), .pointer (some ⟨c, 0, none⟩), .pointer (some ⟨t, 0, none⟩), .slice none 0 0] 109) l4
  exact Mv.le h3 l5
theorem pl_new (r c t : Nat) (a : Nat) (w : World) : Pl a [] 0 ⟨r, c, t, 0, [], [], .slice none 0 0, .slice none 0 0, .slice none 0 0, []⟩ (dw0 w) 0 :=
  { arn := ⟨fun i x h => by simp at h, fun i j x y _ h => by simp at h⟩, csl := Nat.le_refl _, len := rfl, l8 := by simp [dw0], tw := fun i x y h => by simp at h, now := rfl, n0 := by simp [dw0], n1 := by simp [dw0], ts := rfl, xs := rfl, xl := by simp [dw0], tim := fun t h => by simp [dw0] at h, dis := by simp [Dis, dw0], wb := fun x h => by simp [dw0] at h, sv := fun x h => by simp [dw0] at h, st0 := Int.le_refl _, st1 := by simp }
theorem both_new (h : RmNew W w r a c t) : Calls Tryz.prog 11 #[] w fun e w' => e = .returned (.pointer (some ⟨w.heap.size + 1, 0, none⟩)) ∧ Mid W a (PlP a 0 r (w.heap.size + 1)) R0 w' := by
  refine (dnew h.cm).mono ?_
  rintro e w' ⟨he, hd⟩
  exact ⟨he, [], 0, _, dw0 w, ⟨rfl, rfl, pl_new r c t a w⟩, mv_of_dm hd⟩
theorem Mid.below {P : List Int → Int → Cw → Dw → Prop} (h : Mid W0 a P R w) : Below W0.heap.size W0 w := by
  obtain ⟨cs, st, C, d, _, hm⟩ := h
  obtain ⟨v, _, hb, _⟩ := hm
  exact hb
end
end Go.Proofs.YtdfcfdcekdmcmaaGreat
namespace Go.Proofs.YtdfcfdcekdmcmaaGreat
open Go.RowKit
set_option linter.unusedVariables false
set_option linter.unusedSimpArgs false
theorem rrings_n {W : World} {r n cap : Nat} {p : Option Addr} (c3 : W.cell? ⟨r, 3, none⟩ = some (.slice p n cap)) : Calls Tryz.prog 16 #[.pointer (some ⟨r, 0, none⟩)] W fun e w' => e = .returned (.int .i64 n) ∧ W = w' := by
  go_enter Tryz.func16, Tryz.ntmps16
  go_wp2
  go_ret
  exact ⟨rfl, rfl⟩
section
variable {R : Rest} {W0 W w : World} {a : Nat} {cs : List Int} {st : Int} {C : Cw} {d : Dw} {q i : Nat} {x : Cr} {y : Dr}
theorem Bo.keep (h : Bo R W0 W a cs st C d q) (hb : Below W.heap.size W w) : Bo R W0 w a cs st C d q := ⟨Mv.keep h.mv hb, h.pl⟩
theorem al_rings (h : Bo R W0 W a cs st C d q) : Calls Tryz.prog 16 #[.pointer (some ⟨C.r, 0, none⟩)] W fun e w' => e = .returned (.int .i64 d.L.length) ∧ W = w' := by
  obtain ⟨p, cap, _, c3⟩ := h.cm.c3
  have := rrings_n c3
  rw [h.pl.len] at this
  exact this
theorem al_actors (h : Bo R W0 W a cs st C d q) : Calls Tryz.prog 14 #[.pointer (some ⟨C.r, 0, none⟩)] W fun e w' => e = .returned (.pointer (some ⟨C.t, 0, none⟩)) ∧ W = w' := ractors h.cm.rm
theorem al_clock (h : Bo R W0 W a cs st C d q) : Calls Tryz.prog 47 #[.pointer (some ⟨C.r, 0, none⟩)] W fun e w' => e = .returned (.pointer (some ⟨C.c, 0, none⟩)) ∧ W = w' := rclock h.cm.rm
theorem al_len (h : Bo R W0 W a cs st C d q) : Calls Tryz.prog 15 #[.pointer (some ⟨C.t, 0, none⟩)] W fun e w' => e = .returned (.int .i64 d.xs.length) ∧ W = w' := by
  obtain ⟨av, hrc⟩ := h.cm.rc
  have := tlen_c hrc
  rw [h.pl.xs] at this
  exact this
theorem al_now (h : Bo R W0 W a cs st C d q) : Calls Tryz.prog 48 #[.pointer (some ⟨C.c, 0, none⟩)] W fun e w' => e = .returned (.int .i64 d.now) ∧ W = w' := by
  obtain ⟨av, hrc⟩ := h.cm.rc
  have := now_c hrc
  rw [h.pl.now] at this
  exact this
theorem al_timers (h : Bo R W0 W a cs st C d q) : Calls Tryz.prog 67 #[.pointer (some ⟨C.c, 0, none⟩)] W fun e w' => e = .returned (.int .i64 d.ms.length) ∧ W = w' := by
  obtain ⟨av, hrc⟩ := h.cm.rc
  have := waiting_c hrc
  rw [h.pl.ts, srt_length] at this
  exact this
theorem al_state (h : Bo R W0 W a cs st C d q) {j : Nat} {u : Ac} (hu : d.xs[j]? = some u) : Calls Tryz.prog 19 #[.pointer (some ⟨C.t, 0, none⟩), .int .i64 j] W fun e w' => e = .returned (.int .i64 u.1) ∧ Below W.heap.size W w' := by
  obtain ⟨av, hrc⟩ := h.cm.rc
  exact tstate_c hrc j u (by rw [h.pl.xs]; exact hu)
theorem al_token (h : Bo R W0 W a cs st C d q) {j : Nat} {u : Ac} (hu : d.xs[j]? = some u) : Calls Tryz.prog 21 #[.pointer (some ⟨C.t, 0, none⟩), .int .i64 j] W fun e w' => e = .returned (.bool u.2.1) ∧ Below W.heap.size W w' := by
  obtain ⟨av, hrc⟩ := h.cm.rc
  exact ttoken_c hrc j u (by rw [h.pl.xs]; exact hu)
theorem al_cells (h : Bo R W0 W a cs st C d q) : ∃ (p4 p1 ps pt : Option Addr) (c4 c1 cs' ct : Nat), W.cell? ⟨d.wb, 4, none⟩ = some (.slice p4 d.L.length c4) ∧ W.cell? ⟨d.wb, 2, none⟩ = some (.pointer (some ⟨d.tb, 0, none⟩)) ∧ W.cell? ⟨d.wb, 0, none⟩ = some (.int .i64 d.now) ∧ W.cell? ⟨d.wb, 1, none⟩ = some (.slice p1 d.ms.length c1) ∧ W.cell? ⟨d.tb, 0, none⟩ = some (.slice ps d.xs.length cs') ∧ W.cell? ⟨d.tb, 1, none⟩ = some (.slice pt d.xs.length ct) := by
  have hd := h.dm
  obtain ⟨p4, c4, e4, -⟩ := row_form hd.rings
  obtain ⟨p1, c1, e1, -⟩ := row_form (hd.is (l := .row 237 2 d.tv d.ms.length (flat d.ms)) (by simp [Dw.lys, Dw.clock]))
  obtain ⟨ps, cs', es, -⟩ := row_form (hd.is (l := .row 3 1 d.v1 d.xs.length (d.xs.map fun a => .int .i64 a.1)) (by simp [Dw.lys, Dw.table]))
  obtain ⟨pt, ct, et, -⟩ := row_form (hd.is (l := .row 4 1 d.v2 d.xs.length (d.xs.map fun a => .bool a.2.1)) (by simp [Dw.lys, Dw.table]))
  exact ⟨p4, p1, ps, pt, c4, c1, cs', ct, (obj_cell hd.box 4).trans (by simp [Dw.cells, e4]), (obj_cell hd.box 2).trans rfl, (obj_cell hd.box 0).trans rfl, (obj_cell hd.box 1).trans (by simp [Dw.cells, e1]), (obj_cell hd.tbox 0).trans (by simp [es]), (obj_cell hd.tbox 1).trans (by simp [et])⟩
theorem al_many (h : Bo R W0 W a cs st C d q) (hx : C.L[i]? = some x) (hy : d.L[i]? = some y) : Calls Tryz.prog 31 #[.pointer (some ⟨C.r, 0, none⟩), .int .i64 i] W fun e w' => e = .returned (.bool y.many) ∧ Below W.heap.size W w' := by
  have tw := h.pl.tw i x y hx hy
  obtain ⟨rg, cap, _, hat⟩ := h.cm.at hx (by rw [h.pl.len]; exact h.pl.l8)
  rcases Bool.eq_false_or_eq_true y.many with hm | hm
  · rw [(one_t (by rw [tw.m, hm])).2] at hat
    rw [hm]
    exact rmany_yes hat
  · rw [(one_f (by rw [tw.m, hm])).2] at hat
    rw [hm]
    exact rmany_no hat
theorem al_slots (h : Bo R W0 W a cs st C d q) (hx : C.L[i]? = some x) : Calls Tryz.prog 39 #[.pointer (some ⟨C.r, 0, none⟩), .int .i64 i] W fun e w' => e = .returned (.pointer (some ⟨x.sb, 0, none⟩)) ∧ Below W.heap.size W w' := by
  obtain ⟨rg, cap, _, hat⟩ := h.cm.at hx (by rw [h.pl.len]; exact h.pl.l8)
  exact rslots_ok hat
theorem al_cursor (h : Bo R W0 W a cs st C d q) (hx : C.L[i]? = some x) (hy : d.L[i]? = some y) : Calls Tryz.prog 36 #[.pointer (some ⟨C.r, 0, none⟩), .int .i64 i] W fun e w' => e = .returned (.int .i64 x.o) ∧ Below W.heap.size W w' := by
  have tw := h.pl.tw i x y hx hy
  have k6 := tw.k6
  obtain ⟨rg, cap, _, hat⟩ := h.cm.at hx (by rw [h.pl.len]; exact h.pl.l8)
  rcases Bool.eq_false_or_eq_true y.many with hm | hm
  · have hmx : x.many = true := by rw [tw.m, hm]
    obtain ⟨o1, o2⟩ := one_t hmx
    rw [o2] at hat
    have cl2 := h.pl.csl2
    obtain ⟨u1, u2, u3⟩ := h.pl.curm hx tw hm
    have hlc := (List.getElem?_eq_some_iff.1 u2).1
    have hms := h.cm.many' hx hmx (by rw [tw.k]; omega) (by omega) (tw.sq hm).1
    exact rcursor_many (s := x.seq a) hat hms.c
  · have hmx : x.many = false := by rw [tw.m, hm]
    obtain ⟨o1, o2⟩ := one_f hmx
    rw [o1, o2] at hat
    exact rcursor_one hat (h.cm.one' hx hmx (tw.sg hm).1).c
theorem al_cell (h : Bo R W0 W a cs st C d q) (hx : C.L[i]? = some x) (hy : d.L[i]? = some y) : cs[x.o]? = some (if y.many = true then y.c else y.p) := by
  have tw := h.pl.tw i x y hx hy
  rcases Bool.eq_false_or_eq_true y.many with hm | hm
  · rw [if_pos hm, ← tw.c]
    exact (h.pl.curm hx tw hm).1
  · rw [if_neg (by rw [hm]; decide), ← tw.p hm]
    exact h.pl.cur1 hx tw hm
theorem al_dcursor (h : Bo R W0 W a cs st C d q) (hy : d.L[i]? = some y) : Calls Tryz.prog 68 #[.pointer (some ⟨d.wb, 0, none⟩), .int .i64 i] W fun e w' => e = .returned (.int .i64 (if y.many = true then y.c else y.p)) ∧ W = w' := dcursor h.dm hy h.pl.l8
theorem al_load (h : Bo R W0 W a cs st C d q) (hq : q ≤ 1000) {j : Nat} {v : Int} (hv : cs[j]? = some v) : Calls Tryz.prog 35 #[.pointer (some ⟨a, 0, none⟩), .int .i64 j] W fun e w' => e = .returned (.tuple #[.int .i64 v, .nilIface]) ∧ Mv (lay W0.heap.size (C.lys a ++ d.lys) R) W0 w' a cs (st + 1) := by
  have st0 := h.pl.st0
  have st1 := h.pl.st1
  exact load_mv h.mv j v hv st0 (by omega)
end
end Go.Proofs.YtdfcfdcekdmcmaaGreat
namespace Go.Proofs.YtdfcfdcekdmcmaaGreat
open Go.RowKit
set_option linter.unusedVariables false
set_option linter.unusedSimpArgs false
set_option maxHeartbeats 1000000 in
set_option maxRecDepth 100000 in
theorem small14 {W : World} {v : Value} {n : Nat} {z : Nat → Nat → Int} (hO : OpsAt W v n 5 z) :
    Calls Tryz.prog 8 #[v] W fun e w' => ∃ b : Bool, e = .returned (.bool b) ∧ (b = true → n ≤ 150 ∧ ∀ j, j < n → z j 0 = 0 → z j 1 ≤ 64) ∧ Below W.heap.size W w' := by
  obtain ⟨p, cap, rfl, hnm, hc⟩ := hO
  have HC := Lib.hid hc
  have hnb : (n : Int) ≤ 9223372036854775807 := by unfold maxLen at hnm; omega
  clear hc
  go_enter Tryz.func8, Tryz.ntmps8
  go_wp2_with fail
  go_loopw [7] (fun i wl => ∃ k : Nat, k ≤ n ∧ i = .int .i64 k ∧ Hid ((∀ j, j < k → z j 0 = 0 → z j 1 ≤ 64) ∧ Below W.heap.size W wl)) (fun i _ => n - (intOf i).toNat)
  case atStart => exact ⟨0, Nat.zero_le _, rfl, Lib.hid ⟨fun j hj => by omega, Below.refl _ _⟩⟩
  case round =>
    obtain ⟨k, hk, rfl, HK⟩ := hrel
    obtain ⟨hall, hb⟩ := HK.out
    by_cases hlt : k < n
    · obtain ⟨b, off, rfl, hcell⟩ := HC.out.resolve_left (by omega)
      have hk4 := hcell k hlt
      have q0 := keepc hb (hk4 0 (by decide)).1
      have q1 := keepc hb (hk4 1 (by decide)).1
      have q2 := keepc hb (hk4 2 (by decide)).1
      have q3 := keepc hb (hk4 3 (by decide)).1
      have q4 := keepc hb (hk4 4 (by decide)).1
      have HAL := Lib.hid hall
      have HB := Lib.hid hb
      simp only [Nat.add_zero] at q0
      have hz0 : ∃ z0, z0 = z k 0 := ⟨_, rfl⟩
      have hz1 : ∃ z1, z1 = z k 1 := ⟨_, rfl⟩
      obtain ⟨z0, e0⟩ := hz0
      obtain ⟨z1, e1⟩ := hz1
      rw [← e0] at q0
      rw [← e1] at q1
      have HE0 := Lib.hid e0
      have HE1 := Lib.hid e1
      generalize z k 2 = z2 at q2
      generalize z k 3 = z3 at q3
      generalize z k 4 = z4 at q4
      clear hcell hk4 hall hb e0 e1
      by_cases h0 : z0 = 0
      · have d0 : (z0 == 0) = true := by simpa using h0
        by_cases h1 : 64 < z1
        · have d1 : decide (64 < z1) = true := decide_eq_true h1
          clear h0 h1
          go_wp2_with fail
          go_ret
          exact ⟨false, rfl, fun e => absurd e (by decide), balloc HB.out _⟩
        · have d1 : decide (64 < z1) = false := decide_eq_false h1
          have HN := Lib.hid h1
          clear h0 h1
          go_wp2_with fail
          exact ⟨⟨k + 1, by omega, by go_num, Lib.hid ⟨fun j hj hz => by
            by_cases e : j = k
            · subst e
              have := HN.out
              have := HE1.out
              omega
            · exact HAL.out j (by omega) hz, balloc HB.out _⟩⟩, by simp [intOf]; omega⟩
      · have d0 : (z0 == 0) = false := by simpa using h0
        have HN := Lib.hid h0
        clear h0
        go_wp2_with fail
        exact ⟨⟨k + 1, by omega, by go_num, Lib.hid ⟨fun j hj hz => by
          by_cases e : j = k
          · subst e
            exact absurd (HE0.out.trans hz) HN.out
          · exact HAL.out j (by omega) hz, balloc HB.out _⟩⟩, by simp [intOf]; omega⟩
    · obtain rfl : k = n := by omega
      have HAL := Lib.hid hall
      have HB := Lib.hid hb
      clear hall hb
      go_wp2_with fail
      go_ret
      exact ⟨_, rfl, fun e => ⟨by have := of_decide_eq_true e; omega, HAL.out⟩, HB.out⟩
end Go.Proofs.YtdfcfdcekdmcmaaGreat
namespace Go.Proofs.YtdfcfdcekdmcmaaGreat
open Go.RowKit
set_option linter.unusedVariables false
set_option linter.unusedSimpArgs false
theorem wclone {w : World} {B : Nat} {v : Value} {l : List Int} (h : w.ownsRow B 3 1 v l.length (l.map (Value.int .i64))) (hl : l.length ≤ 1000) :
    Calls Tryz.prog 72 #[v] w fun e w' => ∃ v', e = .returned v' ∧ w'.ownsRow w.heap.size 3 1 v' l.length (l.map (Value.int .i64)) ∧ Below w.heap.size w w' := by
  obtain ⟨p, c, e1, h2⟩ := ints14 h
  clear h
  subst e1
  have z0 : l.length = 0 → Calls Tryz.prog 72 #[.slice p l.length c] w fun e w' => ∃ v', e = .returned v' ∧ w'.ownsRow w.heap.size 3 1 v' l.length (l.map (Value.int .i64)) ∧ Below w.heap.size w w' := by
    intro hz
    have e : l = [] := List.eq_nil_of_length_eq_zero hz
    subst e
    cases p with
    | none => exact (Tryz.slices_Clone_int_nil 0 c w).mono fun e w' ⟨h1, h2⟩ => by subst h2; exact ⟨_, h1, World.ownsRow_nil _ _ _ _, Below.refl _ _⟩
    | some a => exact (Tryz.slices_Clone_int_zero a c w).mono fun e w' ⟨v', h1, h2, _, h4⟩ => ⟨v', h1, h2, h4⟩
  rcases h2 with hz | ⟨b, rfl, hc⟩
  · exact z0 hz
  · have := Tryz.slices_Clone_int b 0 l.length c l w (by simp) (by omega) (fun j hj => by
      rw [Nat.zero_add]
      exact hc j hj)
    rw [show l.take l.length = l by rw [List.take_of_length_le]; simp] at this
    exact this.mono fun e w' ⟨v', h1, h2, _, h4⟩ => ⟨v', h1, h2, h4⟩
theorem rfldw (x y z u : Value) (w : World) : (Instr.field 149 (.agg #[x, y, z, u]) 3).run Tryz.prog w = .ok u w := by kernel_rfl
section
variable {R : Rest} {W0 W w : World} {a : Nat} {cs : List Int} {st : Int} {C : Cw} {d : Dw} {q i : Nat} {x : Cr} {y : Dr}
set_option maxRecDepth 100000 in
theorem al_waiting (h : Bo R W0 W a cs st C d q) (hq : q ≤ 900) (hx : C.L[i]? = some x) (hy : d.L[i]? = some y) :
    Calls Tryz.prog 18 #[.pointer (some ⟨C.r, 0, none⟩), .int .i64 i] W fun e w' => ∃ v, e = .returned v ∧ w'.ownsRow W.heap.size 3 1 v y.ws.length (y.ws.map (Value.int .i64)) ∧ Below W.heap.size W w' := by
  have tw := h.pl.tw i x y hx hy
  have hwl := tw.wl
  have hwe := tw.ws
  obtain ⟨rg, cap, _, hat⟩ := h.cm.at hx (by rw [h.pl.len]; exact h.pl.l8)
  have HL := Lib.hid (look_ok hat)
  have hrow : W.ownsRow W0.heap.size 3 1 x.wv x.ws.length (x.ws.map (Value.int .i64)) := h.cm.is (l := .row 3 1 x.wv x.ws.length (x.ws.map (Value.int .i64))) (Cw.mem_lys hx (by simp [Cr.lys, Cr.top]))
  rw [hwe] at hrow
  obtain ⟨pw, cw, hv, -⟩ := row_form hrow
  have HR : Hid (∀ w, Below W.heap.size W w → w.ownsRow W0.heap.size 3 1 x.wv y.ws.length (y.ws.map (Value.int .i64))) := Lib.hid fun w hb => (Frm.of_below hb fun _ => False).row hrow fun _ _ => id
  rw [hv] at HL HR
  have HW : Hid (y.ws.length ≤ 1000) := Lib.hid (by omega)
  have hfl := rfldw
  clear h hat hrow hx hy tw hwl hwe
  go_enter Tryz.func18, Tryz.ntmps18
  go_wp2_with (first
    | (go_at_call 73; refine HL.out.mono ?_; rintro e w1 ⟨rfl, hb⟩; have HB := Lib.hid hb; clear hb)
    | (go_at_call 72; refine (wclone (HR.out _ HB.out) HW.out).mono ?_; rintro e w2 ⟨v, rfl, ho, hb⟩; have HO := Lib.hid ho; have HB2 := Lib.hid hb; clear ho hb))
  go_ret
  exact ⟨_, rfl, row_base HO.out HB.out.size, bthen HB.out HB2.out⟩
theorem al_size (h : Bo R W0 W a cs st C d q) (hx : C.L[i]? = some x) (hy : d.L[i]? = some y) : Calls Tryz.prog 50 #[.pointer (some ⟨x.sb, 0, none⟩)] W fun e w' => e = .returned (.agg #[.int .u8 x.k]) ∧ Below W.heap.size W w' := by
  have tw := h.pl.tw i x y hx hy
  have k6 := tw.k6
  have hk := tw.k
  have hb : W.heap[x.sb]? = some (.cells #[.int .u8 x.k, x.slv] 185 (0, 0)) := h.cm.is (l := .box x.sb #[.int .u8 x.k, x.slv] 185) (Cw.mem_lys hx (by simp [Cr.lys, Cr.sl]))
  have hr : W.ownsRow W0.heap.size 86 2 x.slv x.evs.length (flat2 x.evs) := h.cm.is (l := .row 86 2 x.slv x.evs.length (flat2 x.evs)) (Cw.mem_lys hx (by simp [Cr.lys, Cr.sl]))
  have hp := two_pos x.k
  exact size_some W x.sb x.rg x.rc x.k x.evs ⟨hb, row_base hr (Nat.zero_le _), by simp only [Cr.evs, List.length_replicate]; omega, by omega⟩
theorem al_sizes (h : Bo R W0 W a cs st C d q) (hx : C.L[i]? = some x) (hy : d.L[i]? = some y) (W : World) : Calls Tryz.prog 51 #[.agg #[.int .u8 x.k]] W fun e w' => e = .returned (.int .i64 (two y.k)) ∧ Below W.heap.size W w' := by
  have tw := h.pl.tw i x y hx hy
  have k6 := tw.k6
  rw [tw.k]
  exact (slots_any y.k (by omega) W).mono fun e w ⟨h1, h2⟩ => ⟨h1, slots_below h2⟩
end
end Go.Proofs.YtdfcfdcekdmcmaaGreat
