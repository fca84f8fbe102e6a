/-
  BarrierRises: as long as cells only rise, what a probe tells that began earlier is never more than what a look tells that began later. Condition: the input is read as data.
-/
import Derived.Test.YtejkjpmigajidaaBs1
namespace Go.Proofs.Ytejkjpmigajidaa
open Go.RowKit
set_option linter.unusedVariables false

/-- What holds between two steps. -/
def RiI (R : Rest) (w1 : World) (a bb qb : Nat) (n alc : Nat) (next : Int) (j r : Nat) (w : World) : Prop :=
  ∃ xs ts p st, PrF ts (some ⟨bb, 0, none⟩) (idsB n) p ∧ RsI next (cOf xs 0) (valsOf xs (idsB n)) p r ∧ XsI n alc xs j ∧ 0 ≤ st ∧ st ≤ 1000 + 2 * (j : Int) ∧ Mv (R.box w1.heap.size qb ts 134) w1 w a xs st
section
variable {W : World} {cu al sf next : Int} {n m nm ca cb cm : Nat} {pa ps pm : Option Addr} {z y u : Nat → Int} {bf : Bool}
set_option maxHeartbeats 2000000 in
set_option maxRecDepth 100000 in
theorem rises_bad (ha : LongsAt W (.slice pa n ca) n z) (hs : ByteRow W (.slice ps m cb) m y) (hg : ¬ PlanOk cu al n m z) :
    Calls Try.prog 13 #[.agg #[.int .i64 cu, .slice pa n ca, .bool bf, .slice ps m cb, .int .i64 al, .int .u8 sf], .int .i64 next, .slice pm nm cm] W fun e w' => e = .returned (.bool true) ∧ Below W.heap.size W w' := by
  have HBG : Hid (∀ w1, Below W.heap.size W w1 → Calls Try.prog 74 #[.agg #[.int .i64 cu, .slice pa n ca, .bool bf, .slice ps m cb, .int .i64 al, .int .u8 sf]] w1 fun e w' => e = .returned (.tuple #[.pointer none, .pointer none, .slice none 0 0, .bool false]) ∧ Below w1.heap.size w1 w') := Lib.hid fun w1 hb => begun_bad (ha.keep hb) (hs.keep hb) hg
  have HB0 := Lib.hid (balloc (Below.refl _ W) (.cells #[.int .i64 cu, .slice pa n ca, .bool bf, .slice ps m cb, .int .i64 al, .int .u8 sf] 125))
  clear ha hs hg
  go_enter Try.func13, Try.ntmps13
  go_wp2_with (first
    | (go_at_call 74; refine (HBG.out _ HB0.out).mono ?_; rintro e w2 ⟨rfl, hb⟩; have HB2 := Lib.hid (bthen HB0.out hb); clear hb)
    | (go_at_call 75; refine (awake12 _).mono ?_; rintro e w3 ⟨rfl, hb⟩; have HB3 := Lib.hid (bthen HB2.out hb); clear hb))
  go_ret
  exact ⟨rfl, HB3.out⟩
set_option maxHeartbeats 2000000 in
set_option maxRecDepth 100000 in
theorem rises_far0 (ha : LongsAt W (.slice pa n ca) n z) (hs : ByteRow W (.slice ps m cb) m y) (hg : PlanOk cu al n m z) (hsf : 0 ≤ sf) (h0 : (next < 0)) :
    Calls Try.prog 13 #[.agg #[.int .i64 cu, .slice pa n ca, .bool bf, .slice ps m cb, .int .i64 al, .int .u8 sf], .int .i64 next, .slice pm nm cm] W fun e w' => e = .returned (.bool true) ∧ Below W.heap.size W w' := by
  have HBG : Hid (∀ w1, Below W.heap.size W w1 → Calls Try.prog 74 #[.agg #[.int .i64 cu, .slice pa n ca, .bool bf, .slice ps m cb, .int .i64 al, .int .u8 sf]] w1 fun e w' => ∃ a bb vl, e = .returned (.tuple #[.pointer (some ⟨a, 0, none⟩), .pointer (some ⟨bb, 0, none⟩), vl, .bool true]) ∧ Below w1.heap.size w1 w') := Lib.hid fun w1 hb => (begun_ok (ha.keep hb) (hs.keep hb) hg hsf).mono fun e w' ⟨R, a, bb, cs, xs, alc, sh, st, left, vl, h1, h2⟩ => ⟨a, bb, vl, h1, h2.mv.below⟩
  have HB0 := Lib.hid (balloc (Below.refl _ W) (.cells #[.int .i64 cu, .slice pa n ca, .bool bf, .slice ps m cb, .int .i64 al, .int .u8 sf] 125))
  have HPC : Hid (∀ w i, Below (W.alloc (.cells #[.int .i64 cu, .slice pa n ca, .bool bf, .slice ps m cb, .int .i64 al, .int .u8 sf] 125)).heap.size (W.alloc (.cells #[.int .i64 cu, .slice pa n ca, .bool bf, .slice ps m cb, .int .i64 al, .int .u8 sf] 125)) w → w.cell? ⟨W.heap.size, i, none⟩ = (#[.int .i64 cu, .slice pa n ca, .bool bf, .slice ps m cb, .int .i64 al, .int .u8 sf] : Array Value)[i]?) := Lib.hid fun w i hb => plan_cells hb i
  clear ha hs hg hsf
  have d0 : decide (next < 0) = true := decide_eq_true (by omega)
  clear h0
  go_enter Try.func13, Try.ntmps13
  go_upto_region 1 with fail
  generalize W.alloc (.cells #[.int .i64 cu, .slice pa n ca, .bool bf, .slice ps m cb, .int .i64 al, .int .u8 sf] 125) = w1 at *
  have q0 : w1.cell? ⟨W.heap.size, 0, none⟩ = some (.int .i64 cu) := HPC.out w1 0 (Below.refl _ _)
  have q1 : w1.cell? ⟨W.heap.size, 1, none⟩ = some (.slice pa n ca) := HPC.out w1 1 (Below.refl _ _)
  have q2 : w1.cell? ⟨W.heap.size, 2, none⟩ = some (.bool bf) := HPC.out w1 2 (Below.refl _ _)
  have q3 : w1.cell? ⟨W.heap.size, 3, none⟩ = some (.slice ps m cb) := HPC.out w1 3 (Below.refl _ _)
  have q4 : w1.cell? ⟨W.heap.size, 4, none⟩ = some (.int .i64 al) := HPC.out w1 4 (Below.refl _ _)
  have q5 : w1.cell? ⟨W.heap.size, 5, none⟩ = some (.int .u8 sf) := HPC.out w1 5 (Below.refl _ _)
  go_upto_region 2 with (go_at_call 74; refine (HBG.out _ HB0.out).mono ?_; rintro e w2 ⟨a, bb, vl, rfl, hb⟩; have HB2 := Lib.hid hb; clear hb)
  clear q0 q1 q2 q3 q4 q5
  have p2 := HPC.out w2 2 HB2.out
  have p4 := HPC.out w2 4 HB2.out
  replace p2 : w2.cell? ⟨W.heap.size, 2, none⟩ = some (.bool bf) := p2
  replace p4 : w2.cell? ⟨W.heap.size, 4, none⟩ = some (.int .i64 al) := p4
  go_wp2_with (go_at_call 75; refine (awake12 _).mono ?_; rintro e w3 ⟨rfl, hb⟩; have HB3 := Lib.hid (bthen HB2.out hb); clear hb)
  go_ret
  exact ⟨rfl, bthen HB0.out HB3.out⟩
set_option maxHeartbeats 2000000 in
set_option maxRecDepth 100000 in
theorem rises_far1 (ha : LongsAt W (.slice pa n ca) n z) (hs : ByteRow W (.slice ps m cb) m y) (hg : PlanOk cu al n m z) (hsf : 0 ≤ sf) (h0 : ¬ (next < 0)) (h1 : (1000 < next)) :
    Calls Try.prog 13 #[.agg #[.int .i64 cu, .slice pa n ca, .bool bf, .slice ps m cb, .int .i64 al, .int .u8 sf], .int .i64 next, .slice pm nm cm] W fun e w' => e = .returned (.bool true) ∧ Below W.heap.size W w' := by
  have HBG : Hid (∀ w1, Below W.heap.size W w1 → Calls Try.prog 74 #[.agg #[.int .i64 cu, .slice pa n ca, .bool bf, .slice ps m cb, .int .i64 al, .int .u8 sf]] w1 fun e w' => ∃ a bb vl, e = .returned (.tuple #[.pointer (some ⟨a, 0, none⟩), .pointer (some ⟨bb, 0, none⟩), vl, .bool true]) ∧ Below w1.heap.size w1 w') := Lib.hid fun w1 hb => (begun_ok (ha.keep hb) (hs.keep hb) hg hsf).mono fun e w' ⟨R, a, bb, cs, xs, alc, sh, st, left, vl, h1, h2⟩ => ⟨a, bb, vl, h1, h2.mv.below⟩
  have HB0 := Lib.hid (balloc (Below.refl _ W) (.cells #[.int .i64 cu, .slice pa n ca, .bool bf, .slice ps m cb, .int .i64 al, .int .u8 sf] 125))
  have HPC : Hid (∀ w i, Below (W.alloc (.cells #[.int .i64 cu, .slice pa n ca, .bool bf, .slice ps m cb, .int .i64 al, .int .u8 sf] 125)).heap.size (W.alloc (.cells #[.int .i64 cu, .slice pa n ca, .bool bf, .slice ps m cb, .int .i64 al, .int .u8 sf] 125)) w → w.cell? ⟨W.heap.size, i, none⟩ = (#[.int .i64 cu, .slice pa n ca, .bool bf, .slice ps m cb, .int .i64 al, .int .u8 sf] : Array Value)[i]?) := Lib.hid fun w i hb => plan_cells hb i
  clear ha hs hg hsf
  have d0 : decide (next < 0) = false := decide_eq_false (by omega)
  have d1 : decide (1000 < next) = true := decide_eq_true (by omega)
  clear h0 h1
  go_enter Try.func13, Try.ntmps13
  go_upto_region 1 with fail
  generalize W.alloc (.cells #[.int .i64 cu, .slice pa n ca, .bool bf, .slice ps m cb, .int .i64 al, .int .u8 sf] 125) = w1 at *
  have q0 : w1.cell? ⟨W.heap.size, 0, none⟩ = some (.int .i64 cu) := HPC.out w1 0 (Below.refl _ _)
  have q1 : w1.cell? ⟨W.heap.size, 1, none⟩ = some (.slice pa n ca) := HPC.out w1 1 (Below.refl _ _)
  have q2 : w1.cell? ⟨W.heap.size, 2, none⟩ = some (.bool bf) := HPC.out w1 2 (Below.refl _ _)
  have q3 : w1.cell? ⟨W.heap.size, 3, none⟩ = some (.slice ps m cb) := HPC.out w1 3 (Below.refl _ _)
  have q4 : w1.cell? ⟨W.heap.size, 4, none⟩ = some (.int .i64 al) := HPC.out w1 4 (Below.refl _ _)
  have q5 : w1.cell? ⟨W.heap.size, 5, none⟩ = some (.int .u8 sf) := HPC.out w1 5 (Below.refl _ _)
  go_upto_region 2 with (go_at_call 74; refine (HBG.out _ HB0.out).mono ?_; rintro e w2 ⟨a, bb, vl, rfl, hb⟩; have HB2 := Lib.hid hb; clear hb)
  clear q0 q1 q2 q3 q4 q5
  have p2 := HPC.out w2 2 HB2.out
  have p4 := HPC.out w2 4 HB2.out
  replace p2 : w2.cell? ⟨W.heap.size, 2, none⟩ = some (.bool bf) := p2
  replace p4 : w2.cell? ⟨W.heap.size, 4, none⟩ = some (.int .i64 al) := p4
  go_wp2_with (go_at_call 75; refine (awake12 _).mono ?_; rintro e w3 ⟨rfl, hb⟩; have HB3 := Lib.hid (bthen HB2.out hb); clear hb)
  go_ret
  exact ⟨rfl, bthen HB0.out HB3.out⟩
set_option maxHeartbeats 2000000 in
set_option maxRecDepth 100000 in
theorem rises_far2 (ha : LongsAt W (.slice pa n ca) n z) (hs : ByteRow W (.slice ps m cb) m y) (hg : PlanOk cu al n m z) (hsf : 0 ≤ sf) (h0 : ¬ (next < 0)) (h1 : ¬ (1000 < next)) (h2 : (bf = true)) :
    Calls Try.prog 13 #[.agg #[.int .i64 cu, .slice pa n ca, .bool bf, .slice ps m cb, .int .i64 al, .int .u8 sf], .int .i64 next, .slice pm nm cm] W fun e w' => e = .returned (.bool true) ∧ Below W.heap.size W w' := by
  have HBG : Hid (∀ w1, Below W.heap.size W w1 → Calls Try.prog 74 #[.agg #[.int .i64 cu, .slice pa n ca, .bool bf, .slice ps m cb, .int .i64 al, .int .u8 sf]] w1 fun e w' => ∃ a bb vl, e = .returned (.tuple #[.pointer (some ⟨a, 0, none⟩), .pointer (some ⟨bb, 0, none⟩), vl, .bool true]) ∧ Below w1.heap.size w1 w') := Lib.hid fun w1 hb => (begun_ok (ha.keep hb) (hs.keep hb) hg hsf).mono fun e w' ⟨R, a, bb, cs, xs, alc, sh, st, left, vl, h1, h2⟩ => ⟨a, bb, vl, h1, h2.mv.below⟩
  have HB0 := Lib.hid (balloc (Below.refl _ W) (.cells #[.int .i64 cu, .slice pa n ca, .bool bf, .slice ps m cb, .int .i64 al, .int .u8 sf] 125))
  have HPC : Hid (∀ w i, Below (W.alloc (.cells #[.int .i64 cu, .slice pa n ca, .bool bf, .slice ps m cb, .int .i64 al, .int .u8 sf] 125)).heap.size (W.alloc (.cells #[.int .i64 cu, .slice pa n ca, .bool bf, .slice ps m cb, .int .i64 al, .int .u8 sf] 125)) w → w.cell? ⟨W.heap.size, i, none⟩ = (#[.int .i64 cu, .slice pa n ca, .bool bf, .slice ps m cb, .int .i64 al, .int .u8 sf] : Array Value)[i]?) := Lib.hid fun w i hb => plan_cells hb i
  clear ha hs hg hsf
  have d0 : decide (next < 0) = false := decide_eq_false (by omega)
  have d1 : decide (1000 < next) = false := decide_eq_false (by omega)
  obtain rfl : bf = true := by cases bf <;> simp_all
  clear h0 h1
  go_enter Try.func13, Try.ntmps13
  go_upto_region 1 with fail
  generalize W.alloc (.cells #[.int .i64 cu, .slice pa n ca, .bool true, .slice ps m cb, .int .i64 al, .int .u8 sf] 125) = w1 at *
  have q0 : w1.cell? ⟨W.heap.size, 0, none⟩ = some (.int .i64 cu) := HPC.out w1 0 (Below.refl _ _)
  have q1 : w1.cell? ⟨W.heap.size, 1, none⟩ = some (.slice pa n ca) := HPC.out w1 1 (Below.refl _ _)
  have q2 : w1.cell? ⟨W.heap.size, 2, none⟩ = some (.bool true) := HPC.out w1 2 (Below.refl _ _)
  have q3 : w1.cell? ⟨W.heap.size, 3, none⟩ = some (.slice ps m cb) := HPC.out w1 3 (Below.refl _ _)
  have q4 : w1.cell? ⟨W.heap.size, 4, none⟩ = some (.int .i64 al) := HPC.out w1 4 (Below.refl _ _)
  have q5 : w1.cell? ⟨W.heap.size, 5, none⟩ = some (.int .u8 sf) := HPC.out w1 5 (Below.refl _ _)
  go_upto_region 2 with (go_at_call 74; refine (HBG.out _ HB0.out).mono ?_; rintro e w2 ⟨a, bb, vl, rfl, hb⟩; have HB2 := Lib.hid hb; clear hb)
  clear q0 q1 q2 q3 q4 q5
  have p2 := HPC.out w2 2 HB2.out
  have p4 := HPC.out w2 4 HB2.out
  replace p2 : w2.cell? ⟨W.heap.size, 2, none⟩ = some (.bool true) := p2
  replace p4 : w2.cell? ⟨W.heap.size, 4, none⟩ = some (.int .i64 al) := p4
  go_wp2_with (go_at_call 75; refine (awake12 _).mono ?_; rintro e w3 ⟨rfl, hb⟩; have HB3 := Lib.hid (bthen HB2.out hb); clear hb)
  go_ret
  exact ⟨rfl, bthen HB0.out HB3.out⟩
set_option maxHeartbeats 2000000 in
set_option maxRecDepth 100000 in
theorem rises_far3 (ha : LongsAt W (.slice pa n ca) n z) (hs : ByteRow W (.slice ps m cb) m y) (hg : PlanOk cu al n m z) (hsf : 0 ≤ sf) (h0 : ¬ (next < 0)) (h1 : ¬ (1000 < next)) (h2 : ¬ (bf = true)) (h3 : (al ≠ 0)) :
    Calls Try.prog 13 #[.agg #[.int .i64 cu, .slice pa n ca, .bool bf, .slice ps m cb, .int .i64 al, .int .u8 sf], .int .i64 next, .slice pm nm cm] W fun e w' => e = .returned (.bool true) ∧ Below W.heap.size W w' := by
  have HBG : Hid (∀ w1, Below W.heap.size W w1 → Calls Try.prog 74 #[.agg #[.int .i64 cu, .slice pa n ca, .bool bf, .slice ps m cb, .int .i64 al, .int .u8 sf]] w1 fun e w' => ∃ a bb vl, e = .returned (.tuple #[.pointer (some ⟨a, 0, none⟩), .pointer (some ⟨bb, 0, none⟩), vl, .bool true]) ∧ Below w1.heap.size w1 w') := Lib.hid fun w1 hb => (begun_ok (ha.keep hb) (hs.keep hb) hg hsf).mono fun e w' ⟨R, a, bb, cs, xs, alc, sh, st, left, vl, h1, h2⟩ => ⟨a, bb, vl, h1, h2.mv.below⟩
  have HB0 := Lib.hid (balloc (Below.refl _ W) (.cells #[.int .i64 cu, .slice pa n ca, .bool bf, .slice ps m cb, .int .i64 al, .int .u8 sf] 125))
  have HPC : Hid (∀ w i, Below (W.alloc (.cells #[.int .i64 cu, .slice pa n ca, .bool bf, .slice ps m cb, .int .i64 al, .int .u8 sf] 125)).heap.size (W.alloc (.cells #[.int .i64 cu, .slice pa n ca, .bool bf, .slice ps m cb, .int .i64 al, .int .u8 sf] 125)) w → w.cell? ⟨W.heap.size, i, none⟩ = (#[.int .i64 cu, .slice pa n ca, .bool bf, .slice ps m cb, .int .i64 al, .int .u8 sf] : Array Value)[i]?) := Lib.hid fun w i hb => plan_cells hb i
  clear ha hs hg hsf
  have d0 : decide (next < 0) = false := decide_eq_false (by omega)
  have d1 : decide (1000 < next) = false := decide_eq_false (by omega)
  obtain rfl : bf = false := by cases bf <;> simp_all
  have e3 : (al != 0) = true := by simpa using h3
  clear h0 h1 h3
  go_enter Try.func13, Try.ntmps13
  go_upto_region 1 with fail
  generalize W.alloc (.cells #[.int .i64 cu, .slice pa n ca, .bool false, .slice ps m cb, .int .i64 al, .int .u8 sf] 125) = w1 at *
  have q0 : w1.cell? ⟨W.heap.size, 0, none⟩ = some (.int .i64 cu) := HPC.out w1 0 (Below.refl _ _)
  have q1 : w1.cell? ⟨W.heap.size, 1, none⟩ = some (.slice pa n ca) := HPC.out w1 1 (Below.refl _ _)
  have q2 : w1.cell? ⟨W.heap.size, 2, none⟩ = some (.bool false) := HPC.out w1 2 (Below.refl _ _)
  have q3 : w1.cell? ⟨W.heap.size, 3, none⟩ = some (.slice ps m cb) := HPC.out w1 3 (Below.refl _ _)
  have q4 : w1.cell? ⟨W.heap.size, 4, none⟩ = some (.int .i64 al) := HPC.out w1 4 (Below.refl _ _)
  have q5 : w1.cell? ⟨W.heap.size, 5, none⟩ = some (.int .u8 sf) := HPC.out w1 5 (Below.refl _ _)
  go_upto_region 2 with (go_at_call 74; refine (HBG.out _ HB0.out).mono ?_; rintro e w2 ⟨a, bb, vl, rfl, hb⟩; have HB2 := Lib.hid hb; clear hb)
  clear q0 q1 q2 q3 q4 q5
  have p2 := HPC.out w2 2 HB2.out
  have p4 := HPC.out w2 4 HB2.out
  replace p2 : w2.cell? ⟨W.heap.size, 2, none⟩ = some (.bool false) := p2
  replace p4 : w2.cell? ⟨W.heap.size, 4, none⟩ = some (.int .i64 al) := p4
  go_wp2_with (go_at_call 75; refine (awake12 _).mono ?_; rintro e w3 ⟨rfl, hb⟩; have HB3 := Lib.hid (bthen HB2.out hb); clear hb)
  go_ret
  exact ⟨rfl, bthen HB0.out HB3.out⟩
set_option maxHeartbeats 2000000 in
set_option maxRecDepth 100000 in
theorem rises_far4 (ha : LongsAt W (.slice pa n ca) n z) (hs : ByteRow W (.slice ps m cb) m y) (hg : PlanOk cu al n m z) (hsf : 0 ≤ sf) (h0 : ¬ (next < 0)) (h1 : ¬ (1000 < next)) (h2 : ¬ (bf = true)) (h3 : ¬ (al ≠ 0)) (h4 : (30 < nm)) :
    Calls Try.prog 13 #[.agg #[.int .i64 cu, .slice pa n ca, .bool bf, .slice ps m cb, .int .i64 al, .int .u8 sf], .int .i64 next, .slice pm nm cm] W fun e w' => e = .returned (.bool true) ∧ Below W.heap.size W w' := by
  have HBG : Hid (∀ w1, Below W.heap.size W w1 → Calls Try.prog 74 #[.agg #[.int .i64 cu, .slice pa n ca, .bool bf, .slice ps m cb, .int .i64 al, .int .u8 sf]] w1 fun e w' => ∃ a bb vl, e = .returned (.tuple #[.pointer (some ⟨a, 0, none⟩), .pointer (some ⟨bb, 0, none⟩), vl, .bool true]) ∧ Below w1.heap.size w1 w') := Lib.hid fun w1 hb => (begun_ok (ha.keep hb) (hs.keep hb) hg hsf).mono fun e w' ⟨R, a, bb, cs, xs, alc, sh, st, left, vl, h1, h2⟩ => ⟨a, bb, vl, h1, h2.mv.below⟩
  have HB0 := Lib.hid (balloc (Below.refl _ W) (.cells #[.int .i64 cu, .slice pa n ca, .bool bf, .slice ps m cb, .int .i64 al, .int .u8 sf] 125))
  have HPC : Hid (∀ w i, Below (W.alloc (.cells #[.int .i64 cu, .slice pa n ca, .bool bf, .slice ps m cb, .int .i64 al, .int .u8 sf] 125)).heap.size (W.alloc (.cells #[.int .i64 cu, .slice pa n ca, .bool bf, .slice ps m cb, .int .i64 al, .int .u8 sf] 125)) w → w.cell? ⟨W.heap.size, i, none⟩ = (#[.int .i64 cu, .slice pa n ca, .bool bf, .slice ps m cb, .int .i64 al, .int .u8 sf] : Array Value)[i]?) := Lib.hid fun w i hb => plan_cells hb i
  clear ha hs hg hsf
  have d0 : decide (next < 0) = false := decide_eq_false (by omega)
  have d1 : decide (1000 < next) = false := decide_eq_false (by omega)
  obtain rfl : bf = false := by cases bf <;> simp_all
  have e3 : (al != 0) = false := by simpa using h3
  have d2 : decide ((30 : Int) < (nm : Int)) = true := decide_eq_true (by omega)
  have d3 : decide (30 < nm) = true := decide_eq_true (by omega)
  clear h0 h1 h3 h4
  go_enter Try.func13, Try.ntmps13
  go_upto_region 1 with fail
  generalize W.alloc (.cells #[.int .i64 cu, .slice pa n ca, .bool false, .slice ps m cb, .int .i64 al, .int .u8 sf] 125) = w1 at *
  have q0 : w1.cell? ⟨W.heap.size, 0, none⟩ = some (.int .i64 cu) := HPC.out w1 0 (Below.refl _ _)
  have q1 : w1.cell? ⟨W.heap.size, 1, none⟩ = some (.slice pa n ca) := HPC.out w1 1 (Below.refl _ _)
  have q2 : w1.cell? ⟨W.heap.size, 2, none⟩ = some (.bool false) := HPC.out w1 2 (Below.refl _ _)
  have q3 : w1.cell? ⟨W.heap.size, 3, none⟩ = some (.slice ps m cb) := HPC.out w1 3 (Below.refl _ _)
  have q4 : w1.cell? ⟨W.heap.size, 4, none⟩ = some (.int .i64 al) := HPC.out w1 4 (Below.refl _ _)
  have q5 : w1.cell? ⟨W.heap.size, 5, none⟩ = some (.int .u8 sf) := HPC.out w1 5 (Below.refl _ _)
  go_upto_region 2 with (go_at_call 74; refine (HBG.out _ HB0.out).mono ?_; rintro e w2 ⟨a, bb, vl, rfl, hb⟩; have HB2 := Lib.hid hb; clear hb)
  clear q0 q1 q2 q3 q4 q5
  have p2 := HPC.out w2 2 HB2.out
  have p4 := HPC.out w2 4 HB2.out
  replace p2 : w2.cell? ⟨W.heap.size, 2, none⟩ = some (.bool false) := p2
  replace p4 : w2.cell? ⟨W.heap.size, 4, none⟩ = some (.int .i64 al) := p4
  go_wp2_with (go_at_call 75; refine (awake12 _).mono ?_; rintro e w3 ⟨rfl, hb⟩; have HB3 := Lib.hid (bthen HB2.out hb); clear hb)
  go_ret
  exact ⟨rfl, bthen HB0.out HB3.out⟩
set_option maxHeartbeats 8000000 in
set_option maxRecDepth 100000 in
theorem rises_none (ha : LongsAt W (.slice pa n ca) n z) (hs : ByteRow W (.slice ps m cb) m y) (hg : PlanOk cu 0 n m z) (hsf : 0 ≤ sf) (hn : 0 ≤ next ∧ next ≤ 1000) :
    Calls Try.prog 13 #[.agg #[.int .i64 cu, .slice pa n ca, .bool false, .slice ps m cb, .int .i64 0, .int .u8 sf], .int .i64 next, .slice pm 0 cm] W fun e w' => e = .returned (.bool true) ∧ Below W.heap.size W w' := by
  have HBG : Hid (∀ w1, Below W.heap.size W w1 → Calls Try.prog 74 #[.agg #[.int .i64 cu, .slice pa n ca, .bool false, .slice ps m cb, .int .i64 0, .int .u8 sf]] w1 fun e w' => ∃ R a bb cs xs alc sh st left vl, e = .returned (.tuple #[.pointer (some ⟨a, 0, none⟩), .pointer (some ⟨bb, 0, none⟩), vl, .bool true]) ∧ BgF R w1 w' a bb cs xs alc sh st left vl cu 0 n z false) := Lib.hid fun w1 hb => begun_ok (ha.keep hb) (hs.keep hb) hg hsf
  have HB0 := Lib.hid (balloc (Below.refl _ W) (.cells #[.int .i64 cu, .slice pa n ca, .bool false, .slice ps m cb, .int .i64 0, .int .u8 sf] 125))
  have HG := Lib.hid hg
  have hn8 := hg.n8
  have d1 : decide (next < 0) = false := decide_eq_false (by omega)
  have d2 : decide (1000 < next) = false := decide_eq_false (by omega)
  have HPC : Hid (∀ w i, Below (W.alloc (.cells #[.int .i64 cu, .slice pa n ca, .bool false, .slice ps m cb, .int .i64 0, .int .u8 sf] 125)).heap.size (W.alloc (.cells #[.int .i64 cu, .slice pa n ca, .bool false, .slice ps m cb, .int .i64 0, .int .u8 sf] 125)) w → w.cell? ⟨W.heap.size, i, none⟩ = (#[.int .i64 cu, .slice pa n ca, .bool false, .slice ps m cb, .int .i64 0, .int .u8 sf] : Array Value)[i]?) := Lib.hid fun w i hb => plan_cells hb i
  clear ha hs hg hsf 
  go_enter Try.func13, Try.ntmps13
  go_upto_region 1 with fail
  generalize W.alloc (.cells #[.int .i64 cu, .slice pa n ca, .bool false, .slice ps m cb, .int .i64 0, .int .u8 sf] 125) = w1 at *
  have q0 : w1.cell? ⟨W.heap.size, 0, none⟩ = some (.int .i64 cu) := HPC.out w1 0 (Below.refl _ _)
  have q1 : w1.cell? ⟨W.heap.size, 1, none⟩ = some (.slice pa n ca) := HPC.out w1 1 (Below.refl _ _)
  have q2 : w1.cell? ⟨W.heap.size, 2, none⟩ = some (.bool false) := HPC.out w1 2 (Below.refl _ _)
  have q3 : w1.cell? ⟨W.heap.size, 3, none⟩ = some (.slice ps m cb) := HPC.out w1 3 (Below.refl _ _)
  have q4 : w1.cell? ⟨W.heap.size, 4, none⟩ = some (.int .i64 0) := HPC.out w1 4 (Below.refl _ _)
  have q5 : w1.cell? ⟨W.heap.size, 5, none⟩ = some (.int .u8 sf) := HPC.out w1 5 (Below.refl _ _)
  go_upto_region 2 with (go_at_call 74; refine (HBG.out _ HB0.out).mono ?_; rintro e w2 ⟨R, a, bb, cs, xs, alc, sh, st, left, vl, rfl, hf⟩; have HF := Lib.hid hf; clear hf)
  clear q0 q1 q2 q3 q4 q5
  have p2 : w2.cell? ⟨W.heap.size, 2, none⟩ = some (.bool false) := HPC.out w2 2 HF.out.mv.below
  have p4 : w2.cell? ⟨W.heap.size, 4, none⟩ = some (.int .i64 0) := HPC.out w2 4 HF.out.mv.below
  have hsn : sh = none := by
    have := HF.out.isb
    cases sh with
    | none => rfl
    | some t => cases this
  subst hsn
  have HXS : Hid (XsI n alc xs 0) := Lib.hid ⟨HF.out.len, HF.out.al, fun i hi => by
    rcases i with _ | i
    · exact ⟨cu, HF.out.pre 0 hi, by have := HG.out.cu; omega⟩
    · exact ⟨z i, by rw [HF.out.pre (i + 1) hi, List.getElem?_cons_succ, zsB_at z (by omega)], by have := HG.out.z i (by omega); omega⟩⟩
  have HBW := Lib.hid HF.out.bw
  have HLO := Lib.hid HF.out.lo
  have HVL : Hid (∀ xs : List Int, (valsOf xs (idsB n)).length = n) := Lib.hid fun xs => by rw [vals_len, idsB_len]
  go_upto_region 5 with (first
    | (go_at_call 79; refine (pprobe_some bb next (by omega) (idsB n) _).mono ?_; rintro e w4 ⟨ts0, rfl, hf, hb⟩; have HP0 := Lib.hid hf; have HI0 := Lib.hid (pb_info hf.f.size); have H4 := Lib.hid (HF.out.mv.keep hb); clear hf hb)
    | (refine wpList_alloc_pb rfl rfl ?_; intro zs hz; have H5 := Lib.hid (H4.out.boxNew zs 134); generalize w4.alloc (.cells zs 134) = w5 at *; generalize w4.heap.size = qb at *)
    | (refine wpList_store_row rfl 134 (.tmp 11) (.tmp 54) rfl qb ts0 rfl rfl 134 _ H5.out.boxIs HI0.out (by rw [HP0.out.q.1]; exact hz) HP0.out.q.2 ?_; have H6 := Lib.hid (H5.out.boxRow ts0); generalize World.setRow _ qb ts0 = w6 at *))
  have HRI : Hid (RiI R w1 a bb qb n alc next 0 (n + 2) w6) := Lib.hid ⟨xs, ts0, pr0 next, st, HP0.out, ⟨rfl, .inl ⟨rfl, rfl, by rw [HVL.out]⟩⟩, HXS.out, HF.out.st0.1, by have := HF.out.st0.2; omega, H6.out⟩
  clear H4 H5 H6 HP0 HI0 hz p2 p4 HXS HF d1 d2 
  try simp only [Act.put, List.setIfInBounds_toArray, List.set_cons_zero, List.set_cons_succ]
  go_wp2_with fail
  go_loopw [12] (fun i wl => ∃ j r : Nat, j + r ≤ n + 2 ∧ i = .int .i64 j ∧ Hid (RiI R w1 a bb qb n alc next j r wl)) (fun i _ => (n + 2 - intOf i).toNat)
  case atStart => exact ⟨0, n + 2, by omega, rfl, HRI⟩
  case round =>
    clear HRI
    obtain ⟨j, r, hj, rfl, HJ⟩ := hrel
    obtain ⟨xs, us, p, st, hpf, hri, hxi, hs0, hs1, hmv⟩ := HJ.out
    have HP := Lib.hid hpf
    have HPI := Lib.hid (pb_info hpf.f.size)
    have HM := Lib.hid hmv
    by_cases hs : p.stg = 0
    · as_aux_lemma =>
      have hb : (p.stg == 0) = true := by simpa using hs
      have HB := Lib.hid hb
      obtain ⟨q, k, hE, hqn, hqs, hqf, hqk⟩ := ends_none (vs := valsOf xs (idsB n)) (c := cOf xs 0) (next := next) (fun x hx => by have := hxi.le x hx; omega)
      have hle := hri.le hs (fun x hx => by have := hxi.le x hx; omega)
      rw [← hqf] at hle
      have hpn := hri.1
      have hav : availP p.stg p.next p.found = p.found := by unfold availP; rw [if_pos hs]
      have HAV := Lib.hid hav
      have HPN := Lib.hid hpn
      have HLK : Hid (∀ w, Mv (R.box w1.heap.size qb us 134) w1 w a xs st → Calls Try.prog 78 #[.pointer (some ⟨bb, 0, none⟩), .pointer (some ⟨a, 0, none⟩), .int .i64 next] w fun e w' => e = .returned (.tuple #[.int .i64 q.found, .nilIface]) ∧ Mv (R.box w1.heap.size qb us 134) w1 w' a xs (st + k)) := Lib.hid fun w h => by
        have hE' : Ends (yOf xs alc) (valsOf xs (idsB n)) (cOf xs 0) (sbOf xs none) (pr0 next) q k := by rw [hxi.al]; exact hE
        refine plook_ok (R := R.box w1.heap.size qb us 134) (sh := none) ⟨fun w h => HBW.out.blk w h.1, HBW.out.f, fun q f k h => (by cases h), HBW.out.len⟩ (hxi.inb HLO.out) h (by omega) hE' (by rw [hqs]; decide) hqn hs0 ?_
        rw [HVL.out] at hqk
        omega
      have dl : decide (p.found ≤ q.found) = true := decide_eq_true hle
      have HM0 := Lib.hid hmv
      clear hb hs hpf hri hxi hmv HJ HM hE hqn hqs hqf hqk hle hpn hav
      go_wp2_with (first
        | (refine wpList_load_row rfl 134 (.tmp 11) rfl qb rfl 134 _ (0, 0) _ HM0.out.boxIs Try.underlying134 rfl HPI.out ?_)
        | (go_at_call 81; refine (pdone HP.out.f.c1 _).mono ?_; rintro e w2' ⟨rfl, hb⟩; rw [HB.out]; replace HM0 := Lib.hid (HM0.out.keep hb); clear hb)
        | (go_at_call 78; refine (HLK.out _ HM0.out).mono ?_; rintro e w3 ⟨rfl, hm⟩; replace HM0 := Lib.hid hm; clear hm)
        | (go_at_call 75; refine (awake12 _).mono ?_; rintro e wB ⟨rfl, hb⟩; replace HM0 := Lib.hid (HM0.out.keep hb); clear hb)
        | (refine wpList_load_row_g (by first | rfl | kernel_rfl) 134 (.tmp 11) rfl qb rfl 134 us (0, 0) _ HM0.out.boxIs Try.underlying134 rfl HPI.out ?_)
        | (go_at_call 82; refine (pavail HP.out.f (by rw [HPN.out]; omega) _).mono ?_; rintro e wC ⟨rfl, hb⟩; rw [HAV.out]; replace HM0 := Lib.hid (HM0.out.keep hb); clear hb))
      go_ret
      exact ⟨rfl, bthen HB0.out HM0.out.below⟩
    · as_aux_lemma =>
      have hb : (p.stg == 0) = false := by simpa using hs
      have HB := Lib.hid hb
      obtain ⟨hok, r', hr', hri'⟩ := hri.ok hs
      have hr0 : 0 < r := by omega
      have dj : decide ((j : Int) < 100) = true := decide_eq_true (by omega)
      have HC : Hid (StepC 83 (R.box w1.heap.size qb us 134) w1 a xs st us (fun ts' => PrF ts' (some ⟨bb, 0, none⟩) (idsB n) (stepB xs 0 alc none (idsB n) p))) := Lib.hid (pstep_any (R := R.box w1.heap.size qb us 134) (sh := none) HP.out ⟨fun w h => HBW.out.blk w h.1, HBW.out.f, fun q f k h => (by cases h), HBW.out.len⟩ (hxi.inb HLO.out) hok hs0 (by omega))
      have HRN : Hid (RsI next (cOf xs 0) (valsOf xs (idsB n)) (stepB xs 0 alc none (idsB n) p) r' ∧ XsI n alc xs (j + 1)) := Lib.hid ⟨by
        unfold stepB
        rw [hxi.al]
        exact hri', hxi.more⟩
      have hsb : 0 ≤ st ∧ st ≤ 1000 + 2 * (j : Int) := ⟨hs0, hs1⟩
      have HSB := Lib.hid hsb
      clear hb hs hok hri hri' hpf hmv HJ hxi hsb hs0 hs1
      go_wp2_with (first
        | (refine wpList_load_row rfl 134 (.tmp 11) rfl qb rfl 134 _ (0, 0) _ HM.out.boxIs Try.underlying134 rfl HPI.out ?_)
        | (go_at_call 81; refine (pdone HP.out.f.c1 _).mono ?_; rintro e wD ⟨rfl, hb⟩; rw [HB.out]; replace HM := Lib.hid (HM.out.keep hb); clear hb)
        | (go_at_call 83; refine (HC.out _ (fun w h => h) _ HM.out).mono ?_; rintro e w4 ⟨vs, rfl, hq, hm⟩; have HV := Lib.hid hq; have HVI := Lib.hid (pb_info hq.f.size); have H4 := Lib.hid hm; clear hq hm)
        | (refine wpList_alloc_pb rfl rfl ?_; intro zs hz; have H5 := Lib.hid (H4.out.boxNew zs 134); generalize w4.alloc (.cells zs 134) = w5 at *; generalize w4.heap.size = nb at *)
        | (refine wpList_store_row rfl 134 (.tmp 16) (.tmp 101) rfl nb vs rfl rfl 134 _ H5.out.boxIs HVI.out (by rw [HV.out.q.1]; exact hz) HV.out.q.2 ?_; have H6 := Lib.hid (H5.out.boxRow vs); generalize World.setRow _ nb vs = w6 at *)
        | (refine wpList_load_row rfl 134 (.tmp 16) rfl nb rfl 134 _ (0, 0) _ H6.out.boxIs Try.underlying134 rfl HVI.out ?_)
        | (refine wpList_store_row rfl 134 (.tmp 11) (.tmp 105) rfl qb vs rfl rfl 134 _ H6.out.inv.1.2.1 HVI.out (by rw [HV.out.q.1]; exact HP.out.q.1) HV.out.q.2 ?_; have H7 := Lib.hid ((((H6.out.le Rest.bb).boxRow vs).le Rest.bb).boxDrop); generalize World.setRow _ qb vs = w7 at *))
      have HJ2 : Hid (RiI R w1 a bb qb n alc next (j + 1) r' w7) := Lib.hid ⟨_, vs, _, _, HV.out, HRN.out.1, HRN.out.2, by have := HSB.out.1; omega, by have := HSB.out.2; omega, H7.out⟩
      try simp only [Act.put, List.setIfInBounds_toArray, List.set_cons_zero, List.set_cons_succ]
      go_wp2_with fail
      first
        | exact ⟨⟨j + 1, r', by omega, by go_num, HJ2⟩, by simp [intOf]; omega⟩
        | (refine ⟨⟨_, _, _, _, _, _, _, _, _, _, _, _, _, _, _, _, _, _, _, _, _, _, _, _, _, _, _, _, _, _, _, _, _, _, _, _, _, _, _, _, _, _, _, _, _, _, _, _, _, _, _, _, _, _, _, _, _, _, ⟨j + 1, r', by omega, ?e, HJ2⟩, rfl⟩, ?m⟩
           case e => go_num
           case m => simp [intOf]; omega)
set_option maxHeartbeats 8000000 in
set_option maxRecDepth 100000 in
theorem rises_some (ha : LongsAt W (.slice pa n ca) n z) (hs : ByteRow W (.slice ps m cb) m y) (hg : PlanOk cu 0 n m z) (hsf : 0 ≤ sf) (hn : 0 ≤ next ∧ next ≤ 1000) (hm : ByteRow W (.slice pm nm cm) nm u) (hnm : 0 < nm) (hnm2 : nm ≤ 30) :
    Calls Try.prog 13 #[.agg #[.int .i64 cu, .slice pa n ca, .bool false, .slice ps m cb, .int .i64 0, .int .u8 sf], .int .i64 next, .slice pm nm cm] W fun e w' => e = .returned (.bool true) ∧ Below W.heap.size W w' := by
  have HBG : Hid (∀ w1, Below W.heap.size W w1 → Calls Try.prog 74 #[.agg #[.int .i64 cu, .slice pa n ca, .bool false, .slice ps m cb, .int .i64 0, .int .u8 sf]] w1 fun e w' => ∃ R a bb cs xs alc sh st left vl, e = .returned (.tuple #[.pointer (some ⟨a, 0, none⟩), .pointer (some ⟨bb, 0, none⟩), vl, .bool true]) ∧ BgF R w1 w' a bb cs xs alc sh st left vl cu 0 n z false) := Lib.hid fun w1 hb => begun_ok (ha.keep hb) (hs.keep hb) hg hsf
  have HB0 := Lib.hid (balloc (Below.refl _ W) (.cells #[.int .i64 cu, .slice pa n ca, .bool false, .slice ps m cb, .int .i64 0, .int .u8 sf] 125))
  have HG := Lib.hid hg
  have hn8 := hg.n8
  have d1 : decide (next < 0) = false := decide_eq_false (by omega)
  have d2 : decide (1000 < next) = false := decide_eq_false (by omega)
  have d3 : decide ((30 : Int) < (nm : Int)) = false := decide_eq_false (by omega)
  have d4 : decide (30 < nm) = false := decide_eq_false (by omega)
  have d5 : decide ((0 : Int) < (nm : Int)) = true := decide_eq_true (by omega)
  have d6 : decide (0 < nm) = true := decide_eq_true (by omega)
  have HMR : Hid (∃ b off, pm = some ⟨b, off, none⟩ ∧ ∀ j, j < nm → W.cell? ⟨b, off + j, none⟩ = some (.int .u8 (u j)) ∧ 0 ≤ u j ∧ u j ≤ 255) := Lib.hid (by
    obtain ⟨p', c', he, _, h⟩ := hm
    cases he
    exact h.resolve_left (by omega))
  have HPC : Hid (∀ w i, Below (W.alloc (.cells #[.int .i64 cu, .slice pa n ca, .bool false, .slice ps m cb, .int .i64 0, .int .u8 sf] 125)).heap.size (W.alloc (.cells #[.int .i64 cu, .slice pa n ca, .bool false, .slice ps m cb, .int .i64 0, .int .u8 sf] 125)) w → w.cell? ⟨W.heap.size, i, none⟩ = (#[.int .i64 cu, .slice pa n ca, .bool false, .slice ps m cb, .int .i64 0, .int .u8 sf] : Array Value)[i]?) := Lib.hid fun w i hb => plan_cells hb i
  clear ha hs hg hsf hm
  go_enter Try.func13, Try.ntmps13
  go_upto_region 1 with fail
  generalize W.alloc (.cells #[.int .i64 cu, .slice pa n ca, .bool false, .slice ps m cb, .int .i64 0, .int .u8 sf] 125) = w1 at *
  have q0 : w1.cell? ⟨W.heap.size, 0, none⟩ = some (.int .i64 cu) := HPC.out w1 0 (Below.refl _ _)
  have q1 : w1.cell? ⟨W.heap.size, 1, none⟩ = some (.slice pa n ca) := HPC.out w1 1 (Below.refl _ _)
  have q2 : w1.cell? ⟨W.heap.size, 2, none⟩ = some (.bool false) := HPC.out w1 2 (Below.refl _ _)
  have q3 : w1.cell? ⟨W.heap.size, 3, none⟩ = some (.slice ps m cb) := HPC.out w1 3 (Below.refl _ _)
  have q4 : w1.cell? ⟨W.heap.size, 4, none⟩ = some (.int .i64 0) := HPC.out w1 4 (Below.refl _ _)
  have q5 : w1.cell? ⟨W.heap.size, 5, none⟩ = some (.int .u8 sf) := HPC.out w1 5 (Below.refl _ _)
  go_upto_region 2 with (go_at_call 74; refine (HBG.out _ HB0.out).mono ?_; rintro e w2 ⟨R, a, bb, cs, xs, alc, sh, st, left, vl, rfl, hf⟩; have HF := Lib.hid hf; clear hf)
  clear q0 q1 q2 q3 q4 q5
  have p2 : w2.cell? ⟨W.heap.size, 2, none⟩ = some (.bool false) := HPC.out w2 2 HF.out.mv.below
  have p4 : w2.cell? ⟨W.heap.size, 4, none⟩ = some (.int .i64 0) := HPC.out w2 4 HF.out.mv.below
  have hsn : sh = none := by
    have := HF.out.isb
    cases sh with
    | none => rfl
    | some t => cases this
  subst hsn
  have HXS : Hid (XsI n alc xs 0) := Lib.hid ⟨HF.out.len, HF.out.al, fun i hi => by
    rcases i with _ | i
    · exact ⟨cu, HF.out.pre 0 hi, by have := HG.out.cu; omega⟩
    · exact ⟨z i, by rw [HF.out.pre (i + 1) hi, List.getElem?_cons_succ, zsB_at z (by omega)], by have := HG.out.z i (by omega); omega⟩⟩
  have HBW := Lib.hid HF.out.bw
  have HLO := Lib.hid HF.out.lo
  have HVL : Hid (∀ xs : List Int, (valsOf xs (idsB n)).length = n) := Lib.hid fun xs => by rw [vals_len, idsB_len]
  go_upto_region 5 with (first
    | (go_at_call 79; refine (pprobe_some bb next (by omega) (idsB n) _).mono ?_; rintro e w4 ⟨ts0, rfl, hf, hb⟩; have HP0 := Lib.hid hf; have HI0 := Lib.hid (pb_info hf.f.size); have H4 := Lib.hid (HF.out.mv.keep hb); clear hf hb)
    | (refine wpList_alloc_pb rfl rfl ?_; intro zs hz; have H5 := Lib.hid (H4.out.boxNew zs 134); generalize w4.alloc (.cells zs 134) = w5 at *; generalize w4.heap.size = qb at *)
    | (refine wpList_store_row rfl 134 (.tmp 11) (.tmp 54) rfl qb ts0 rfl rfl 134 _ H5.out.boxIs HI0.out (by rw [HP0.out.q.1]; exact hz) HP0.out.q.2 ?_; have H6 := Lib.hid (H5.out.boxRow ts0); generalize World.setRow _ qb ts0 = w6 at *))
  have HRI : Hid (RiI R w1 a bb qb n alc next 0 (n + 2) w6) := Lib.hid ⟨xs, ts0, pr0 next, st, HP0.out, ⟨rfl, .inl ⟨rfl, rfl, by rw [HVL.out]⟩⟩, HXS.out, HF.out.st0.1, by have := HF.out.st0.2; omega, H6.out⟩
  clear H4 H5 H6 HP0 HI0 hz p2 p4 HXS HF d1 d2 d3 d4
  try simp only [Act.put, List.setIfInBounds_toArray, List.set_cons_zero, List.set_cons_succ]
  go_wp2_with fail
  go_loopw [12] (fun i wl => ∃ j r : Nat, j + r ≤ n + 2 ∧ i = .int .i64 j ∧ Hid (RiI R w1 a bb qb n alc next j r wl)) (fun i _ => (n + 2 - intOf i).toNat)
  case atStart => exact ⟨0, n + 2, by omega, rfl, HRI⟩
  case round =>
    clear HRI
    obtain ⟨j, r, hj, rfl, HJ⟩ := hrel
    obtain ⟨xs, us, p, st, hpf, hri, hxi, hs0, hs1, hmv⟩ := HJ.out
    have HP := Lib.hid hpf
    have HPI := Lib.hid (pb_info hpf.f.size)
    have HM := Lib.hid hmv
    by_cases hs : p.stg = 0
    · as_aux_lemma =>
      have hb : (p.stg == 0) = true := by simpa using hs
      have HB := Lib.hid hb
      obtain ⟨q, k, hE, hqn, hqs, hqf, hqk⟩ := ends_none (vs := valsOf xs (idsB n)) (c := cOf xs 0) (next := next) (fun x hx => by have := hxi.le x hx; omega)
      have hle := hri.le hs (fun x hx => by have := hxi.le x hx; omega)
      rw [← hqf] at hle
      have hpn := hri.1
      have hav : availP p.stg p.next p.found = p.found := by unfold availP; rw [if_pos hs]
      have HAV := Lib.hid hav
      have HPN := Lib.hid hpn
      have HLK : Hid (∀ w, Mv (R.box w1.heap.size qb us 134) w1 w a xs st → Calls Try.prog 78 #[.pointer (some ⟨bb, 0, none⟩), .pointer (some ⟨a, 0, none⟩), .int .i64 next] w fun e w' => e = .returned (.tuple #[.int .i64 q.found, .nilIface]) ∧ Mv (R.box w1.heap.size qb us 134) w1 w' a xs (st + k)) := Lib.hid fun w h => by
        have hE' : Ends (yOf xs alc) (valsOf xs (idsB n)) (cOf xs 0) (sbOf xs none) (pr0 next) q k := by rw [hxi.al]; exact hE
        refine plook_ok (R := R.box w1.heap.size qb us 134) (sh := none) ⟨fun w h => HBW.out.blk w h.1, HBW.out.f, fun q f k h => (by cases h), HBW.out.len⟩ (hxi.inb HLO.out) h (by omega) hE' (by rw [hqs]; decide) hqn hs0 ?_
        rw [HVL.out] at hqk
        omega
      have dl : decide (p.found ≤ q.found) = true := decide_eq_true hle
      have HM0 := Lib.hid hmv
      clear hb hs hpf hri hxi hmv HJ HM hE hqn hqs hqf hqk hle hpn hav
      go_wp2_with (first
        | (refine wpList_load_row rfl 134 (.tmp 11) rfl qb rfl 134 _ (0, 0) _ HM0.out.boxIs Try.underlying134 rfl HPI.out ?_)
        | (go_at_call 81; refine (pdone HP.out.f.c1 _).mono ?_; rintro e w2' ⟨rfl, hb⟩; rw [HB.out]; replace HM0 := Lib.hid (HM0.out.keep hb); clear hb)
        | (go_at_call 78; refine (HLK.out _ HM0.out).mono ?_; rintro e w3 ⟨rfl, hm⟩; replace HM0 := Lib.hid hm; clear hm)
        | (go_at_call 75; refine (awake12 _).mono ?_; rintro e wB ⟨rfl, hb⟩; replace HM0 := Lib.hid (HM0.out.keep hb); clear hb)
        | (refine wpList_load_row_g (by first | rfl | kernel_rfl) 134 (.tmp 11) rfl qb rfl 134 us (0, 0) _ HM0.out.boxIs Try.underlying134 rfl HPI.out ?_)
        | (go_at_call 82; refine (pavail HP.out.f (by rw [HPN.out]; omega) _).mono ?_; rintro e wC ⟨rfl, hb⟩; rw [HAV.out]; replace HM0 := Lib.hid (HM0.out.keep hb); clear hb))
      go_ret
      exact ⟨rfl, bthen HB0.out HM0.out.below⟩
    · as_aux_lemma =>
      have hb : (p.stg == 0) = false := by simpa using hs
      have HB := Lib.hid hb
      obtain ⟨hok, r', hr', hri'⟩ := hri.ok hs
      have hr0 : 0 < r := by omega
      have dj : decide ((j : Int) < 100) = true := decide_eq_true (by omega)
      obtain ⟨t, ht⟩ : ∃ t : Nat, j % nm = t := ⟨_, rfl⟩
      have htl : t < nm := by rw [← ht]; exact Nat.mod_lt _ hnm
      have htm : ((j : Int)).tmod (nm : Int) = (t : Int) := by rw [Int.tmod_eq_emod_of_nonneg (by omega), ← ht]; rfl
      obtain ⟨b, off, hpm, hcc⟩ := HMR.out
      subst hpm
      obtain ⟨cm0, u0, u1⟩ := hcc t htl
      obtain ⟨id, hid⟩ : ∃ id : Nat, u t % ((n : Int) + 1) = id := ⟨(u t % ((n : Int) + 1)).toNat, by have := Int.emod_nonneg (u t) (show (n : Int) + 1 ≠ 0 by omega); omega⟩
      have hid1 : id < n + 1 := by have := Int.emod_lt_of_pos (u t) (show 0 < (n : Int) + 1 by omega); omega
      have hidt : (u t).tmod ((n : Int) + 1) = (id : Int) := by rw [Int.tmod_eq_emod_of_nonneg u0]; exact hid
      obtain ⟨d, hd⟩ : ∃ d : Int, u t % 3 = d := ⟨_, rfl⟩
      have hd2 : 0 ≤ d ∧ d ≤ 2 := by omega
      have hdt : (u t).tmod 3 = d := by rw [Int.tmod_eq_emod_of_nonneg u0]; exact hd
      obtain ⟨x, hx, hx1, hx2⟩ := hxi.v id hid1
      obtain ⟨hxi2, hri2⟩ := hxi.add HLO.out hid1 hx hd2 hri
      obtain ⟨hok2, r2, hr2, hri3⟩ := hri2.ok hs
      have HAD : Hid (∀ w, Mv (R.box w1.heap.size qb us 134) w1 w a xs st → Calls Try.prog 34 #[.pointer (some ⟨a, 0, none⟩), .int .i64 id, .int .i64 d] w fun e w' => e = .returned (.tuple #[.int .i64 (x + d), .nilIface]) ∧ Mv (R.box w1.heap.size qb us 134) w1 w' a (xs.set id (x + d)) (st + 1)) := Lib.hid fun w h => add_mv h id x d hx (by omega) (by omega) (by omega) hs0 (by omega)
      have HC : Hid (StepC 83 (R.box w1.heap.size qb us 134) w1 a (xs.set id (x + d)) (st + 1) us (fun ts' => PrF ts' (some ⟨bb, 0, none⟩) (idsB n) (stepB (xs.set id (x + d)) 0 alc none (idsB n) p))) := Lib.hid (pstep_any (R := R.box w1.heap.size qb us 134) (sh := none) HP.out ⟨fun w h => HBW.out.blk w h.1, HBW.out.f, fun q f k h => (by cases h), HBW.out.len⟩ (hxi2.inb HLO.out) hok2 (by omega) (by omega))
      have HRN : Hid (RsI next (cOf (xs.set id (x + d)) 0) (valsOf (xs.set id (x + d)) (idsB n)) (stepB (xs.set id (x + d)) 0 alc none (idsB n) p) r2 ∧ XsI n alc (xs.set id (x + d)) (j + 1)) := Lib.hid ⟨by
        unfold stepB
        rw [hxi2.al]
        exact hri3, hxi2⟩
      have hsb : 0 ≤ st ∧ st ≤ 1000 + 2 * (j : Int) := ⟨hs0, hs1⟩
      have HSB := Lib.hid hsb
      have HEL : Hid (∀ w, Below w1.heap.size w1 w → w.cell? ⟨b, off + t, none⟩ = some (.int .u8 (u t)) ∧ w.cell? ⟨W.heap.size, 1, none⟩ = some (.slice pa n ca)) := Lib.hid fun w hb => ⟨keepc (bthen HB0.out hb) cm0, HPC.out w 1 hb⟩
      have hr2' : r2 < r := hr2
      clear hr' hri' hok
      have hidb : (id : Int) ≤ 8 := by omega
      have htb : (t : Int) < (nm : Int) := by omega
      clear hb hs hri hpf hmv HJ hxi hsb hs0 hs1 hx hx1 hx2 hxi2 hri2 hok2 hri3 hid hd ht hcc cm0 hr2
      generalize u t = ut at *
      generalize xs.set id (x + d) = xs2 at *
      generalize x + d = xd at *
      go_upto_region 9 with (first
        | (refine wpList_load_row rfl 134 (.tmp 11) rfl qb rfl 134 _ (0, 0) _ HM.out.boxIs Try.underlying134 rfl HPI.out ?_)
        | (go_at_call 81; refine (pdone HP.out.f.c1 _).mono ?_; rintro e wD ⟨rfl, hb⟩; rw [HB.out]; have HM2 := Lib.hid (HM.out.keep hb); clear hb))
      have n1 : ∀ x : Later wD, x.to.cell? ⟨W.heap.size, 1, none⟩ = some (.slice pa n ca) := fun x => (HEL.out _ (HM2.out.keep x.below).below).2
      have n2 : ∀ x : Later wD, x.to.cell? ⟨b, off + t, none⟩ = some (.int .u8 ut) := fun x => (HEL.out _ (HM2.out.keep x.below).below).1
      refine wp_region_later (by kernel_rfl) (by kernel_rfl) ?_
      repeat (go_big_quiet_step (fail))
      refine wpQuiet_nil ?_
      intro w3 hw'
      obtain ⟨⟨w3', hb3⟩, hw3⟩ := hw'
      obtain rfl : w3 = w3' := hw3
      clear HM
      have HM := Lib.hid (HM2.out.keep hb3)
      obtain ⟨e1, _⟩ := HEL.out w3 HM.out.below
      clear n1 n2 hb3
      go_upto_region 13 with (go_at_call 34; refine (HAD.out _ HM.out).mono ?_; rintro e wE ⟨rfl, hm⟩; have HME := Lib.hid hm; clear hm)
      clear HM HM2 e1
      have HM := Lib.hid HME.out
      clear HME
      obtain ⟨r', hrr⟩ : ∃ r', r' = r2 := ⟨_, rfl⟩
      subst hrr
      have hr' := hr2'
      go_wp2_with (first
        | (refine wpList_load_row rfl 134 (.tmp 11) rfl qb rfl 134 _ (0, 0) _ HM.out.boxIs Try.underlying134 rfl HPI.out ?_)
        | (go_at_call 81; refine (pdone HP.out.f.c1 _).mono ?_; rintro e wD ⟨rfl, hb⟩; rw [HB.out]; replace HM := Lib.hid (HM.out.keep hb); clear hb)
        | (go_at_call 83; refine (HC.out _ (fun w h => h) _ HM.out).mono ?_; rintro e w4 ⟨vs, rfl, hq, hm⟩; have HV := Lib.hid hq; have HVI := Lib.hid (pb_info hq.f.size); have H4 := Lib.hid hm; clear hq hm)
        | (refine wpList_alloc_pb rfl rfl ?_; intro zs hz; have H5 := Lib.hid (H4.out.boxNew zs 134); generalize w4.alloc (.cells zs 134) = w5 at *; generalize w4.heap.size = nb at *)
        | (refine wpList_store_row rfl 134 (.tmp 16) (.tmp 101) rfl nb vs rfl rfl 134 _ H5.out.boxIs HVI.out (by rw [HV.out.q.1]; exact hz) HV.out.q.2 ?_; have H6 := Lib.hid (H5.out.boxRow vs); generalize World.setRow _ nb vs = w6 at *)
        | (refine wpList_load_row rfl 134 (.tmp 16) rfl nb rfl 134 _ (0, 0) _ H6.out.boxIs Try.underlying134 rfl HVI.out ?_)
        | (refine wpList_store_row rfl 134 (.tmp 11) (.tmp 105) rfl qb vs rfl rfl 134 _ H6.out.inv.1.2.1 HVI.out (by rw [HV.out.q.1]; exact HP.out.q.1) HV.out.q.2 ?_; have H7 := Lib.hid ((((H6.out.le Rest.bb).boxRow vs).le Rest.bb).boxDrop); generalize World.setRow _ qb vs = w7 at *))
      have HJ2 : Hid (RiI R w1 a bb qb n alc next (j + 1) r' w7) := Lib.hid ⟨_, vs, _, _, HV.out, HRN.out.1, HRN.out.2, by have := HSB.out.1; omega, by have := HSB.out.2; omega, H7.out⟩
      try simp only [Act.put, List.setIfInBounds_toArray, List.set_cons_zero, List.set_cons_succ]
      go_wp2_with fail
      first
        | exact ⟨⟨j + 1, r', by omega, by go_num, HJ2⟩, by simp [intOf]; omega⟩
        | (refine ⟨⟨_, _, _, _, _, _, _, _, _, _, _, _, _, _, _, _, _, _, _, _, _, _, _, _, _, _, _, _, _, _, _, _, _, _, _, _, _, _, _, _, _, _, _, _, _, _, _, _, _, _, _, _, _, _, _, _, _, _, ⟨j + 1, r', by omega, ?e, HJ2⟩, rfl⟩, ?m⟩
           case e => go_num
           case m => simp [intOf]; omega)
end
end Go.Proofs.Ytejkjpmigajidaa
