/-
  When two notes are equal; same of the statements; counts of deeds compared. Conditions: at most 1000 notes; the two lists are one.
-/
import Derived.Test.YtnblkkmandlllaaTo
import Derived.Laws.StructEq
import Derived.ChangeKeysEq
import Derived.Deep.DeepCutAuto
namespace Go.Proofs.Ytnblkkmandlllaa
open Go.RowKit Go.Shelf Go.Maps
set_option linter.unusedVariables false
set_option linter.unusedSimpArgs false

theorem eqNt (x y : Nt) (w : World) : (Op.equalIn 10000 33 (.agg x.cs.toArray) (.agg y.cs.toArray)).run Try.prog w = .ok (decide (x = y)) w := by
  have u3 := Try.underlying2
  have u4 := Try.underlying3
  have u5 := Try.underlying27
  have u6 := Try.underlying31
  unfold Nt.cs
  rw [show (10000 : Nat) = 9999 + 1 from rfl, run_equalIn_agg w 9999 33 _ _ (by kernel_rfl) (by kernel_rfl)]
  simp only [Program.fieldsOf, Try.underlying33]
  go_simp
  by_cases h0 : x.who = y.who
  rotate_left
  · rw [if_neg h0, decide_eq_false (fun e => h0 (by rw [e]))]
  rw [if_pos h0]
  by_cases h1 : x.ring = y.ring
  rotate_left
  · rw [if_neg h1, decide_eq_false (fun e => h1 (by rw [e]))]
  rw [if_pos h1]
  by_cases h2 : x.deed = y.deed
  rotate_left
  · rw [if_neg h2, decide_eq_false (fun e => h2 (by rw [e]))]
  rw [if_pos h2]
  by_cases h3 : x.lo = y.lo
  rotate_left
  · rw [if_neg h3, decide_eq_false (fun e => h3 (by rw [e]))]
  rw [if_pos h3]
  by_cases h4 : x.seq = y.seq
  rotate_left
  · rw [if_neg h4, decide_eq_false (fun e => h4 (by rw [e]))]
  rw [if_pos h4]
  by_cases h5 : x.key = y.key
  rotate_left
  · rw [if_neg h5, decide_eq_false (fun e => h5 (by rw [e]))]
  rw [if_pos h5]
  by_cases h6 : x.val = y.val
  rotate_left
  · rw [if_neg h6, decide_eq_false (fun e => h6 (by rw [e]))]
  rw [if_pos h6]
  by_cases h7 : x.code = y.code
  rotate_left
  · rw [if_neg h7, decide_eq_false (fun e => h7 (by rw [e]))]
  rw [if_pos h7]
  rw [decide_eq_true ((Nt.eq_iff x y).2 ⟨h0, h1, h2, h3, h4, h5, h6, h7⟩)]
theorem neqNt (x y : Nt) (w : World) : (binOp .neq 33 (.agg x.cs.toArray) (.agg y.cs.toArray)).run Try.prog w = .ok (.bool (!decide (x = y))) w := by
  rw [run_neq_struct, eqNt]; rfl
theorem eqNtB (x y : Nt) (w : World) : (binOp .eql 33 (.agg x.cs.toArray) (.agg y.cs.toArray)).run Try.prog w = .ok (.bool (decide (x = y))) w := by
  rw [run_eql_struct, eqNt]; rfl

theorem infoIn : (Try.prog.info? 3).map (fun i => (i.zero, i.size, i.bytes)) = some (some (.int .i64 0), 1, 8) := by kernel_rfl
theorem eqArr (f : Nat → Int) (w : World) : (binOp .eql 28 (.agg (arr8 f)) (.agg (arr8 f))).run Try.prog w = .ok (.bool true) w := by
  have u4 := Try.underlying3
  have hc : Try.prog.cellsOf 3 = 1 := by kernel_rfl
  obtain ⟨i, hi, -, -, -⟩ := info_parts infoIn
  rw [run_eql_struct, show (10000 : Nat) = 9999 + 1 from rfl, Go.run_equalIn_array w 9999 _ _ Try.underlying28 hi, hc]
  unfold arr8
  simp only [show List.range 8 = [0, 1, 2, 3, 4, 5, 6, 7] from rfl, Op.eqItems]
  go_simp

set_option maxRecDepth 100000 in
set_option maxHeartbeats 2000000 in
theorem tsame {W : World} {va vb : Value} {l : List Nt} (ha : NtsAt W va l) (hb : NtsAt W vb l) (h120 : l.length ≤ 1000) :
    Calls Try.prog 12 #[va, vb] W fun e w' => e = .returned (.bool true) ∧ Below W.heap.size W w' := by
  have HA := Lib.hid ha
  have HB := Lib.hid hb
  obtain ⟨pa, ca, rfl, -, -⟩ := ha.form
  obtain ⟨pb, cb, rfl, -, -⟩ := hb.form
  clear ha hb
  go_enter Try.func12, Try.ntmps12
  go_wp2_with fail
  go_loopw [13] (fun iv wl => ∃ k : Nat, k ≤ l.length ∧ iv = .int .i64 k ∧ Hid (Below W.heap.size W wl)) (fun iv _ => l.length - (intOf iv).toNat)
  case atStart => exact ⟨0, Nat.zero_le _, rfl, Lib.hid (Below.refl _ _)⟩
  case round =>
    obtain ⟨k, hk, rfl, HJ⟩ := hrel
    by_cases hlt : k < l.length
    · obtain ⟨b, off, x, rfl, hx, hbb, hwf, ⟨c0, c1, c2, c3, c4, c5, c6, c7⟩⟩ := (HA.out.keep HJ.out).at_ hlt
      obtain ⟨b', off', y, rfl, hy, hbb', hwf', ⟨d0, d1, d2, d3, d4, d5, d6, d7⟩⟩ := (HB.out.keep HJ.out).at_ hlt
      obtain rfl : x = y := by rw [hx] at hy; simpa using hy
      have hq : ∀ w, (binOp .neq 33 (.agg #[.int .i64 x.who, .int .i64 x.ring, .int .i64 x.deed, .int .i64 x.lo, .int .i64 x.seq, .int .i64 x.key, .int .i64 x.val, .int .i64 x.code]) (.agg #[.int .i64 x.who, .int .i64 x.ring, .int .i64 x.deed, .int .i64 x.lo, .int .i64 x.seq, .int .i64 x.key, .int .i64 x.val, .int .i64 x.code])).run Try.prog w = .ok (.bool false) w := fun w => by
        have := neqNt x x w
        rw [decide_eq_true rfl] at this
        exact this
      have HBB := Lib.hid fun n => bdrewN HJ.out n
      clear hx hy hbb hbb' hwf hwf'
      go_upto_region 6 with (fail)
      go_quiet (fail)
      have HB9 := Lib.hid (HBB.out nq)
      clear c0 c1 c2 c3 c4 c5 c6 c7 d0 d1 d2 d3 d4 d5 d6 d7 hq
      generalize wr.drewN nq = w9 at HB9 ⊢
      go_wp2
      exact ⟨⟨k + 1, by omega, by go_num, HB9⟩, by simp [intOf]; omega⟩
    · obtain rfl : k = l.length := by omega
      go_wp2
      go_ret
      exact ⟨rfl, HJ.out⟩
end Go.Proofs.Ytnblkkmandlllaa
