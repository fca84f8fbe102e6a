/-
  What a barrier tells of its cells; barriers that are refused, and one that is none, by contract. Conditions: as each theorem names them.
-/
import Derived.Test.YtejkjpmigajidaaBl1
namespace Go.Proofs.Ytejkjpmigajidaa
open Go.RowKit
set_option linter.unusedVariables false

theorem balert_nil (W : World) : Calls Try.prog 84 #[.pointer none] W fun e w' => e = .returned (.int .i64 (-1)) ∧ W = w' := by
  go_enter Try.func84, Try.ntmps84
  go_wp2
  go_ret
  exact ⟨rfl, rfl⟩
theorem bafter_nil (W : World) : Calls Try.prog 85 #[.pointer none] W fun e w' => e = .returned (.slice none 0 0) ∧ W = w' := by
  go_enter Try.func85, Try.ntmps85
  go_wp2
  go_ret
  exact ⟨rfl, rfl⟩
theorem bafter {R : Rest} {bb : Nat} {cs : Array Value} {cur al : Nat} {sh : Sho} {ids : List Int} {w : World} (hw : Bw R bb cs cur al sh ids) (hi : R.inv w) :
    Calls Try.prog 85 #[.pointer (some ⟨bb, 0, none⟩)] w fun e w' => ∃ p c, e = .returned (.slice p ids.length c) ∧ NewRow w w' (.slice p ids.length c) ids := by
  have HC := Lib.hid (gcells_q (hw.blk _ hi) hw.f.g)
  clear hw hi
  go_enter Try.func85, Try.ntmps85
  go_wp2_with (go_at_call 45; refine HC.out.mono ?_; rintro e w1 ⟨v, rfl, hr⟩; obtain ⟨p, c, rfl, -⟩ := row_form hr.1; have HR := Lib.hid hr; clear hr)
  go_ret
  exact ⟨p, c, rfl, HR.out⟩
set_option maxHeartbeats 2000000 in
set_option maxRecDepth 100000 in
theorem pprobe_nil (next : Int) (hn : -9223372036854775808 ≤ next ∧ next ≤ 9223372036854775807) (W : World) :
    Calls Try.prog 79 #[.pointer none, .int .i64 next] W fun e w' => ∃ ts, e = .returned (.agg ts) ∧ ts[1]? = some (.int .i64 0) ∧ Below W.heap.size W w' := by
  have HBT := Lib.hid (built_pb none next (aheadP next))
  have HF := Lib.hid (pbn_f none next (aheadP next))
  have HFI := Lib.hid (pb_info HF.out.size)
  have HF2 := Lib.hid (HF.out.stg 0)
  have HFI2 := Lib.hid (pb_info HF2.out.size)
  have H0 : Hid (∀ zs : Array Value, Below W.heap.size W (W.alloc (.cells zs 134)) ∧ (W.alloc (.cells zs 134)).heap[W.heap.size]? = some (.cells zs 134 (0, 0))) := Lib.hid fun zs => ⟨balloc (Below.refl _ _) _, obj_new _ _⟩
  have HNX := Lib.hid hn
  generalize pbn none next (aheadP next) = us at *
  go_enter Try.func79, Try.ntmps79
  go_upto_region 2 with (first
    | (refine wpList_alloc_pb rfl rfl ?_; intro zs hz; first | (have H1 := Lib.hid (H0.out zs); clear H0; have HZ := Lib.hid hz; generalize W.alloc (.cells zs 134) = w1 at *; clear hz) | (have H2 := Lib.hid (bthen H1.out.1 (balloc (Below.refl _ w1) (.cells zs 134))); have HN := Lib.hid (obj_new w1 (.cells zs 134)); have HO := Lib.hid (obj_old (.cells zs 134) H1.out.2); have HW := Lib.hid (lt_of_block H1.out.2); have HZ2 := Lib.hid hz; have HLE := Lib.hid H1.out.1.size; generalize w1.alloc (.cells zs 134) = w2 at *; generalize w1.heap.size = nb at *))
    | (go_at_call 121; refine (bahead next HNX.out _).mono ?_; rintro e w' ⟨rfl, rfl⟩)
    | (refine wpList_build4 rfl 134 0 1 2 6 _ _ _ _ rfl _ _ _ _ rfl rfl rfl rfl us HBT.out ?_)
    | (refine wpList_store_row rfl 134 (.tmp 5) (.tmp 10) rfl nb us rfl rfl 134 _ HN.out HFI.out (by rw [HF.out.size]; exact HZ2.out) HF.out.one ?_; have H3 := Lib.hid (bsetRow H2.out HLE.out us); have HN3 := Lib.hid (setRow_heap _ nb _ us _ _ HN.out); have HO3 := Lib.hid (((Frm.refl (fun k => k = nb) w2).setRow rfl us).obj HO.out (by have := HW.out; omega)); generalize w2.setRow nb us = w3 at *))
  try simp only [Act.put, List.setIfInBounds_toArray, List.set_cons_zero, List.set_cons_succ]
  have c1 := (obj_cell HN3.out 1).trans HF.out.c1
  have f1 := obj_free HN3.out 1
  have H4 := Lib.hid (H3.out.setCell (p := ⟨nb, 1, none⟩) HLE.out (.int .i64 0))
  have HN4 := Lib.hid (obj_setCell (i := 1) (.int .i64 0) HN3.out)
  have HO4 := Lib.hid ((heap_setCell_other w3 ⟨nb, 1, none⟩ W.heap.size (.int .i64 0) (by have := HW.out; simp; omega)).trans HO3.out)
  go_wp2_with (first
    | (refine wpList_load_row rfl 134 (.tmp 5) rfl nb rfl 134 _ (0, 0) _ HN4.out Try.underlying134 rfl HFI2.out ?_)
    | (refine wpList_store_row rfl 134 (.tmp 4) (.tmp 14) rfl W.heap.size _ rfl rfl 134 _ HO4.out HFI2.out (by rw [HF2.out.size]; exact HZ.out) HF2.out.one ?_))
  exact bodyPost_ret (results_row (p := 4) (by kernel_rfl) _ _ W.heap.size 134 _ _ rfl (setRow_heap _ _ _ _ _ _ HO4.out) Try.underlying134 rfl HFI2.out) rfl ⟨_, rfl, HF2.out.c1, bsetRow H4.out (Nat.le_refl _) _⟩
theorem bnew_nil (sp : Option Addr) (v : Value) (cur : Int) (W : World) :
    Calls Try.prog 86 #[.pointer none, .int .i64 cur, .pointer sp, v] W fun e w' => ∃ E, e = .returned (.tuple #[.pointer none, E]) ∧ ErrAt w' E 2 ∧ Below W.heap.size W w' := by
  go_enter Try.func86, Try.ntmps86
  go_wp2_with (go_at_call 87; refine (wrap_q _ _ _).mono ?_; rintro e w1 ⟨p, rfl, hr⟩; have HR := Lib.hid hr; clear hr)
  go_ret2
  exact ⟨_, rfl, ErrAt.of HR.out (by decide), HR.out.below⟩
section
variable {R : Rest} {W0 W : World} {a : Nat} {xs : List Int} {st : Int}
set_option maxHeartbeats 2000000 in
set_option maxRecDepth 100000 in
theorem bnew_far (hm : Mv R W0 W a xs st) (hx : (xs.length : Int) < 2097152) :
    Calls Try.prog 86 #[.pointer (some ⟨a, 0, none⟩), .int .i64 xs.length, .pointer none, .slice none 0 0] W fun e w' => ∃ E, e = .returned (.tuple #[.pointer none, E]) ∧ ErrAt w' E 3 ∧ Below W.heap.size W w' := by
  have HLN : Hid (∀ w, Below W.heap.size W w → Calls Try.prog 27 #[.pointer (some ⟨a, 0, none⟩)] w fun e w' => e = .returned (.int .i64 xs.length) ∧ w = w') := Lib.hid fun w hb => len_mv (hm.keep hb)
  obtain ⟨i0, ji, jz0, jz1, jz2⟩ := info_parts infoIb
  have HL : Hid (LngAt W (.slice none 0 0) []) := Lib.hid ⟨none, 0, rfl, .inl rfl⟩
  have d1 : decide ((xs.length : Int) < 0) = false := decide_eq_false (by omega)
  clear hm
  generalize xs.length = n at *
  go_enter Try.func86, Try.ntmps86
  go_upto_region 3 with fail
  go_wp2_with (at_builtin; refine wpList_append_lngs rfl _ _ 68 rfl 3 i0 (.int .i64 0) 8 Try.underlying68 ji jz0 jz1 jz2 rfl (.slice (some ⟨W.heap.size, 0, none⟩) 1 1) 1 [.int .i64 n] rfl (row1 W _ _) (.slice none 0 0) [] rfl (HL.out.keep (balloc (Below.refl _ _) _)) (by decide) (by decide) ?_; intro v1 w1 hown hf hv; have HN := Lib.hid (new_row hown hf); clear hown hf hv; obtain ⟨⟨p1, c1, rfl, hl1⟩, hb1⟩ := HN.out; have HR := Lib.hid hl1; have HB := Lib.hid hb1; clear HN hl1 hb1)
  obtain ⟨b, off, rfl, hcc⟩ := HR.out.resolve_left (by simp)
  have c0 : w1.cell? ⟨b, off, none⟩ = some (.int .i64 n) := hcc 0 (by simp)
  clear hcc HR
  go_loopw [27] (fun i wl => i = .int .i64 0 ∧ wl = w1) (fun _ _ => 0)
  case atStart => exact ⟨rfl, rfl⟩
  case round =>
    obtain ⟨rfl, rfl⟩ := hrel
    go_wp2_with (first
      | (go_at_call 27; refine (HLN.out _ HB.out).mono ?_; rintro e w2 ⟨rfl, rfl⟩)
      | (go_at_call 87; refine (wrap_q _ _ _).mono ?_; rintro e w3 ⟨p, rfl, hr⟩; have HRR := Lib.hid (hr.after HB.out); clear hr))
    go_ret2
    exact ⟨_, rfl, ErrAt.of HRR.out (by decide), HRR.out.below⟩
set_option maxHeartbeats 2000000 in
set_option maxRecDepth 100000 in
theorem bnew_twice (hm : Mv R W0 W a xs st) (h2 : 2 ≤ xs.length) {va : Value} (hl : LngAt W va [1, 1]) :
    Calls Try.prog 86 #[.pointer (some ⟨a, 0, none⟩), .int .i64 0, .pointer none, va] W fun e w' => ∃ E, e = .returned (.tuple #[.pointer none, E]) ∧ ErrAt w' E 4 ∧ Below W.heap.size W w' := by
  have HLN : Hid (∀ w, Below W.heap.size W w → Calls Try.prog 27 #[.pointer (some ⟨a, 0, none⟩)] w fun e w' => e = .returned (.int .i64 xs.length) ∧ w = w') := Lib.hid fun w hb => len_mv (hm.keep hb)
  have HOF : Hid (∀ w, Below W.heap.size W w → Calls Try.prog 102 #[va] w fun e w' => ∃ E, e = .returned (.tuple #[.pointer none, E]) ∧ (∃ q, E = .iface 178 (.pointer (some ⟨q, 0, none⟩))) ∧ Refused w w' E 4) := Lib.hid fun w hb => of_twice (hl.keep hb)
  obtain ⟨i0, ji, jz0, jz1, jz2⟩ := info_parts infoIb
  have HL := Lib.hid hl
  have d0 : decide ((xs.length : Int) ≤ 0) = false := decide_eq_false (by omega)
  have d1 : decide ((xs.length : Int) ≤ 1) = false := decide_eq_false (by omega)
  have d2 : decide (xs.length = 0) = false := decide_eq_false (by omega)
  have d3 : decide (xs.length ≤ 1) = false := decide_eq_false (by omega)
  have d4 : decide ((xs.length : Int) = 0) = false := decide_eq_false (by omega)
  clear hm hl h2
  generalize xs.length = n at *
  go_enter Try.func86, Try.ntmps86
  go_upto_region 3 with fail
  go_wp2_with (at_builtin; refine wpList_append_lngs rfl _ _ 68 rfl 3 i0 (.int .i64 0) 8 Try.underlying68 ji jz0 jz1 jz2 rfl (.slice (some ⟨W.heap.size, 0, none⟩) 1 1) 1 [.int .i64 0] rfl (row1 W _ _) va [1, 1] rfl (HL.out.keep (balloc (Below.refl _ _) _)) (by decide) (by decide) ?_; intro v1 w1 hown hf hv; have HN := Lib.hid (new_row hown hf); clear hown hf hv; obtain ⟨⟨p1, c1, rfl, hl1⟩, hb1⟩ := HN.out; have HR := Lib.hid hl1; have HB := Lib.hid hb1; clear HN hl1 hb1)
  obtain ⟨b, off, rfl, hcc⟩ := HR.out.resolve_left (by simp)
  have HC : Hid (w1.cell? ⟨b, off, none⟩ = some (.int .i64 0) ∧ w1.cell? ⟨b, off + 1, none⟩ = some (.int .i64 1) ∧ w1.cell? ⟨b, off + 2, none⟩ = some (.int .i64 1)) := Lib.hid ⟨hcc 0 (by simp), hcc 1 (by simp), hcc 2 (by simp)⟩
  clear hcc HR
  go_loopw [27] (fun i wl => ∃ j : Nat, j ≤ 3 ∧ i = .int .i64 j ∧ wl = w1) (fun i _ => 3 - (intOf i).toNat)
  case atStart => exact ⟨0, by omega, rfl, rfl⟩
  case round =>
    obtain ⟨j, hj, rfl, rfl⟩ := hrel
    obtain ⟨x0, x1, x2⟩ := HC.out
    rcases (show j = 0 ∨ j = 1 ∨ j = 2 ∨ j = 3 by omega) with rfl | rfl | rfl | rfl
    · clear hj x1 x2
      go_wp2_with (go_at_call 27; refine (HLN.out _ HB.out).mono ?_; rintro e w2 ⟨rfl, rfl⟩)
      exact ⟨⟨1, by omega, by go_num, by first | trivial | rfl⟩, by simp [intOf]⟩
    · clear hj x0 x2
      go_wp2_with (go_at_call 27; refine (HLN.out _ HB.out).mono ?_; rintro e w2 ⟨rfl, rfl⟩)
      exact ⟨⟨2, by omega, by go_num, by first | trivial | rfl⟩, by simp [intOf]⟩
    · clear hj x0 x1
      go_wp2_with (go_at_call 27; refine (HLN.out _ HB.out).mono ?_; rintro e w2 ⟨rfl, rfl⟩)
      exact ⟨⟨3, by omega, by go_num, by first | trivial | rfl⟩, by simp [intOf]⟩
    · clear hj x0 x1 x2
      go_wp2_with (first
        | (go_at_call 102; refine (HOF.out _ HB.out).mono ?_; rintro e w3 ⟨E, rfl, ⟨q, rfl⟩, q2, hq2, hch, hb3⟩; cases hq2; have HCH := Lib.hid hch; have HB3 := Lib.hid (bthen HB.out hb3); clear hch hb3)
        | (go_at_call 87; refine (wrap_deep _ _ HCH.out).mono ?_; rintro e w4 ⟨q4, rfl, hc4, hb4⟩; have HC4 := Lib.hid hc4; have HB4 := Lib.hid (bthen HB3.out hb4); clear hc4 hb4))
      go_ret2
      exact ⟨_, rfl, .inr ⟨by decide, ⟨_, rfl⟩, _, HC4.out⟩, HB4.out⟩
end
end Go.Proofs.Ytejkjpmigajidaa
