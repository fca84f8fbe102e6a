/-
  Claim of package multi, by contract: what it refuses, and what it leaves. Conditions: the cells are there; fewer than 2^60 steps.
-/
import Derived.Test.YteinfkcnengmeaaCI
import Derived.Test.YteinfkcnengmeaaMc3
namespace Go.Proofs.Yteinfkcnengmeaa
open Go.RowKit
set_option linter.unusedVariables false

/-- The sequencer that a statement made: its arena has its cells alone. -/
structure Lv (R : Rest) (W0 W : World) (s : Sh) (c sn : Int) (sh gv : List Int) (sw st : Int) : Prop where
  lv ::
  ms : Ms R W0 W s (idsN sh.length gv.length) sw (mk c sn sh gv) st
  n : (sh.length : Int) = two s.k
  cur : s.cur = 0
  cch : s.cch = 1
  f : s.f = 2
  c1 : -1 ≤ c
  swc : sw ≤ c
section
variable {R : Rest} {W0 W w : World} {s : Sh} {c sn sw st : Int} {sh gv : List Int}
theorem Lv.keep (h : Lv R W0 W s c sn sh gv sw st) (hb : Below W.heap.size W w) : Lv R W0 w s c sn sh gv sw st := ⟨h.ms.keep hb, h.n, h.cur, h.cch, h.f, h.c1, h.swc⟩
theorem Lv.g32 (h : Lv R W0 W s c sn sh gv sw st) : gv.length ≤ 32 := by
  obtain ⟨cs, q1, _⟩ := h.ms.blk
  have := q1.gr.len
  rwa [idsN_len] at this
theorem Lv.hin (h : Lv R W0 W s c sn sh gv sw st) : ∀ j, j < (idsN sh.length gv.length).length → 0 ≤ (idsN sh.length gv.length).getD j 0 ∧ (idsN sh.length gv.length).getD j 0 < ((mk c sn sh gv).length : Int) := by
  intro j hj
  rw [idsN_len] at hj
  rw [idsN_at _ _ hj, mk_len]
  omega
theorem Lv.len (h : Lv R W0 W s c sn sh gv sw st) : ((mk c sn sh gv).length : Int) ≤ 2097152 := by
  have := h.g32
  have := two_le h.ms.k20
  have := h.n
  rw [mk_len]
  omega

/-- No cell is wanting. -/
theorem mlacks_nil (W : World) : Calls Try.prog 99 #[.pointer none] W fun e w' => e = .returned (.bool false) ∧ Below W.heap.size W w' := by
  have HC : Hid (∀ w : World, Calls Try.prog 44 #[.pointer none] w fun e w' => e = .returned (.slice none 0 0) ∧ w = w') := by
    intro w
    go_enter Try.func44, Try.ntmps44
    go_wp2_with (first
      | (go_at_call 94; refine (in_nil _).mono ?_; rintro e w' ⟨rfl, rfl⟩)
      | (go_at_call 95; refine (Try.slices_Clone_int_nil 0 0 _).mono ?_; rintro e w' ⟨rfl, rfl⟩))
    go_ret
    exact ⟨rfl, rfl⟩
  go_enter Try.func99, Try.ntmps99
  go_wp2_with (first
    | (go_at_call 60; refine (mgate_nil _).mono ?_; rintro e w' ⟨rfl, rfl⟩)
    | (go_at_call 44; refine (HC.out _).mono ?_; rintro e w' ⟨rfl, rfl⟩))
  go_loopw [9] (fun i wl => i = .int .i64 0 ∧ wl = W) (fun _ _ => 0)
  case atStart => exact ⟨rfl, rfl⟩
  case round =>
    obtain ⟨rfl, rfl⟩ := hrel
    go_wp2
    go_ret
    exact ⟨rfl, Below.refl _ _⟩

set_option maxHeartbeats 1000000 in
theorem mlacks {ids xs : List Int} (hm : Ms R W0 W s ids sw xs st) (hin : ∀ j, j < ids.length → ids.getD j 0 < (xs.length : Int)) :
    Calls Try.prog 99 #[.pointer (some ⟨s.p, 0, none⟩)] W fun e w' => e = .returned (.bool false) ∧ Below W.heap.size W w' := by
  have HM := Lib.hid hm
  have HIN := Lib.hid hin
  obtain ⟨cs, q1, q2⟩ := hm.blk
  have hl32 : ids.length ≤ 32 := q1.gr.len
  have HC := Lib.hid (gcells_q q2 q1.gr)
  clear hm hin q1 q2
  generalize hn : ids.length = n at *
  have HN := Lib.hid hn
  generalize hxl : (xs.length : Int) = xl at *
  have HXL := Lib.hid hxl
  clear hn hxl
  go_enter Try.func99, Try.ntmps99
  go_wp2_with (first
    | (go_at_call 60; refine (mgate_some _ _).mono ?_; rintro e w' ⟨rfl, rfl⟩)
    | (go_at_call 44; refine HC.out.mono ?_; rintro e w1 ⟨v, rfl, hv⟩; have HR := Lib.hid hv.1; have HB := Lib.hid hv.2; obtain ⟨p, cap, rfl, _⟩ := row_form hv.1; rw [HN.out]; clear hv))
  go_loopw [9] (fun i wl => ∃ k : Nat, k ≤ n ∧ i = .int .i64 k ∧ wl = w1) (fun i _ => n - (intOf i).toNat)
  case atStart => exact ⟨0, by omega, rfl, rfl⟩
  case round =>
    obtain ⟨k, hk, rfl, rfl⟩ := hrel
    by_cases hlt : k < n
    · obtain ⟨r, cap2, hsl, _⟩ := row_some HR.out (by rw [HN.out]; omega)
      obtain rfl : p = some ⟨r, 0, none⟩ := by simp at hsl; exact hsl.1
      have ck : wr.cell? ⟨r, k, none⟩ = some (.int .i64 (ids.getD k 0)) := by
        rw [HR.out.cellAt k (by rw [HN.out]; omega)]
        simp [List.getElem?_eq_getElem (show k < ids.length by rw [HN.out]; exact hlt)]
      have hz := HIN.out k hlt
      have k0 := (HM.out.keep HB.out).c.c0
      clear hsl
      generalize ids.getD k 0 = z at *
      have hdz : decide (xl ≤ z) = false := decide_eq_false (by omega)
      go_wp2_with (go_at_call 26; refine (len_s (HM.out.keep HB.out)).mono ?_; rintro e w' ⟨rfl, rfl⟩; rw [HXL.out])
      exact ⟨⟨k + 1, by omega, by go_num, trivial⟩, by simp [intOf]; omega⟩
    · obtain rfl : k = n := by omega
      go_wp2
      go_ret
      exact ⟨rfl, HB.out⟩
end
end Go.Proofs.Yteinfkcnengmeaa
