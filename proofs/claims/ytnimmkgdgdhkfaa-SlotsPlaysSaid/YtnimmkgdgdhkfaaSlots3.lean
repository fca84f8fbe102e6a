/-
  Get, Size, New, Clone of package slots, by contract. Conditions: the ring is one that New made.
-/
import Derived.Test.YtnimmkgdgdhkfaaSlots2
import Derived.Test.YtnimmkgdgdhkfaaPow2
import Derived.Deep.RegionHeld3
namespace Go.Proofs.Ytnimmkgdgdhkfaa
open Go.RowKit

theorem get_nil (seq : Int) (W : World) :
    Calls Try.prog 43 #[.pointer none, .int .i64 seq] W fun e w' => ∃ E, e = .returned (.tuple #[.agg #[.int .i64 0, .int .i64 0], E]) ∧ Refused W w' E 2 := by
  go_enter Try.func43, Try.ntmps43
  go_wp2_with (go_at_call 64; refine (rcheck_nil _ _ _).mono ?_; rintro e w' ⟨E, rfl, q, rfl, hr1, hr2⟩; obtain ⟨c0, c1⟩ := new2 hr2; have f0 := new2f hr2; have HR := Lib.hid (Refused.cells hr1 hr2); clear hr1 hr2)
  refine bodyPost_ret (by simp [results, Try.results43, go_sem, c0, c1]; try rfl) rfl ?_
  exact ⟨_, rfl, HR.out _ _⟩

theorem get_bad (seq : Int) (W : World) (b g c k : Nat) (xs : List Ev) (h : Rg W b g c k xs) (hs : seq < 0 ∨ 4611686018427387904 < seq) :
    Calls Try.prog 43 #[.pointer (some ⟨b, 0, none⟩), .int .i64 seq] W fun e w' => ∃ E, e = .returned (.tuple #[.agg #[.int .i64 0, .int .i64 0], E]) ∧ Refused W w' E 5 := by
  have H := Lib.hid (h.keepB ((Below.refl _ W).alloc (Nat.le_refl _) (.cells #[.int .i64 0, .int .i64 0] 67)))
  have HS := Lib.hid hs
  clear h hs
  go_enter Try.func43, Try.ntmps43
  go_wp2_with (go_at_call 64; refine (rcheck_bad _ _ _ b g c k xs H.out HS.out).mono ?_; rintro e w' ⟨E, rfl, q, rfl, hr1, hr2⟩; obtain ⟨c0, c1⟩ := new2 hr2; have f0 := new2f hr2; have HR := Lib.hid (Refused.cells hr1 hr2); clear hr1 hr2)
  refine bodyPost_ret (by simp [results, Try.results43, go_sem, c0, c1]; try rfl) rfl ?_
  exact ⟨_, rfl, HR.out _ _⟩

theorem get_ok (seq : Int) (W : World) (b g c k : Nat) (xs : List Ev) (h : Rg W b g c k xs) (h0 : 0 ≤ seq) (h1 : seq ≤ 4611686018427387904) (i : Nat) (hi : seq % two k = i) (a : Ev) (ha : xs[i]? = some a) :
    Calls Try.prog 43 #[.pointer (some ⟨b, 0, none⟩), .int .i64 seq] W fun e w' => e = .returned (.tuple #[.agg #[.int .i64 a.1, .int .i64 a.2], .nilIface]) ∧ Below W.heap.size W w' := by
  have hb0 : Below W.heap.size W (W.alloc (.cells #[.int .i64 0, .int .i64 0] 67)) := (Below.refl _ W).alloc (Nat.le_refl _) _
  have H := Lib.hid (h.keepB hb0)
  have HI := Lib.hid hi
  have HL := Lib.hid (List.getElem?_eq_some_iff.1 ha).1
  have HA := Lib.hid ha
  have HB := Lib.hid hb0
  clear h hi ha hb0
  go_enter Try.func43, Try.ntmps43
  go_wp2_with (first
    | (go_at_call 64; refine (rcheck_ok _ _ _ b g c k xs H.out h0 h1).mono ?_; rintro e w' ⟨rfl, rfl⟩)
    | (go_at_call 65; refine (rslot_some seq _ b g c k xs H.out i HI.out HL.out).mono ?_; rintro e w2 ⟨rfl, hb2⟩; obtain ⟨c0, c1⟩ := new2 hb2; have f0 := new2f hb2; obtain ⟨k0, k1⟩ := (H.out.keepB hb2).at HA.out; have HB2 := Lib.hid (set_new hb2); clear hb2))
  refine bodyPost_ret (by simp [results, Try.results43, go_sem, c0, c1]; try rfl) rfl ?_
  exact ⟨rfl, HB2.out _ _⟩
end Go.Proofs.Ytnimmkgdgdhkfaa
