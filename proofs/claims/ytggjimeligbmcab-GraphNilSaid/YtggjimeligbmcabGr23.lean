/-
  GraphNil, walked. No condition.
-/
import Derived.Test.YtggjimeligbmcabGr22
namespace Go.Proofs.Ytggjimeligbmcab
open Go.RowKit
set_option linter.unusedVariables false

theorem gadd_nil (W : World) (v : Value) : Calls Try.prog 12 #[.pointer none, v] W fun e w' => ∃ E, e = .returned (.tuple #[.int .i64 0, E]) ∧ Refused W w' E 2 := by
  go_enter Try.func12, Try.ntmps12
  go_wp2_with (go_at_call 35; refine (wrap_iface _ _ _ _).mono ?_; rintro e w' ⟨rfl, hw⟩; have HR := Lib.hid (refused_of hw); clear hw)
  go_ret2
  exact ⟨_, rfl, HR.out⟩
theorem glink_nil (W : World) (a b : Int) : Calls Try.prog 15 #[.pointer none, .int .i64 a, .int .i64 b] W fun e w' => ∃ E, e = .returned E ∧ Refused W w' E 2 := by
  go_enter Try.func15, Try.ntmps15
  go_wp2_with (go_at_call 35; refine (wrap_iface _ _ _ _).mono ?_; rintro e w' ⟨rfl, hw⟩; have HR := Lib.hid (refused_of hw); clear hw)
  go_ret
  exact ⟨_, rfl, HR.out⟩
theorem gdrop_nil (W : World) (a : Int) : Calls Try.prog 17 #[.pointer none, .int .i64 a] W fun e w' => ∃ E, e = .returned E ∧ Refused W w' E 2 := by
  go_enter Try.func17, Try.ntmps17
  go_wp2_with (go_at_call 35; refine (wrap_iface _ _ _ _).mono ?_; rintro e w' ⟨rfl, hw⟩; have HR := Lib.hid (refused_of hw); clear hw)
  go_ret
  exact ⟨_, rfl, HR.out⟩
theorem has_no (n : Int) : hasI [] n = false := by simp [hasI, hasB, nd]
theorem add_no (n : Int) : addBadG [] [n] = 3 ∧ addN [] [n] = [] ∧ addNo [] [n] = 0 := by
  have h : addBadG [] [n] = 3 := by
    unfold addBadG
    rw [if_neg (by decide), nm_none (has_no n)]
  exact ⟨h, by unfold addN; rw [if_neg (by rw [h]; decide)], by unfold addNo; rw [if_neg (by rw [h]; decide)]⟩
theorem drop_no (n : Int) : dropBadG [] n = 3 ∧ dropN [] n = [] := by
  have h : dropBadG [] n = 3 := by
    unfold dropBadG
    rw [if_neg (by rw [has_no]; decide)]
  exact ⟨h, by unfold dropN; rw [if_neg (by rw [h]; decide)]⟩
theorem rch_no (n : Int) : rchI [] n = [] := by unfold rchI; rw [if_neg (by rw [has_no]; decide)]
theorem dep_no (n : Int) : depI [] n = 0 := by unfold depI; rw [if_neg (by rw [has_no]; decide)]
theorem Refused.err {W w w' : World} {E : Value} {n : Int} (h : Refused W w E n) (hn : n ≠ 0) (hb : Below w.heap.size w w') : ErrIs w' E n := (ErrIs.of h hn).held (Held.of_below hb)

set_option maxRecDepth 100000 in
set_option maxHeartbeats 4000000 in
theorem gnil_walk {W : World} (n : Int) : Calls Try.prog 8 #[.int .i64 n] W fun e w' => e = .returned (.bool true) ∧ Below W.heap.size W w' := by
  go_enter Try.func8, Try.ntmps8
  go_upto_region 3 with (go_at_call 12; refine (gadd_nil _ _).mono ?_; rintro e w1 ⟨E1, rfl, hr⟩; have HR1 := Lib.hid hr; have HB1 := Lib.hid (bthen (balloc (Below.refl _ _) _) hr.below); obtain ⟨q1, rfl, _⟩ := hr)
  go_upto_region 4 with (go_at_call 11; refine (gm_new _).mono ?_; rintro e w2 ⟨g, rfl, hg⟩; have HG2 := Lib.hid hg; clear hg)
  go_upto_region 5 with (go_at_call 12; refine (gm_add (HG2.out.keep (balloc (Below.refl _ _) _)) .nil (ints1 _ n) (by simp)).mono ?_; rintro e w3 ⟨E3, rfl, he, hm⟩; rw [(add_no n).1] at he; rw [(add_no n).2.1] at hm; rw [(add_no n).2.2]; have HE3 := Lib.hid he; have HG3 := Lib.hid hm; obtain ⟨q3, rfl, _⟩ := (he.resolve_left fun h => by have := h.1; omega).2; clear he hm)
  try dsimp only [List.append]
  have HB3 := Lib.hid HG3.out.2
  go_wp2_with (first
    | (go_at_call 10; refine (awake13 _).mono ?_; rintro e w4 ⟨rfl, hb⟩; have HB4 := Lib.hid hb; have HG4 := Lib.hid (HG3.out.keep hb); clear hb)
    | (go_at_call 15; refine (glink_nil _ _ _).mono ?_; rintro e w5 ⟨E5, rfl, hr⟩; have HR5 := Lib.hid hr; have HB5 := Lib.hid hr.below; clear hr)
    | (go_at_call_of 17 (Value.pointer Option.none); refine (gdrop_nil _ _).mono ?_; rintro e w6 ⟨E6, rfl, hr⟩; have HR6 := Lib.hid hr; have HB6 := Lib.hid hr.below; clear hr)
    | (go_at_call_of 22 (Value.pointer Option.none); refine (ghas_nil _ _).mono ?_; rintro e w7 ⟨rfl, rfl⟩)
    | (go_at_call_of 25 (Value.pointer Option.none); refine (greach_nil _ _).mono ?_; rintro e w10 ⟨v10, rfl, hf⟩; have HB10 := Lib.hid hf.2; obtain ⟨p10, k10, rfl, -⟩ := row_form hf.1; clear hf)
    | (go_at_call_of 29 (Value.pointer Option.none); refine (gdepth_nil _ _).mono ?_; rintro e w13 ⟨rfl, hb⟩; have HB13 := Lib.hid hb; clear hb)
    | (go_at_call 19; refine (glen_nil _).mono ?_; rintro e w7 ⟨rfl, rfl⟩)
    | (go_at_call 26; refine (gafter_nil _ _).mono ?_; rintro e w8 ⟨v8, rfl, hf⟩; have HB8 := Lib.hid hf.2; obtain ⟨p8, k8, rfl, -⟩ := row_form hf.1; clear hf)
    | (go_at_call 27; refine (gbehind_nil _ _).mono ?_; rintro e w9 ⟨v9, rfl, hf⟩; have HB9 := Lib.hid hf.2; obtain ⟨p9, k9, rfl, -⟩ := row_form hf.1; clear hf)
    | (go_at_call 30; refine (gends_nil _).mono ?_; rintro e w11 ⟨v11, rfl, hf⟩; have HB11 := Lib.hid hf.2; obtain ⟨p11, k11, rfl, -⟩ := row_form hf.1; clear hf)
    | (go_at_call 31; refine (gorder_nil _).mono ?_; rintro e w12 ⟨v12, rfl, hf⟩; have HB12 := Lib.hid hf.2; obtain ⟨p12, k12, rfl, -⟩ := row_form hf.1; clear hf)
    | (go_at_call 17; have HBX := Lib.hid (bthen (bthen (bthen (bthen (bthen (bthen (bthen (bthen HB5.out HB6.out) HB8.out) HB9.out) HB10.out) HB11.out) HB12.out) HB13.out) (Below.refl _ _)); refine (gm_drop (HG4.out.keep HBX.out) .nil _).mono ?_; rintro e w14 ⟨E14, rfl, he, hm⟩; rw [(drop_no n).1] at he; rw [(drop_no n).2] at hm; have HE14 := Lib.hid he; have HG14 := Lib.hid hm; clear he hm)
    | (go_at_call 29; refine (gm_depth (HG14.out.keep HB15.out) .nil _).mono ?_; rintro e w16 ⟨rfl, hb⟩; rw [dep_no n]; have HB16 := Lib.hid hb; clear hb)
    | (go_at_call 25; refine (gm_reach HG14.out .nil _).mono ?_; rintro e w15 ⟨v15, rfl, hf⟩; rw [rch_no n] at hf; have HB15 := Lib.hid hf.2; obtain ⟨p15, k15, rfl, -⟩ := row_form hf.1; clear hf)
    | (go_at_call 22; refine (gm_has HG14.out _).mono ?_; rintro e w7 ⟨rfl, rfl⟩; rw [has_no n])
    | (go_at_call 14; refine (is_err HE14.out 3).mono ?_; rintro e w7 ⟨rfl, rfl⟩)
    | (go_at_call_of 14 (Value.int IntKind.i64 3); refine (is_err (HE3.out.held (Held.of_below (bthen HB4.out (bthen (bthen (bthen (bthen (bthen (bthen (bthen HB5.out HB6.out) HB8.out) HB9.out) HB10.out) HB11.out) HB12.out) HB13.out)))) 3).mono ?_; rintro e w7 ⟨rfl, rfl⟩)
    | (go_at_call 14; refine (is_err (HR6.out.err (by decide) (Below.refl _ _)) 2).mono ?_; rintro e w7 ⟨rfl, rfl⟩)
    | (go_at_call 14; refine (is_err (HR5.out.err (by decide) (Below.refl _ _)) 2).mono ?_; rintro e w7 ⟨rfl, rfl⟩)
    | (go_at_call 14; refine (is_err (HR1.out.err (by decide) (bthen HB3.out HB4.out)) 2).mono ?_; rintro e w7 ⟨rfl, rfl⟩))
  go_ret
  exact ⟨rfl, bthen HB1.out (bthen HG14.out.2 (bthen HB15.out HB16.out))⟩
end Go.Proofs.Ytggjimeligbmcab
