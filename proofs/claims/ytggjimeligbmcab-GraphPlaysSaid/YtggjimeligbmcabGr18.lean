/-
  The document's example of layer 13, by contract. No condition but those that each theorem names.
-/
import Derived.Test.YtggjimeligbmcabGr17
namespace Go.Proofs.Ytggjimeligbmcab
open Go.RowKit
set_option linter.unusedVariables false

theorem ints0 (w : World) : IntsAt w (.slice none 0 0) [] := ⟨none, 0, rfl, .inl rfl⟩
theorem ints1 (w : World) (x : Int) : IntsAt (w.alloc (.cells #[.int .i64 x] 3)) (.slice (some ⟨w.heap.size, 0, none⟩) 1 1) [x] :=
  ⟨_, _, rfl, .inr ⟨_, 0, rfl, fun j hj => by
    have hj1 : j < 1 := hj
    obtain rfl : j = 0 := by omega
    rw [obj_cell (obj_new _ _)]
    rfl⟩⟩
theorem ints2 (w : World) (x y : Int) : IntsAt (w.alloc (.cells #[.int .i64 x, .int .i64 y] 3)) (.slice (some ⟨w.heap.size, 0, none⟩) 2 2) [x, y] :=
  ⟨_, _, rfl, .inr ⟨_, 0, rfl, fun j hj => by
    rw [obj_cell (obj_new _ _)]
    rcases j with _ | _ | j
    · rfl
    · rfl
    · exact absurd hj (by simp)⟩⟩
def eG1 : List Nd := [⟨false, []⟩]
def eG2 : List Nd := [⟨false, []⟩, ⟨false, [0]⟩]
def eG3 : List Nd := [⟨false, []⟩, ⟨false, [0]⟩, ⟨false, [0, 1]⟩]
theorem e1 : addBadG [] [] = 0 ∧ addN [] [] = eG1 ∧ addNo [] [] = 0 := ⟨rfl, rfl, rfl⟩
theorem e2 : addBadG eG1 [0] = 0 ∧ addN eG1 [0] = eG2 ∧ addNo eG1 [0] = 1 := ⟨rfl, rfl, rfl⟩
theorem e3 : addBadG eG2 [0, 1] = 0 ∧ addN eG2 [0, 1] = eG3 ∧ addNo eG2 [0, 1] = 2 := ⟨rfl, rfl, rfl⟩
theorem ok1 : GOk eG1 := by rw [← e1.2.1]; exact GOk.nil.addN _
theorem ok2 : GOk eG2 := by rw [← e2.2.1]; exact ok1.addN _
theorem ok3 : GOk eG3 := by rw [← e3.2.1]; exact ok2.addN _
theorem e4 : linkBad eG3 0 2 = 16 ∧ linkN eG3 0 2 = eG3 := by
  have h : linkBad eG3 0 2 = 16 := by
    unfold linkBad
    rw [if_pos ⟨rfl, rfl⟩, if_pos (.inr (.one (by decide)))]
  exact ⟨h, by unfold linkN; rw [if_neg (by rw [h]; decide)]⟩
theorem e5 : ordG eG3 = [0, 1, 2] := rfl
theorem e6 : depI eG3 2 = 2 := by
  have hd : DepOk eG3 (fun n => if n = 1 then 1 else if n = 2 then 2 else 0) := by
    intro n
    rcases n with _ | _ | _ | n
    · rfl
    · rfl
    · rfl
    · rfl
  have := hd.eq ok3
  unfold depI
  rw [if_pos (by rfl), ← this]
  rfl
set_option maxRecDepth 100000 in
theorem awake13 (W : World) : Calls Try.prog 10 #[] W fun e w' => e = .returned (.bool true) ∧ Below W.heap.size W w' := by
  go_enter Try.func10, Try.ntmps10
  go_upto_region 2 with (go_at_call 11; refine (gm_new _).mono ?_; rintro e w1 ⟨g, rfl, hg⟩; have HG := Lib.hid hg; clear hg)
  go_upto_region 3 with (go_at_call 12; refine (gm_add HG.out .nil (ints0 _) (by decide)).mono ?_; rintro e w2 ⟨E, rfl, he, hm⟩; rw [e1.1] at he; rw [e1.2.1] at hm; rw [e1.2.2]; obtain rfl : E = .nilIface := (he.resolve_right fun h => h.1 rfl).2; have HG2 := Lib.hid hm; clear he hm)
  go_upto_region 4 with (go_at_call 12; refine (gm_add (HG2.out.keep (balloc (Below.refl _ _) _)) ok1 (ints1 _ 0) (by decide)).mono ?_; rintro e w3 ⟨E, rfl, he, hm⟩; rw [e2.1] at he; rw [e2.2.1] at hm; rw [e2.2.2]; obtain rfl : E = .nilIface := (he.resolve_right fun h => h.1 rfl).2; have HG3 := Lib.hid hm; clear he hm)
  go_upto_region 5 with (go_at_call 12; refine (gm_add (HG3.out.keep (balloc (Below.refl _ _) _)) ok2 (ints2 _ 0 1) (by decide)).mono ?_; rintro e w4 ⟨E, rfl, he, hm⟩; rw [e3.1] at he; rw [e3.2.1] at hm; rw [e3.2.2]; obtain rfl : E = .nilIface := (he.resolve_right fun h => h.1 rfl).2; have HG4 := Lib.hid hm; clear he hm)
  go_upto_region 6 with (go_at_call 31; refine (gm_order HG4.out ok3).mono ?_; rintro e w5 ⟨v, rfl, hf⟩; rw [e5] at hf; have HF := Lib.hid hf; have HG5 := Lib.hid (HG4.out.keep hf.2); clear hf)
  obtain ⟨ob, oc, hv, -⟩ := row_some HF.out.1 (by decide)
  subst hv
  have HF2 : Hid (w5.cell? ⟨ob, 2, none⟩ = some (.int .i64 2) ∧ w4.heap.size ≤ ob) := Lib.hid (by
    have := HF.out.1.cells (g := ob) rfl 2 (.int .i64 2) rfl
    rw [Addr.add_mid] at this
    exact ⟨this, (HF.out.1.lt ob rfl).1⟩)
  go_wp2_with (first
    | (go_at_call 15; refine (gm_linkX HG4.out HF.out.2 ok3 _ _).mono ?_; rintro e w6 ⟨E, rfl, he, hm, hfr⟩; rw [e4.1] at he; rw [e4.2] at hm; have HE6 := Lib.hid he; have HG6 := Lib.hid hm; have c6 := hfr.cell HF2.out.1 (fun hk => Nat.lt_irrefl _ (Nat.lt_of_lt_of_le hk.2 HF2.out.2)); clear he hm hfr)
    | (go_at_call 14; refine (is_err HE6.out 16).mono ?_; rintro e w7 ⟨rfl, rfl⟩)
    | (go_at_call 29; refine (gm_depth HG6.out ok3 2).mono ?_; rintro e w8 ⟨rfl, hb⟩; rw [e6]; have HB8 := Lib.hid hb; clear hb))
  go_ret
  exact ⟨rfl, bthen HG6.out.2 HB8.out⟩
end Go.Proofs.Ytggjimeligbmcab
