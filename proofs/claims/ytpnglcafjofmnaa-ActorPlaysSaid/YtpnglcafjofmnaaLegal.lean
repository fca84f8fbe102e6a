/-
  Legal by contract. Conditions: the table's row is its own; at most 64 actors.
-/
import Derived.Test.YtpnglcafjofmnaaActRef2
namespace Go.Proofs.Ytpnglcafjofmnaa
open Go.RowKit

/-- The place that a number picks. -/
def pickAt (p : Int) (n : Nat) : Nat := ((wrap64 (p.tmod n + n)).tmod n).toNat
theorem pick_in (p : Int) (n : Nat) (h0 : 0 < n) (hn : (n : Int) ≤ 64) : 0 ≤ (wrap64 (p.tmod n + n)).tmod n ∧ (wrap64 (p.tmod n + n)).tmod n < n := by
  have h1 : p.tmod n < n := Int.tmod_lt_of_pos p (by omega)
  have h2 : -(n : Int) < p.tmod n := by
    by_cases hp : 0 ≤ p
    · have := Int.tmod_nonneg (n : Int) hp
      omega
    · have e : p.tmod n = -((-p).tmod n) := by
        have := Int.neg_tmod (-p) (n : Int)
        rw [Int.neg_neg] at this
        exact this
      have := Int.tmod_lt_of_pos (-p) (b := (n : Int)) (by omega)
      omega
  have h3 : wrap64 (p.tmod n + n) = p.tmod n + n := by
    unfold wrap64
    omega
  rw [h3]
  exact ⟨Int.tmod_nonneg _ (by omega), Int.tmod_lt_of_pos _ (by omega)⟩
theorem pick_lt (p : Int) (n : Nat) (h0 : 0 < n) (hn : (n : Int) ≤ 64) : pickAt p n < n := by
  have := pick_in p n h0 hn
  unfold pickAt
  omega

set_option maxRecDepth 100000 in
theorem legal_none (W : World) (b : Nat) (v : Value) (xs : List Ac) (p : Int) (h : Tb W b v xs) (hn : (xs.length : Int) ≤ 64) (h0 : (readyL xs xs.length).length = 0) :
    Calls Try.prog 51 #[.pointer (some ⟨b, 0, none⟩), .int .i64 p] W fun e w' => e = .returned (.tuple #[.int .i64 0, .bool false]) ∧ Below W.heap.size W w' := by
  have H := Lib.hid h
  clear h
  go_enter Try.func51, Try.ntmps51
  go_wp2_with (go_at_call 48; refine (runnable_any _ _ _ xs H.out (by omega)).mono ?_; rintro e w2 ⟨v2, rfl, hni⟩; obtain ⟨p2, c2, rfl, hc2⟩ := row_form hni.2.1; have HB := Lib.hid hni.1; rw [h0]; clear hni hc2)
  go_ret2
  exact ⟨rfl, HB.out⟩

set_option maxRecDepth 100000 in
theorem legal_some (W : World) (b : Nat) (v : Value) (xs : List Ac) (p : Int) (h : Tb W b v xs) (hn : (xs.length : Int) ≤ 64) (x : Int) (hx : (readyL xs xs.length)[pickAt p (readyL xs xs.length).length]? = some x) :
    Calls Try.prog 51 #[.pointer (some ⟨b, 0, none⟩), .int .i64 p] W fun e w' => e = .returned (.tuple #[.int .i64 x, .bool true]) ∧ Below W.heap.size W w' := by
  have hle := readyL_le xs xs.length
  have H := Lib.hid h
  clear h
  have h0 : 0 < (readyL xs xs.length).length := by
    have := (List.getElem?_eq_some_iff.1 hx).1
    omega
  obtain ⟨q0, q1⟩ := pick_in p _ h0 (by omega)
  have HX := Lib.hid hx
  clear hx
  go_enter Try.func51, Try.ntmps51
  go_wp2_with (go_at_call 48; refine (runnable_any _ _ _ xs H.out (by omega)).mono ?_; rintro e w2 ⟨v2, rfl, hni⟩; obtain ⟨p2, c2, rfl, hc2⟩ := row_form hni.2.1; have hoi := ints_atA hni.2.1; have HB := Lib.hid hni.1; clear hni; generalize readyL xs xs.length = os at *; obtain ⟨g, rfl, hcell⟩ := hoi.resolve_left (by omega); have hk := hcell _ _ HX.out; unfold pickAt at hk; have dn : decide ((os.length : Int) = 0) = false := decide_eq_false (by omega); have db : ((os.length : Int) == 0) = false := by {rw [beq_eq_false_iff_ne]; omega}; clear hcell hoi)
  go_ret2
  exact ⟨rfl, HB.out⟩
end Go.Proofs.Ytpnglcafjofmnaa
