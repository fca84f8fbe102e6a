/-
  What New of package multi refuses by its size, by contract; errors that stay what they are while a sequencer is made. No condition but those that each theorem names.
-/
import Derived.Test.YteinfkcnengmeaaMh
namespace Go.Proofs.Yteinfkcnengmeaa
open Go.RowKit

theorem pow_of_bad (n : Int) (hw : -9223372036854775808 ≤ n) (hno : ∀ k, k ≤ 20 → n ≠ two k) (w : World) :
    Calls Try.prog 14 #[.int .i64 n] w fun e w' => ∃ F, e = .returned (.tuple #[.agg #[.int .u8 0], F]) ∧ Chain w' F 1 7 ∧ Below w.heap.size w w' := by
  by_cases h : 1048576 < n
  · exact of_great n h w
  · exact of_other n hw (by omega) hno w
set_option maxHeartbeats 1000000 in
theorem mnew_bad (b : Nat) (n : Int) (hw : -9223372036854775808 ≤ n) (hno : ∀ k, k ≤ 20 → n ≠ two k) (W : World) :
    Calls Try.prog 53 #[.pointer (some ⟨b, 0, none⟩), .int .i64 n] W fun e w' => ∃ q, e = .returned (.tuple #[.pointer none, .iface 164 (.pointer (some ⟨q, 0, none⟩))]) ∧ Chain w' (.iface 164 (.pointer (some ⟨q, 0, none⟩))) 2 7 ∧ Below W.heap.size W w' := by
  have HOF := Lib.hid (pow_of_bad n hw hno)
  clear hno
  go_enter Try.func53, Try.ntmps53
  go_wp2_with (first
    | (go_at_call 14; refine (HOF.out _).mono ?_; rintro e w1 ⟨F, rfl, hc, hb⟩; have hbx : Below W.heap.size W (w1.alloc (.cells #[.int .u8 0] 23)) := balloc hb _; have HB := Lib.hid hbx; have HC := Lib.hid (hc.keep (balloc (Below.refl _ _) (.cells #[.int .u8 0] 23))); obtain ⟨u, v, rfl⟩ := hc.iface; clear hc hb hbx)
    | (go_at_call 77; refine (wrap_deep _ _ HC.out).mono ?_; rintro e w2 ⟨q, rfl, hc, hb⟩; have HC2 := Lib.hid hc; have HB2 := Lib.hid (bthen HB.out hb); clear hc hb))
  go_ret2
  exact ⟨q, rfl, HC2.out, HB2.out⟩

/-- Errors that were there. -/
def RC (X : World) : Rest := ⟨fun k => ∃ c m, X.heap[k]? = some (Obj.cells c 166 m), fun w => ∀ k c m, X.heap[k]? = some (Obj.cells c 166 m) → w.heap[k]? = some (Obj.cells c 166 m), fun w w' h hk k c m e => by rw [hk k ⟨c, m, e⟩]; exact h k c m e⟩
theorem rc_chain {X w : World} (h : (RC X).inv w) {E : Value} {d : Nat} {n : Int} (hc : Chain X E d n) : Chain w E d n := by
  induction hc with
  | num n => exact .num n
  | fault q op seq E d n h0 _ ih => exact .fault q op seq E d n (h _ _ _ h0) ih
theorem Mv.chains {R : Rest} {W0 W : World} {b : Nat} {xs : List Int} {st : Int} (h : Mv R W0 W b xs st) : Mv (RC W) W0 W b xs st := by
  refine h.turn (S := fun _ => False) (Frm.refl _ _) (fun _ _ _ h => h.elim) ?_ (fun _ _ _ e => e)
  rintro g ⟨c, m, hc⟩
  exact .inr ⟨c, _, m, hc, by decide, by decide⟩

/-- Behind a world X: errors by their numbers. -/
def Es (X w : World) (l : List (Value × Nat × Int)) : Prop := Below X.heap.size X w ∧ ∀ x ∈ l, Chain w x.1 x.2.1 x.2.2
theorem Es.keep {X w w' : World} {l : List (Value × Nat × Int)} (h : Es X w l) (hb : Below w.heap.size w w') : Es X w' l := ⟨bthen h.1 hb, fun x hx => (h.2 x hx).keep hb⟩
theorem Es.cons {X w w' : World} {l : List (Value × Nat × Int)} (h : Es X w l) (hb : Below w.heap.size w w') {E : Value} {d : Nat} {n : Int} (hc : Chain w' E d n) : Es X w' ((E, d, n) :: l) :=
  ⟨bthen h.1 hb, fun x hx => by
    rcases List.mem_cons.1 hx with rfl | hx
    · exact hc
    · exact (h.2 x hx).keep hb⟩
theorem Refused.q {W w : World} {E : Value} {n : Int} (h : Refused W w E n) : ∃ q, E = .iface 164 (.pointer (some ⟨q, 0, none⟩)) ∧ Chain w E 1 n ∧ Below W.heap.size W w := h
end Go.Proofs.Yteinfkcnengmeaa
