/-
  What a refusal leaves: an error by its number, and nothing turned; errors stay what they are. No condition but those that each theorem names.
-/
import Derived.Test.YtdbjeaploanalaaCells6
namespace Go.Proofs.Ytdbjeaploanalaa
open Go.RowKit

theorem drewB {B : Nat} {a b : World} (h : Below B a b) (n : Nat) : Below B a (b.drewN n) := ⟨h.os, h.tape, h.output, h.size, h.block⟩

/-- What a refusal leaves: an error by its number, and nothing turned. -/
def Refused (W w' : World) (E : Value) (n : Int) : Prop := ∃ q, E = .iface 117 (.pointer (some ⟨q, 0, none⟩)) ∧ Chain w' E 1 n ∧ Below W.heap.size W w'
theorem refused_of {W w' : World} {op id : Value} {n : Int} (h : W.alloc (.cells #[op, id, .iface 92 (.int .i64 n)] 119) = w') (hop : ∃ s, op = .string s := by exact ⟨_, rfl⟩) (hid : ∃ i, id = .int .i64 i := by exact ⟨_, rfl⟩) :
    Refused W w' (.iface 117 (.pointer (some ⟨W.heap.size, 0, none⟩))) n := by
  obtain ⟨h1, h2⟩ := err_new h hop hid
  exact ⟨_, rfl, h1, h2⟩

theorem Refused.box {W w' : World} {E : Value} {n : Int} {o : Obj} (h : Refused (W.alloc o) w' E n) : Refused W w' E n := by
  obtain ⟨q, h1, h2, h3⟩ := h
  exact ⟨q, h1, h2, bthen ((Below.refl _ W).alloc (Nat.le_refl _) o) h3⟩
theorem Refused.after {W w w' : World} {E : Value} {n : Int} (h : Refused w w' E n) (hb : Below W.heap.size W w) : Refused W w' E n := by
  obtain ⟨q, h1, h2, h3⟩ := h
  exact ⟨q, h1, h2, bthen hb h3⟩
/-- A refusal's error stays what it is. -/
theorem Refused.hold {W w w' : World} {E : Value} {n : Int} (h : Refused W w E n) (hb : Below w.heap.size w w') : Chain w' E 1 n := by
  obtain ⟨q, _, h2, _⟩ := h
  exact h2.keep hb
theorem Refused.below {W w : World} {E : Value} {n : Int} (h : Refused W w E n) : Below W.heap.size W w := by
  obtain ⟨q, _, _, h3⟩ := h
  exact h3

/-- Errors stay what they are. -/
def Held (W w : World) : Prop := ∀ E d n, Chain W E d n → Chain w E d n
theorem Held.of_below {W w : World} (hb : Below W.heap.size W w) : Held W w := fun _ _ _ h => h.keep hb
theorem Held.then {a b c : World} (h : Held a b) (g : Held b c) : Held a c := fun E d n k => g E d n (h E d n k)
theorem Held.of_frm {S : Nat → Prop} {W w : World} (h : Frm S W w) (hS : ∀ k cs T m, S k → W.heap[k]? = some (.cells cs T m) → T ≠ 119) : Held W w := by
  intro E d n hc
  induction hc with
  | num n => exact .num n
  | fault q op seq E d n h0 _ ih => exact .fault q op seq E d n (h.obj h0 fun hs => hS q _ _ _ hs h0 rfl) ih
end Go.Proofs.Ytdbjeaploanalaa
