/-
  What a refusal leaves: an error by its number, and nothing turned; errors stay what they are. No condition but those that each theorem names.
-/
import Derived.Test.YtjadapjjilegnaaErr
import Derived.Test.YtjadapjjilegnaaMem
namespace Go.Proofs.Ytjadapjjilegnaa
open Go.RowKit

theorem drewB {B : Nat} {a b : World} (h : Below B a b) (n : Nat) : Below B a (b.drewN n) := ⟨h.os, h.tape, h.output, h.size, h.block⟩

/-- What a refusal leaves: an error by its number, and nothing turned. -/
def Refused (W w' : World) (E : Value) (n : Int) : Prop := ∃ q, E = .iface 241 (.pointer (some ⟨q, 0, none⟩)) ∧ Chain w' E 1 n ∧ Below W.heap.size W w'
theorem refused_of {W w' : World} {op id : Value} {n : Int} (h : W.alloc (.cells #[op, id, .iface 184 (.int .i64 n)] 243) = w') (hop : ∃ s, op = .string s := by exact ⟨_, rfl⟩) (hid : ∃ i, id = .int .i64 i := by exact ⟨_, rfl⟩) :
    Refused W w' (.iface 241 (.pointer (some ⟨W.heap.size, 0, none⟩))) n := by
  obtain ⟨h1, h2⟩ := err_new h hop hid
  exact ⟨_, rfl, h1, h2⟩

theorem Refused.box {W w' : World} {E : Value} {n : Int} {o : Obj} (h : Refused (W.alloc o) w' E n) : Refused W w' E n := by
  obtain ⟨q, h1, h2, h3⟩ := h
  exact ⟨q, h1, h2, bthen ((Below.refl _ W).alloc (Nat.le_refl _) o) h3⟩
theorem Refused.after {W w w' : World} {E : Value} {n : Int} (h : Refused w w' E n) (hb : Below W.heap.size W w) : Refused W w' E n := by
  obtain ⟨q, h1, h2, h3⟩ := h
  exact ⟨q, h1, h2, bthen hb h3⟩
/-- A refusal's error stays what it is. -/
theorem Refused.hold {W w w' : World} {E : Value} {n : Int} (h : Refused W w E n) (hb : Below w.heap.size w w') : Chain w' E 1 n := by
  obtain ⟨q, _, h2, _⟩ := h
  exact h2.keep hb
theorem Refused.below {W w : World} {E : Value} {n : Int} (h : Refused W w E n) : Below W.heap.size W w := by
  obtain ⟨q, _, _, h3⟩ := h
  exact h3

/-- Errors stay what they are. -/
def Held (W w : World) : Prop := ∀ E d n, Chain W E d n → Chain w E d n
theorem Held.of_below {W w : World} (hb : Below W.heap.size W w) : Held W w := fun _ _ _ h => h.keep hb
theorem Held.then {a b c : World} (h : Held a b) (g : Held b c) : Held a c := fun E d n k => g E d n (h E d n k)
theorem Held.of_frm {S : Nat → Prop} {W w : World} (h : Frm S W w) (hS : ∀ k cs T m, S k → W.heap[k]? = some (.cells cs T m) → T ≠ 243) : Held W w := by
  intro E d n hc
  induction hc with
  | num n => exact .num n
  | fault q op seq E d n h0 _ ih => exact .fault q op seq E d n (h.obj h0 fun hs => hS q _ _ _ hs h0 rfl) ih

/-- What lies new ahead of a call lies there behind it. -/
theorem new2 {W w : World} {x y : Value} {t : TypeId} (hb : Below (W.alloc (.cells #[x, y] t)).heap.size (W.alloc (.cells #[x, y] t)) w) : w.cell? ⟨W.heap.size, 0, none⟩ = some x ∧ w.cell? ⟨W.heap.size, 1, none⟩ = some y :=
  ⟨keepc hb ((obj_cell (obj_new W _) 0).trans rfl), keepc hb ((obj_cell (obj_new W _) 1).trans rfl)⟩
theorem new2f {W w : World} {x y : Value} {t : TypeId} (hb : Below (W.alloc (.cells #[x, y] t)).heap.size (W.alloc (.cells #[x, y] t)) w) (j : Nat) : w.frozen? ⟨W.heap.size, j, none⟩ = false :=
  obj_free ((hb.block _ (by simp)).trans (obj_new W _)) j
/-- A new block's cells set. -/
theorem set_new {W w : World} {o : Obj} (h : Below (W.alloc o).heap.size (W.alloc o) w) (u v : Value) : Below W.heap.size W ((w.setCell ⟨W.heap.size, 0, none⟩ u).setCell ⟨W.heap.size, 1, none⟩ v) :=
  ((bthen ((Below.refl _ W).alloc (Nat.le_refl _) o) h).setCell (p := ⟨W.heap.size, 0, none⟩) (Nat.le_refl _) _).setCell (p := ⟨W.heap.size, 1, none⟩) (Nat.le_refl _) _
/-- The same behind a refusal. -/
theorem Refused.cells {W w' : World} {q : Nat} {n : Int} {x y : Value} {t : TypeId} (h1 : Chain w' (.iface 241 (.pointer (some ⟨q, 0, none⟩))) 1 n) (h2 : Below (W.alloc (.cells #[x, y] t)).heap.size (W.alloc (.cells #[x, y] t)) w') (u v : Value) :
    Refused W ((w'.setCell ⟨W.heap.size, 0, none⟩ u).setCell ⟨W.heap.size, 1, none⟩ v) (.iface 241 (.pointer (some ⟨q, 0, none⟩))) n := by
  refine ⟨q, rfl, ?_, set_new h2 u v⟩
  cases h1 with
  | fault b op seq E d n h0 hc =>
    cases hc
    have hq : q ≠ W.heap.size := by
      intro e
      have := (h2.block _ (by simp)).trans (obj_new W (.cells #[x, y] t))
      rw [← e, h0] at this
      simp at this
    have hf : Frm (fun k => k = W.heap.size) w' ((w'.setCell ⟨W.heap.size, 0, none⟩ u).setCell ⟨W.heap.size, 1, none⟩ v) := ((Frm.refl (fun k => k = W.heap.size) w').setCell (p := ⟨W.heap.size, 0, none⟩) rfl _).setCell (p := ⟨W.heap.size, 1, none⟩) rfl _
    exact .fault _ _ _ _ _ _ (hf.obj h0 hq) (.num n)
theorem slots_below {W w' : World} {o : Obj} (h : W.alloc o = w') : Below W.heap.size W w' := h ▸ (Below.refl _ W).alloc (Nat.le_refl _) o

theorem cl_keep {W a w' : World} {b : Nat} {v x : Value} (hb : Below a.heap.size a w') (h : a.cell? ⟨b, 0, none⟩ = some v ∧ a.cell? ⟨b, 1, none⟩ = some x ∧ Below W.heap.size W a) :
    w'.cell? ⟨b, 0, none⟩ = some v ∧ w'.cell? ⟨b, 1, none⟩ = some x ∧ Below W.heap.size W w' := ⟨keepc hb h.1, keepc hb h.2.1, bthen h.2.2 hb⟩
theorem cl_alloc {W a : World} {b : Nat} {v x : Value} (o : Obj) (h : a.cell? ⟨b, 0, none⟩ = some v ∧ a.cell? ⟨b, 1, none⟩ = some x ∧ Below W.heap.size W a) :
    (a.alloc o).cell? ⟨b, 0, none⟩ = some v ∧ (a.alloc o).cell? ⟨b, 1, none⟩ = some x ∧ Below W.heap.size W (a.alloc o) := cl_keep ((Below.refl _ _).alloc (Nat.le_refl _) o) h
end Go.Proofs.Ytjadapjjilegnaa
