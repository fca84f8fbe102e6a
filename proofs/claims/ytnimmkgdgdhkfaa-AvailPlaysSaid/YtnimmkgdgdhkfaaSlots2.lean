/-
  Put, Get, Size, New of package slots, by contract. Conditions: the ring is one that New made.
-/
import Derived.Test.YtnimmkgdgdhkfaaSlots
import Derived.Test.YtnimmkgdgdhkfaaTail
namespace Go.Proofs.Ytnimmkgdgdhkfaa
open Go.RowKit

/-- What lies new ahead of a call lies there behind it. -/
theorem new2 {W w : World} {x y : Value} {t : TypeId} (hb : Below (W.alloc (.cells #[x, y] t)).heap.size (W.alloc (.cells #[x, y] t)) w) : w.cell? ⟨W.heap.size, 0, none⟩ = some x ∧ w.cell? ⟨W.heap.size, 1, none⟩ = some y :=
  ⟨keepc hb ((obj_cell (obj_new W _) 0).trans rfl), keepc hb ((obj_cell (obj_new W _) 1).trans rfl)⟩
theorem new2f {W w : World} {x y : Value} {t : TypeId} (hb : Below (W.alloc (.cells #[x, y] t)).heap.size (W.alloc (.cells #[x, y] t)) w) (j : Nat) : w.frozen? ⟨W.heap.size, j, none⟩ = false :=
  obj_free ((hb.block _ (by simp)).trans (obj_new W _)) j
/-- A new block's cells set. -/
theorem set_new {W w : World} {o : Obj} (h : Below (W.alloc o).heap.size (W.alloc o) w) (u v : Value) : Below W.heap.size W ((w.setCell ⟨W.heap.size, 0, none⟩ u).setCell ⟨W.heap.size, 1, none⟩ v) :=
  ((bthen ((Below.refl _ W).alloc (Nat.le_refl _) o) h).setCell (p := ⟨W.heap.size, 0, none⟩) (Nat.le_refl _) _).setCell (p := ⟨W.heap.size, 1, none⟩) (Nat.le_refl _) _
/-- The same behind a refusal. -/
theorem Refused.cells {W w' : World} {q : Nat} {n : Int} {x y : Value} {t : TypeId} (h1 : Chain w' (.iface 121 (.pointer (some ⟨q, 0, none⟩))) 1 n) (h2 : Below (W.alloc (.cells #[x, y] t)).heap.size (W.alloc (.cells #[x, y] t)) w') (u v : Value) :
    Refused W ((w'.setCell ⟨W.heap.size, 0, none⟩ u).setCell ⟨W.heap.size, 1, none⟩ v) (.iface 121 (.pointer (some ⟨q, 0, none⟩))) n := by
  refine ⟨q, rfl, ?_, set_new h2 u v⟩
  cases h1 with
  | fault b op seq E d n h0 hc =>
    cases hc
    have hq : q ≠ W.heap.size := by
      intro e
      have := (h2.block _ (by simp)).trans (obj_new W (.cells #[x, y] t))
      rw [← e, h0] at this
      simp at this
    have hf : Frm (fun k => k = W.heap.size) w' ((w'.setCell ⟨W.heap.size, 0, none⟩ u).setCell ⟨W.heap.size, 1, none⟩ v) := ((Frm.refl (fun k => k = W.heap.size) w').setCell (p := ⟨W.heap.size, 0, none⟩) rfl _).setCell (p := ⟨W.heap.size, 1, none⟩) rfl _
    exact .fault _ _ _ _ _ _ (hf.obj h0 hq) (.num n)
theorem slots_below {W w' : World} {o : Obj} (h : W.alloc o = w') : Below W.heap.size W w' := h ▸ (Below.refl _ W).alloc (Nat.le_refl _) o
theorem put_nil (seq x y : Int) (W : World) :
    Calls Try.prog 41 #[.pointer none, .int .i64 seq, .agg #[.int .i64 x, .int .i64 y]] W fun e w' => ∃ E, e = .returned E ∧ Refused W w' E 2 := by
  go_enter Try.func41, Try.ntmps41
  go_wp2_with (go_at_call 64; refine (rcheck_nil _ _ _).mono ?_; rintro e w' ⟨E, rfl, q, rfl, hr1, hr2⟩; have HR := Lib.hid (Refused.box ⟨q, rfl, hr1, hr2⟩); clear hr1 hr2)
  go_ret
  exact ⟨_, rfl, HR.out⟩

theorem put_bad (seq x y : Int) (W : World) (b g c k : Nat) (xs : List Ev) (h : Rg W b g c k xs) (hs : seq < 0 ∨ 4611686018427387904 < seq) :
    Calls Try.prog 41 #[.pointer (some ⟨b, 0, none⟩), .int .i64 seq, .agg #[.int .i64 x, .int .i64 y]] W fun e w' => ∃ E, e = .returned E ∧ Refused W w' E 5 := by
  have H := Lib.hid (h.keepB ((Below.refl _ W).alloc (Nat.le_refl _) (.cells #[.int .i64 x, .int .i64 y] 67)))
  have HS := Lib.hid hs
  clear h hs
  go_enter Try.func41, Try.ntmps41
  go_wp2_with (go_at_call 64; refine (rcheck_bad _ _ _ b g c k xs H.out HS.out).mono ?_; rintro e w' ⟨E, rfl, q, rfl, hr1, hr2⟩; have HR := Lib.hid (Refused.box ⟨q, rfl, hr1, hr2⟩); clear hr1 hr2)
  go_ret
  exact ⟨_, rfl, HR.out⟩

/-- What a ring's Put leaves. -/
def RgSet (W w' : World) (b g c k : Nat) (xs : List Ev) : Prop := Rg w' b g c k xs ∧ Frm (fun q => q = g) W w'
theorem put_end {W w : World} {b g c k i : Nat} {xs : List Ev} (h : Rg W b g c k xs) (hb : Below W.heap.size W w) (hi : i < xs.length) (x y : Int) :
    RgSet W ((w.setCell ⟨g, i * 2, none⟩ (.int .i64 x)).setCell ⟨g, i * 2 + 1, none⟩ (.int .i64 y)) b g c k (xs.set i (x, y)) := by
  obtain ⟨h1, h2⟩ := (h.keepB hb).set hi (x, y)
  exact ⟨h1, (Frm.of_below hb _).trans h2⟩

set_option maxHeartbeats 1000000 in
theorem put_ok (seq x y : Int) (W : World) (b g c k : Nat) (xs : List Ev) (h : Rg W b g c k xs) (h0 : 0 ≤ seq) (h1 : seq ≤ 4611686018427387904) (i : Nat) (hi : seq % two k = i) (hlt : i < xs.length) :
    Calls Try.prog 41 #[.pointer (some ⟨b, 0, none⟩), .int .i64 seq, .agg #[.int .i64 x, .int .i64 y]] W fun e w' => e = .returned .nilIface ∧ RgSet W w' b g c k (xs.set i (x, y)) := by
  have hb1 : Below W.heap.size W (W.alloc (.cells #[.int .i64 x, .int .i64 y] 67)) := (Below.refl _ W).alloc (Nat.le_refl _) _
  have H := Lib.hid (h.keepB hb1)
  have HE := Lib.hid (fun w (hb : Below (W.alloc (.cells #[.int .i64 x, .int .i64 y] 67)).heap.size (W.alloc (.cells #[.int .i64 x, .int .i64 y] 67)) w) => put_end h (bthen hb1 hb) hlt x y)
  have HF := Lib.hid (fun w (hb : Below (W.alloc (.cells #[.int .i64 x, .int .i64 y] 67)).heap.size (W.alloc (.cells #[.int .i64 x, .int .i64 y] 67)) w) => (h.keepB (bthen hb1 hb)).spot hlt)
  have HS1 : Hid (∀ x1 : Later (W.alloc (.cells #[.int .i64 x, .int .i64 y] 67)), Calls Try.prog 65 #[.pointer (some ⟨b, 0, none⟩), .int .i64 seq] x1.to fun e w'' => e = .returned (.pointer (some ⟨g, i * 2, none⟩)) ∧ ∃ y1 : Later (W.alloc (.cells #[.int .i64 x, .int .i64 y] 67)), w'' = y1.to) :=
    fun x1 => (rslot_some seq _ b g c k xs ((h.keepB hb1).keepB x1.below) i hi hlt).mono fun e w h => ⟨h.1, ⟨w, bthen x1.below h.2⟩, rfl⟩
  have HC : Hid (Calls Try.prog 64 #[.pointer (some ⟨b, 0, none⟩), .string ⟨#[112, 117, 116]⟩, .int .i64 seq] (W.alloc (.cells #[.int .i64 x, .int .i64 y] 67)) fun e w' => e = .returned .nilIface ∧ W.alloc (.cells #[.int .i64 x, .int .i64 y] 67) = w') := rcheck_ok _ seq _ b g c k xs (h.keepB hb1) h0 h1
  have n0 : ∀ x1 : Later (W.alloc (.cells #[.int .i64 x, .int .i64 y] 67)), x1.to.cell? ⟨W.heap.size, 0, none⟩ = some (.int .i64 x) := fun x1 => keepc x1.below ((obj_cell (obj_new W _) 0).trans rfl)
  have n1 : ∀ x1 : Later (W.alloc (.cells #[.int .i64 x, .int .i64 y] 67)), x1.to.cell? ⟨W.heap.size, 1, none⟩ = some (.int .i64 y) := fun x1 => keepc x1.below ((obj_cell (obj_new W _) 1).trans rfl)
  clear h hi hlt h0 h1 H hb1
  go_enter Try.func41, Try.ntmps41
  go_wp2_with fail
  generalize W.alloc (.cells #[.int .i64 x, .int .i64 y] 67) = W1 at *
  generalize W.heap.size = ob at *
  go_wp2_with (go_at_call 64; refine HC.out.mono ?_; rintro e w' ⟨rfl, rfl⟩)
  refine wp_region_later_tail 5 (by kernel_rfl) (by kernel_rfl) ?_
  simp only [List.take_succ_cons, List.take_zero, List.drop_succ_cons, List.drop_zero]
  repeat (go_big_quiet_step ((go_at_call 65; exact HS1.out _)))
  refine wpQuiet_nil ?_
  intro w2 hw'
  obtain ⟨⟨w2', hb2⟩, hw2⟩ := hw'
  obtain rfl : w2 = w2' := hw2
  obtain ⟨u0, u1, hc0, hc1, hf⟩ := HF.out w2 hb2
  have HB2 := Lib.hid hb2
  clear n0 n1 hb2
  go_wp2
  go_ret
  exact ⟨rfl, HE.out _ HB2.out⟩
end Go.Proofs.Ytnimmkgdgdhkfaa
