/-
  A ring of package slots: its row of events, two cells each; what is refused, where an index's slot lies, New, Size, Clone: by contract. Conditions: the ring is one that New made.
-/
import Derived.Test.YtnimmkgdgdhkfaaPow
import Derived.Test.YtnimmkgdgdhkfaaMem2
import Derived.Test.YtnimmkgdgdhkfaaLater
import Derived.Test.YtnimmkgdgdhkfaaCells6
import Derived.OwnWalk
import Derived.Outline
namespace Go.Proofs.Ytnimmkgdgdhkfaa
open Go.RowKit

theorem drewB {B : Nat} {a b : World} (h : Below B a b) (n : Nat) : Below B a (b.drewN n) := ⟨h.os, h.tape, h.output, h.size, h.block⟩

abbrev Ev := Int × Int
/-- Events as cells. -/
def flat2 (xs : List Ev) : List Value := xs.flatMap fun a => [.int .i64 a.1, .int .i64 a.2]
theorem flat2_len (xs : List Ev) : (flat2 xs).length = xs.length * 2 := by
  unfold flat2
  induction xs with
  | nil => rfl
  | cons t l ih => simp only [List.flatMap_cons, List.length_append, ih, List.length_cons, List.length_nil]; omega
theorem flat2_append (a b : List Ev) : flat2 (a ++ b) = flat2 a ++ flat2 b := by unfold flat2; rw [List.flatMap_append]
theorem flat2_one (a : Ev) : flat2 [a] = [.int .i64 a.1, .int .i64 a.2] := rfl
theorem flat2_cons (a : Ev) (l : List Ev) : flat2 (a :: l) = .int .i64 a.1 :: .int .i64 a.2 :: flat2 l := rfl
theorem flat2_split {xs : List Ev} {k : Nat} {a : Ev} (h : xs[k]? = some a) : flat2 xs = flat2 (xs.take k) ++ (.int .i64 a.1 :: .int .i64 a.2 :: flat2 (xs.drop (k + 1))) ∧ (flat2 (xs.take k)).length = k * 2 ∧ k < xs.length := by
  obtain ⟨hk, rfl⟩ := List.getElem?_eq_some_iff.1 h
  refine ⟨?_, by rw [flat2_len, List.length_take]; omega, hk⟩
  rw [← flat2_cons, ← flat2_append, ← List.drop_eq_getElem_cons hk, List.take_append_drop]
theorem flat2_get {xs : List Ev} {k : Nat} {a : Ev} (h : xs[k]? = some a) : (flat2 xs)[k * 2]? = some (.int .i64 a.1) ∧ (flat2 xs)[k * 2 + 1]? = some (.int .i64 a.2) := by
  obtain ⟨h1, h2, h3⟩ := flat2_split h
  rw [h1]
  refine ⟨?_, ?_⟩ <;> (rw [List.getElem?_append_right (by omega), h2]; simp)
theorem flat2_set {xs : List Ev} {k : Nat} (h : k < xs.length) (b : Ev) : ((flat2 xs).set (k * 2) (.int .i64 b.1)).set (k * 2 + 1) (.int .i64 b.2) = flat2 (xs.set k b) := by
  obtain ⟨h1, h2, h3⟩ := flat2_split (List.getElem?_eq_getElem h)
  rw [List.set_eq_take_append_cons_drop (l := xs), if_pos h, flat2_append, flat2_cons, h1, List.set_append_right _ _ (by omega), h2, List.set_append_right _ _ (by omega), h2]
  simp
theorem flat2_replicate (n : Nat) : flat2 (List.replicate n (0, 0)) = List.replicate (n * 2) (.int .i64 0) := by
  induction n with
  | zero => rfl
  | succ n ih => rw [List.replicate_succ, flat2_cons, ih, Nat.succ_mul, ← List.replicate_succ, ← List.replicate_succ]

/-- A ring in a block, its row in another one. -/
def Rg (W : World) (b g c k : Nat) (xs : List Ev) : Prop :=
  W.heap[b]? = some (.cells #[.int .u8 k, .slice (some ⟨g, 0, none⟩) xs.length c] 112 (0, 0)) ∧ W.ownsRow 0 67 2 (.slice (some ⟨g, 0, none⟩) xs.length c) xs.length (flat2 xs) ∧ (xs.length : Int) = two k ∧ k ≤ 20

theorem Rg.c0 {W : World} {b g c k : Nat} {xs : List Ev} (h : Rg W b g c k xs) : W.cell? ⟨b, 0, none⟩ = some (.int .u8 k) := (obj_cell h.1 0).trans rfl
theorem Rg.c1 {W : World} {b g c k : Nat} {xs : List Ev} (h : Rg W b g c k xs) : W.cell? ⟨b, 1, none⟩ = some (.slice (some ⟨g, 0, none⟩) xs.length c) := (obj_cell h.1 1).trans rfl
theorem Rg.lt {W : World} {b g c k : Nat} {xs : List Ev} (h : Rg W b g c k xs) : b < W.heap.size ∧ g < W.heap.size := ⟨lt_of_block h.1, row_lt h.2.1 rfl⟩
theorem Rg.ne {W : World} {b g c k : Nat} {xs : List Ev} (h : Rg W b g c k xs) : b ≠ g := fun e => row_ne h.2.1 h.1 (by decide) (by simp [Value.ownBlock, e])
theorem Rg.keep {S : Nat → Prop} {W w' : World} {b g c k : Nat} {xs : List Ev} (h : Rg W b g c k xs) (hf : Frm S W w') (hb : ¬ S b) (hg : ¬ S g) : Rg w' b g c k xs :=
  ⟨hf.obj h.1 hb, hf.row h.2.1 (fun g' hg' => by simp [Value.ownBlock] at hg'; subst hg'; exact hg), h.2.2⟩
theorem Rg.keepB {W w' : World} {b g c k : Nat} {xs : List Ev} (h : Rg W b g c k xs) (hf : Below W.heap.size W w') : Rg w' b g c k xs :=
  h.keep (Frm.of_below hf fun _ => False) id id
theorem Rg.at {W : World} {b g c k : Nat} {xs : List Ev} (h : Rg W b g c k xs) {i : Nat} {a : Ev} (hi : xs[i]? = some a) : W.cell? ⟨g, i * 2, none⟩ = some (.int .i64 a.1) ∧ W.cell? ⟨g, i * 2 + 1, none⟩ = some (.int .i64 a.2) := by
  obtain ⟨f0, f1⟩ := flat2_get hi
  have hlt : i < xs.length := (List.getElem?_eq_some_iff.1 hi).1
  exact ⟨(h.2.1.cellAt (i * 2) (by omega)).trans f0, (h.2.1.cellAt (i * 2 + 1) (by omega)).trans f1⟩
theorem Rg.spot {W : World} {b g c k : Nat} {xs : List Ev} (h : Rg W b g c k xs) {i : Nat} (hi : i < xs.length) : ∃ u v, W.cell? ⟨g, i * 2, none⟩ = some u ∧ W.cell? ⟨g, i * 2 + 1, none⟩ = some v ∧ ∀ j, W.frozen? ⟨g, j, none⟩ = false := by
  obtain ⟨h0, h1⟩ := h.at (List.getElem?_eq_getElem hi)
  exact ⟨_, _, h0, h1, fun j => h.2.1.frozenAt j⟩
theorem Rg.set {W : World} {b g c k : Nat} {xs : List Ev} (h : Rg W b g c k xs) {i : Nat} (hi : i < xs.length) (a : Ev) : Rg ((W.setCell ⟨g, i * 2, none⟩ (.int .i64 a.1)).setCell ⟨g, i * 2 + 1, none⟩ (.int .i64 a.2)) b g c k (xs.set i a) ∧ Frm (fun q => q = g) W ((W.setCell ⟨g, i * 2, none⟩ (.int .i64 a.1)).setCell ⟨g, i * 2 + 1, none⟩ (.int .i64 a.2)) := by
  have hf : Frm (fun q => q = g) W ((W.setCell ⟨g, i * 2, none⟩ (.int .i64 a.1)).setCell ⟨g, i * 2 + 1, none⟩ (.int .i64 a.2)) := ((Frm.refl (fun q => q = g) W).setCell (p := ⟨g, i * 2, none⟩) rfl _).setCell (p := ⟨g, i * 2 + 1, none⟩) rfl _
  have hs := ((h.2.1.stored (i * 2) (.int .i64 a.1)).1.stored (i * 2 + 1) (.int .i64 a.2)).1
  rw [flat2_set hi a] at hs
  exact ⟨⟨by rw [List.length_set]; exact hf.obj h.1 h.ne, by rw [List.length_set]; exact hs, by rw [List.length_set]; exact h.2.2.1, h.2.2.2⟩, hf⟩
theorem Rg.start {w : World} {v : Value} {k : Nat} {xs : List Ev} (ho : w.ownsRow 0 67 2 v xs.length (flat2 xs)) (hl : (xs.length : Int) = two k) (hk : k ≤ 20) :
    ∃ g c, v.ownBlock = some g ∧ Rg (w.alloc (.cells #[.int .u8 k, v] 112)) w.heap.size g c k xs := by
  have h0 := two_pos k
  rcases ho.2 with ⟨_, h1⟩ | ⟨g, cap, cur, rfl, _⟩
  · omega
  · exact ⟨g, cap, rfl, obj_new _ _, ho.alloc _, hl, hk⟩
/-- An index has one of the slots. -/
theorem Rg.slot {W : World} {b g c k : Nat} {xs : List Ev} (h : Rg W b g c k xs) (seq : Int) : ∃ i : Nat, seq % two k = i ∧ i < xs.length ∧ (i : Int) < two k := by
  have h0 := two_pos k
  have h1 := Int.emod_nonneg seq (show two k ≠ 0 by omega)
  have h2 := Int.emod_lt_of_pos seq h0
  have h3 := h.2.2.1
  exact ⟨(seq % two k).toNat, by omega, by omega, by omega⟩

/-- An index by its number. -/
theorem index_is (k : Nat) (hk : k ≤ 20) (seq : Int) (i : Nat) (hi : seq % two k = i) (w : World) :
    Calls Try.prog 25 #[.agg #[.int .u8 k], .int .i64 seq] w fun e w' => e = .returned (.int .i64 i) ∧ Below w.heap.size w w' := by
  rw [← hi]; exact index_any k hk seq w

/-- A fault around a number, new. -/
theorem ferr2 {W w' : World} {op id : Value} {n : Int} (h : W.alloc (.cells #[op, id, .iface 97 (.int .i64 n)] 123) = w') (hop : ∃ s, op = .string s := by exact ⟨_, rfl⟩) (hid : ∃ i, id = .int .i64 i := by exact ⟨_, rfl⟩) :
    ∃ q, Value.iface 121 (.pointer (some ⟨W.heap.size, 0, none⟩)) = .iface 121 (.pointer (some ⟨q, 0, none⟩)) ∧ Chain w' (.iface 121 (.pointer (some ⟨q, 0, none⟩))) 1 n ∧ Below W.heap.size W w' :=
  ⟨_, rfl, err_new h hop hid⟩

/-- What a refusal leaves: an error by its number, and nothing turned. -/
def Refused (W w' : World) (E : Value) (n : Int) : Prop := ∃ q, E = .iface 121 (.pointer (some ⟨q, 0, none⟩)) ∧ Chain w' E 1 n ∧ Below W.heap.size W w'
theorem refused_of {W w' : World} {op id : Value} {n : Int} (h : W.alloc (.cells #[op, id, .iface 97 (.int .i64 n)] 123) = w') (hop : ∃ s, op = .string s := by exact ⟨_, rfl⟩) (hid : ∃ i, id = .int .i64 i := by exact ⟨_, rfl⟩) :
    Refused W w' (.iface 121 (.pointer (some ⟨W.heap.size, 0, none⟩))) n := by
  obtain ⟨h1, h2⟩ := err_new h hop hid
  exact ⟨_, rfl, h1, h2⟩

theorem Refused.box {W w' : World} {E : Value} {n : Int} {o : Obj} (h : Refused (W.alloc o) w' E n) : Refused W w' E n := by
  obtain ⟨q, h1, h2, h3⟩ := h
  exact ⟨q, h1, h2, bthen ((Below.refl _ W).alloc (Nat.le_refl _) o) h3⟩
theorem Refused.after {W w w' : World} {E : Value} {n : Int} (h : Refused w w' E n) (hb : Below W.heap.size W w) : Refused W w' E n := by
  obtain ⟨q, h1, h2, h3⟩ := h
  exact ⟨q, h1, h2, bthen hb h3⟩
/-- A refusal's error stays what it is. -/
theorem Refused.hold {W w w' : World} {E : Value} {n : Int} (h : Refused W w E n) (hb : Below w.heap.size w w') : Chain w' E 1 n := by
  obtain ⟨q, _, h2, _⟩ := h
  exact h2.keep hb
theorem Refused.below {W w : World} {E : Value} {n : Int} (h : Refused W w E n) : Below W.heap.size W w := by
  obtain ⟨q, _, _, h3⟩ := h
  exact h3

theorem rcheck_nil (op : ByteArray) (seq : Int) (W : World) :
    Calls Try.prog 64 #[.pointer none, .string op, .int .i64 seq] W fun e w' => ∃ E, e = .returned E ∧ Refused W w' E 2 := by
  go_enter Try.func64, Try.ntmps64
  go_wp2_with (go_at_call 56; refine (wrap_iface _ _ _ _).mono ?_; rintro e w' ⟨rfl, hw⟩; have HR := Lib.hid (refused_of hw); clear hw)
  go_ret
  exact ⟨_, rfl, HR.out⟩

theorem rcheck_bad (op : ByteArray) (seq : Int) (W : World) (b g c k : Nat) (xs : List Ev) (h : Rg W b g c k xs) (hs : seq < 0 ∨ 4611686018427387904 < seq) :
    Calls Try.prog 64 #[.pointer (some ⟨b, 0, none⟩), .string op, .int .i64 seq] W fun e w' => ∃ E, e = .returned E ∧ Refused W w' E 5 := by
  have c1 := h.c1
  have hz : ((xs.length : Int) == 0) = false := by have := h.2.2.1; have := two_pos k; rw [beq_eq_false_iff_ne]; omega
  generalize xs.length = n at *
  clear h
  rcases hs with hs | hs
  · go_enter Try.func64, Try.ntmps64
    go_wp2_with (go_at_call 56; refine (wrap_iface _ _ _ _).mono ?_; rintro e w' ⟨rfl, hw⟩; have HR := Lib.hid (refused_of hw); clear hw)
    go_ret
    exact ⟨_, rfl, HR.out⟩
  · have hn : ¬ seq < 0 := by omega
    go_enter Try.func64, Try.ntmps64
    go_wp2_with (go_at_call 56; refine (wrap_iface _ _ _ _).mono ?_; rintro e w' ⟨rfl, hw⟩; have HR := Lib.hid (refused_of hw); clear hw)
    go_ret
    exact ⟨_, rfl, HR.out⟩

theorem rcheck_ok (op : ByteArray) (seq : Int) (W : World) (b g c k : Nat) (xs : List Ev) (h : Rg W b g c k xs) (h0 : 0 ≤ seq) (h1 : seq ≤ 4611686018427387904) :
    Calls Try.prog 64 #[.pointer (some ⟨b, 0, none⟩), .string op, .int .i64 seq] W fun e w' => e = .returned .nilIface ∧ W = w' := by
  have c1 := h.c1
  have hz : ((xs.length : Int) == 0) = false := by have := h.2.2.1; have := two_pos k; rw [beq_eq_false_iff_ne]; omega
  generalize xs.length = n at *
  clear h
  go_enter Try.func64, Try.ntmps64
  go_wp2
  go_ret
  exact ⟨rfl, rfl⟩

theorem rslot_some (seq : Int) (W : World) (b g c k : Nat) (xs : List Ev) (h : Rg W b g c k xs) (i : Nat) (hi : seq % two k = i) (hlt : i < xs.length) :
    Calls Try.prog 65 #[.pointer (some ⟨b, 0, none⟩), .int .i64 seq] W fun e w' => e = .returned (.pointer (some ⟨g, i * 2, none⟩)) ∧ Below W.heap.size W w' := by
  have n0 : ∀ x : Later W, x.to.cell? ⟨b, 0, none⟩ = some (.int .u8 k) := fun x => keepc x.below h.c0
  have n1 : ∀ x : Later W, x.to.cell? ⟨b, 1, none⟩ = some (.slice (some ⟨g, 0, none⟩) xs.length c) := fun x => keepc x.below h.c1
  have HS1 : Hid (∀ x : Later W, Calls Try.prog 25 #[.agg #[.int .u8 k], .int .i64 seq] x.to fun e w'' => e = .returned (.int .i64 i) ∧ ∃ y : Later W, w'' = y.to) := fun x => (index_is k h.2.2.2 seq i hi _).mono fun e w h => ⟨h.1, ⟨w, bthen x.below h.2⟩, rfl⟩
  have dj : decide (0 ≤ (i : Int)) = true := decide_eq_true (by omega)
  generalize xs.length = n at *
  clear h hi
  go_enter Try.func65, Try.ntmps65
  go_wp2_with fail
  refine wp_region_later (by kernel_rfl) (by kernel_rfl) ?_
  repeat (go_big_quiet_step ((go_at_call 25; exact HS1.out _)))
  refine wpQuiet_nil ?_
  intro _ hw'
  obtain ⟨nq, rfl⟩ := hw'
  clear n0 n1
  go_wp2
  go_ret
  exact ⟨by simp, nq.below⟩
end Go.Proofs.Ytnimmkgdgdhkfaa
