/-
  A ring of package slots: its row of events, two cells each; what is refused, where an index's slot lies, New, Size, Clone: by contract. Conditions: the ring is one that New made.
  Put, Get, Size, New of package slots, by contract. Conditions: the ring is one that New made.
  Get, Size, New, Clone of package slots, by contract. Conditions: the ring is one that New made.
  New, Size, Clone of package slots, by contract. Conditions: the ring is one that New made.
-/
import Derived.Test.YtjadapjjilegnaaGreatPow
import Derived.Test.YtjadapjjilegnaaGreatMem2
import Derived.Test.YtjadapjjilegnaaGreatLater
import Derived.Test.YtjadapjjilegnaaGreatRefused
import Derived.OwnWalk
import Derived.Outline
import Derived.Test.YtjadapjjilegnaaGreatTail
import Derived.Test.YtjadapjjilegnaaGreatPow2
import Derived.Deep.RegionHeld3
namespace Go.Proofs.YtjadapjjilegnaaGreat
open Go.RowKit

abbrev Ev := Int × Int
/-- Events as cells. -/
def flat2 (xs : List Ev) : List Value := xs.flatMap fun a => [.int .i64 a.1, .int .i64 a.2]
theorem flat2_len (xs : List Ev) : (flat2 xs).length = xs.length * 2 := by
  unfold flat2
  induction xs with
  | nil => rfl
  | cons t l ih => simp only [List.flatMap_cons, List.length_append, ih, List.length_cons, List.length_nil]; omega
theorem flat2_append (a b : List Ev) : flat2 (a ++ b) = flat2 a ++ flat2 b := by unfold flat2; rw [List.flatMap_append]
theorem flat2_one (a : Ev) : flat2 [a] = [.int .i64 a.1, .int .i64 a.2] := rfl
theorem flat2_cons (a : Ev) (l : List Ev) : flat2 (a :: l) = .int .i64 a.1 :: .int .i64 a.2 :: flat2 l := rfl
theorem flat2_split {xs : List Ev} {k : Nat} {a : Ev} (h : xs[k]? = some a) : flat2 xs = flat2 (xs.take k) ++ (.int .i64 a.1 :: .int .i64 a.2 :: flat2 (xs.drop (k + 1))) ∧ (flat2 (xs.take k)).length = k * 2 ∧ k < xs.length := by
  obtain ⟨hk, rfl⟩ := List.getElem?_eq_some_iff.1 h
  refine ⟨?_, by rw [flat2_len, List.length_take]; omega, hk⟩
  rw [← flat2_cons, ← flat2_append, ← List.drop_eq_getElem_cons hk, List.take_append_drop]
theorem flat2_get {xs : List Ev} {k : Nat} {a : Ev} (h : xs[k]? = some a) : (flat2 xs)[k * 2]? = some (.int .i64 a.1) ∧ (flat2 xs)[k * 2 + 1]? = some (.int .i64 a.2) := by
  obtain ⟨h1, h2, h3⟩ := flat2_split h
  rw [h1]
  refine ⟨?_, ?_⟩ <;> (rw [List.getElem?_append_right (by omega), h2]; simp)
theorem flat2_set {xs : List Ev} {k : Nat} (h : k < xs.length) (b : Ev) : ((flat2 xs).set (k * 2) (.int .i64 b.1)).set (k * 2 + 1) (.int .i64 b.2) = flat2 (xs.set k b) := by
  obtain ⟨h1, h2, h3⟩ := flat2_split (List.getElem?_eq_getElem h)
  rw [List.set_eq_take_append_cons_drop (l := xs), if_pos h, flat2_append, flat2_cons, h1, List.set_append_right _ _ (by omega), h2, List.set_append_right _ _ (by omega), h2]
  simp
theorem flat2_replicate (n : Nat) : flat2 (List.replicate n (0, 0)) = List.replicate (n * 2) (.int .i64 0) := by
  induction n with
  | zero => rfl
  | succ n ih => rw [List.replicate_succ, flat2_cons, ih, Nat.succ_mul, ← List.replicate_succ, ← List.replicate_succ]

/-- A ring in a block, its row in another one. -/
def Rg (W : World) (b g c k : Nat) (xs : List Ev) : Prop :=
  W.heap[b]? = some (.cells #[.int .u8 k, .slice (some ⟨g, 0, none⟩) xs.length c] 185 (0, 0)) ∧ W.ownsRow 0 86 2 (.slice (some ⟨g, 0, none⟩) xs.length c) xs.length (flat2 xs) ∧ (xs.length : Int) = two k ∧ k ≤ 20

theorem Rg.c0 {W : World} {b g c k : Nat} {xs : List Ev} (h : Rg W b g c k xs) : W.cell? ⟨b, 0, none⟩ = some (.int .u8 k) := (obj_cell h.1 0).trans rfl
theorem Rg.c1 {W : World} {b g c k : Nat} {xs : List Ev} (h : Rg W b g c k xs) : W.cell? ⟨b, 1, none⟩ = some (.slice (some ⟨g, 0, none⟩) xs.length c) := (obj_cell h.1 1).trans rfl
theorem Rg.lt {W : World} {b g c k : Nat} {xs : List Ev} (h : Rg W b g c k xs) : b < W.heap.size ∧ g < W.heap.size := ⟨lt_of_block h.1, row_lt h.2.1 rfl⟩
theorem Rg.ne {W : World} {b g c k : Nat} {xs : List Ev} (h : Rg W b g c k xs) : b ≠ g := fun e => row_ne h.2.1 h.1 (by decide) (by simp [Value.ownBlock, e])
theorem Rg.keep {S : Nat → Prop} {W w' : World} {b g c k : Nat} {xs : List Ev} (h : Rg W b g c k xs) (hf : Frm S W w') (hb : ¬ S b) (hg : ¬ S g) : Rg w' b g c k xs :=
  ⟨hf.obj h.1 hb, hf.row h.2.1 (fun g' hg' => by simp [Value.ownBlock] at hg'; subst hg'; exact hg), h.2.2⟩
theorem Rg.keepB {W w' : World} {b g c k : Nat} {xs : List Ev} (h : Rg W b g c k xs) (hf : Below W.heap.size W w') : Rg w' b g c k xs :=
  h.keep (Frm.of_below hf fun _ => False) id id
theorem Rg.at {W : World} {b g c k : Nat} {xs : List Ev} (h : Rg W b g c k xs) {i : Nat} {a : Ev} (hi : xs[i]? = some a) : W.cell? ⟨g, i * 2, none⟩ = some (.int .i64 a.1) ∧ W.cell? ⟨g, i * 2 + 1, none⟩ = some (.int .i64 a.2) := by
  obtain ⟨f0, f1⟩ := flat2_get hi
  have hlt : i < xs.length := (List.getElem?_eq_some_iff.1 hi).1
  exact ⟨(h.2.1.cellAt (i * 2) (by omega)).trans f0, (h.2.1.cellAt (i * 2 + 1) (by omega)).trans f1⟩
theorem Rg.spot {W : World} {b g c k : Nat} {xs : List Ev} (h : Rg W b g c k xs) {i : Nat} (hi : i < xs.length) : ∃ u v, W.cell? ⟨g, i * 2, none⟩ = some u ∧ W.cell? ⟨g, i * 2 + 1, none⟩ = some v ∧ ∀ j, W.frozen? ⟨g, j, none⟩ = false := by
  obtain ⟨h0, h1⟩ := h.at (List.getElem?_eq_getElem hi)
  exact ⟨_, _, h0, h1, fun j => h.2.1.frozenAt j⟩
theorem Rg.set {W : World} {b g c k : Nat} {xs : List Ev} (h : Rg W b g c k xs) {i : Nat} (hi : i < xs.length) (a : Ev) : Rg ((W.setCell ⟨g, i * 2, none⟩ (.int .i64 a.1)).setCell ⟨g, i * 2 + 1, none⟩ (.int .i64 a.2)) b g c k (xs.set i a) ∧ Frm (fun q => q = g) W ((W.setCell ⟨g, i * 2, none⟩ (.int .i64 a.1)).setCell ⟨g, i * 2 + 1, none⟩ (.int .i64 a.2)) := by
  have hf : Frm (fun q => q = g) W ((W.setCell ⟨g, i * 2, none⟩ (.int .i64 a.1)).setCell ⟨g, i * 2 + 1, none⟩ (.int .i64 a.2)) := ((Frm.refl (fun q => q = g) W).setCell (p := ⟨g, i * 2, none⟩) rfl _).setCell (p := ⟨g, i * 2 + 1, none⟩) rfl _
  have hs := ((h.2.1.stored (i * 2) (.int .i64 a.1)).1.stored (i * 2 + 1) (.int .i64 a.2)).1
  rw [flat2_set hi a] at hs
  exact ⟨⟨by rw [List.length_set]; exact hf.obj h.1 h.ne, by rw [List.length_set]; exact hs, by rw [List.length_set]; exact h.2.2.1, h.2.2.2⟩, hf⟩
theorem Rg.start {w : World} {v : Value} {k : Nat} {xs : List Ev} (ho : w.ownsRow 0 86 2 v xs.length (flat2 xs)) (hl : (xs.length : Int) = two k) (hk : k ≤ 20) :
    ∃ g c, v.ownBlock = some g ∧ Rg (w.alloc (.cells #[.int .u8 k, v] 185)) w.heap.size g c k xs := by
  have h0 := two_pos k
  rcases ho.2 with ⟨_, h1⟩ | ⟨g, cap, cur, rfl, _⟩
  · omega
  · exact ⟨g, cap, rfl, obj_new _ _, ho.alloc _, hl, hk⟩
/-- An index has one of the slots. -/
theorem Rg.slot {W : World} {b g c k : Nat} {xs : List Ev} (h : Rg W b g c k xs) (seq : Int) : ∃ i : Nat, seq % two k = i ∧ i < xs.length ∧ (i : Int) < two k := by
  have h0 := two_pos k
  have h1 := Int.emod_nonneg seq (show two k ≠ 0 by omega)
  have h2 := Int.emod_lt_of_pos seq h0
  have h3 := h.2.2.1
  exact ⟨(seq % two k).toNat, by omega, by omega, by omega⟩

/-- A fault around a number, new. -/
theorem ferr2 {W w' : World} {op id : Value} {n : Int} (h : W.alloc (.cells #[op, id, .iface 156 (.int .i64 n)] 202) = w') (hop : ∃ s, op = .string s := by exact ⟨_, rfl⟩) (hid : ∃ i, id = .int .i64 i := by exact ⟨_, rfl⟩) :
    ∃ q, Value.iface 200 (.pointer (some ⟨W.heap.size, 0, none⟩)) = .iface 200 (.pointer (some ⟨q, 0, none⟩)) ∧ Chain w' (.iface 200 (.pointer (some ⟨q, 0, none⟩))) 1 n ∧ Below W.heap.size W w' :=
  ⟨_, rfl, err_new h hop hid⟩

theorem rcheck_nil (op : ByteArray) (seq : Int) (W : World) :
    Calls Tryz.prog 97 #[.pointer none, .string op, .int .i64 seq] W fun e w' => ∃ E, e = .returned E ∧ Refused W w' E 2 := by
  go_enter Tryz.func97, Tryz.ntmps97
  go_wp2_with (go_at_call 75; refine (wrap_iface _ _ _ _).mono ?_; rintro e w' ⟨rfl, hw⟩; have HR := Lib.hid (refused_of hw); clear hw)
  go_ret
  exact ⟨_, rfl, HR.out⟩

theorem rcheck_bad (op : ByteArray) (seq : Int) (W : World) (b g c k : Nat) (xs : List Ev) (h : Rg W b g c k xs) (hs : seq < 0 ∨ 4611686018427387904 < seq) :
    Calls Tryz.prog 97 #[.pointer (some ⟨b, 0, none⟩), .string op, .int .i64 seq] W fun e w' => ∃ E, e = .returned E ∧ Refused W w' E 5 := by
  have c1 := h.c1
  have hz : ((xs.length : Int) == 0) = false := by have := h.2.2.1; have := two_pos k; rw [beq_eq_false_iff_ne]; omega
  generalize xs.length = n at *
  clear h
  rcases hs with hs | hs
  · go_enter Tryz.func97, Tryz.ntmps97
    go_wp2_with (go_at_call 75; refine (wrap_iface _ _ _ _).mono ?_; rintro e w' ⟨rfl, hw⟩; have HR := Lib.hid (refused_of hw); clear hw)
    go_ret
    exact ⟨_, rfl, HR.out⟩
  · have hn : ¬ seq < 0 := by omega
    go_enter Tryz.func97, Tryz.ntmps97
    go_wp2_with (go_at_call 75; refine (wrap_iface _ _ _ _).mono ?_; rintro e w' ⟨rfl, hw⟩; have HR := Lib.hid (refused_of hw); clear hw)
    go_ret
    exact ⟨_, rfl, HR.out⟩

theorem rcheck_ok (op : ByteArray) (seq : Int) (W : World) (b g c k : Nat) (xs : List Ev) (h : Rg W b g c k xs) (h0 : 0 ≤ seq) (h1 : seq ≤ 4611686018427387904) :
    Calls Tryz.prog 97 #[.pointer (some ⟨b, 0, none⟩), .string op, .int .i64 seq] W fun e w' => e = .returned .nilIface ∧ W = w' := by
  have c1 := h.c1
  have hz : ((xs.length : Int) == 0) = false := by have := h.2.2.1; have := two_pos k; rw [beq_eq_false_iff_ne]; omega
  generalize xs.length = n at *
  clear h
  go_enter Tryz.func97, Tryz.ntmps97
  go_wp2
  go_ret
  exact ⟨rfl, rfl⟩

theorem rslot_some (seq : Int) (W : World) (b g c k : Nat) (xs : List Ev) (h : Rg W b g c k xs) (i : Nat) (hi : seq % two k = i) (hlt : i < xs.length) :
    Calls Tryz.prog 98 #[.pointer (some ⟨b, 0, none⟩), .int .i64 seq] W fun e w' => e = .returned (.pointer (some ⟨g, i * 2, none⟩)) ∧ Below W.heap.size W w' := by
  have n0 : ∀ x : Later W, x.to.cell? ⟨b, 0, none⟩ = some (.int .u8 k) := fun x => keepc x.below h.c0
  have n1 : ∀ x : Later W, x.to.cell? ⟨b, 1, none⟩ = some (.slice (some ⟨g, 0, none⟩) xs.length c) := fun x => keepc x.below h.c1
  have HS1 : Hid (∀ x : Later W, Calls Tryz.prog 136 #[.agg #[.int .u8 k], .int .i64 seq] x.to fun e w'' => e = .returned (.int .i64 i) ∧ ∃ y : Later W, w'' = y.to) := fun x => (index_is k h.2.2.2 seq i hi _).mono fun e w h => ⟨h.1, ⟨w, bthen x.below h.2⟩, rfl⟩
  have dj : decide (0 ≤ (i : Int)) = true := decide_eq_true (by omega)
  generalize xs.length = n at *
  clear h hi
  go_enter Tryz.func98, Tryz.ntmps98
  go_wp2_with fail
  refine wp_region_later (by kernel_rfl) (by kernel_rfl) ?_
  repeat (go_big_quiet_step ((go_at_call 136; exact HS1.out _)))
  refine wpQuiet_nil ?_
  intro _ hw'
  obtain ⟨nq, rfl⟩ := hw'
  clear n0 n1
  go_wp2
  go_ret
  exact ⟨by simp, nq.below⟩
end Go.Proofs.YtjadapjjilegnaaGreat
namespace Go.Proofs.YtjadapjjilegnaaGreat
open Go.RowKit

theorem put_nil (seq x y : Int) (W : World) :
    Calls Tryz.prog 40 #[.pointer none, .int .i64 seq, .agg #[.int .i64 x, .int .i64 y]] W fun e w' => ∃ E, e = .returned E ∧ Refused W w' E 2 := by
  go_enter Tryz.func40, Tryz.ntmps40
  go_wp2_with (go_at_call 97; refine (rcheck_nil _ _ _).mono ?_; rintro e w' ⟨E, rfl, q, rfl, hr1, hr2⟩; have HR := Lib.hid (Refused.box ⟨q, rfl, hr1, hr2⟩); clear hr1 hr2)
  go_ret
  exact ⟨_, rfl, HR.out⟩

theorem put_bad (seq x y : Int) (W : World) (b g c k : Nat) (xs : List Ev) (h : Rg W b g c k xs) (hs : seq < 0 ∨ 4611686018427387904 < seq) :
    Calls Tryz.prog 40 #[.pointer (some ⟨b, 0, none⟩), .int .i64 seq, .agg #[.int .i64 x, .int .i64 y]] W fun e w' => ∃ E, e = .returned E ∧ Refused W w' E 5 := by
  have H := Lib.hid (h.keepB ((Below.refl _ W).alloc (Nat.le_refl _) (.cells #[.int .i64 x, .int .i64 y] 86)))
  have HS := Lib.hid hs
  clear h hs
  go_enter Tryz.func40, Tryz.ntmps40
  go_wp2_with (go_at_call 97; refine (rcheck_bad _ _ _ b g c k xs H.out HS.out).mono ?_; rintro e w' ⟨E, rfl, q, rfl, hr1, hr2⟩; have HR := Lib.hid (Refused.box ⟨q, rfl, hr1, hr2⟩); clear hr1 hr2)
  go_ret
  exact ⟨_, rfl, HR.out⟩

/-- What a ring's Put leaves. -/
def RgSet (W w' : World) (b g c k : Nat) (xs : List Ev) : Prop := Rg w' b g c k xs ∧ Frm (fun q => q = g) W w'
theorem put_end {W w : World} {b g c k i : Nat} {xs : List Ev} (h : Rg W b g c k xs) (hb : Below W.heap.size W w) (hi : i < xs.length) (x y : Int) :
    RgSet W ((w.setCell ⟨g, i * 2, none⟩ (.int .i64 x)).setCell ⟨g, i * 2 + 1, none⟩ (.int .i64 y)) b g c k (xs.set i (x, y)) := by
  obtain ⟨h1, h2⟩ := (h.keepB hb).set hi (x, y)
  exact ⟨h1, (Frm.of_below hb _).trans h2⟩

set_option maxHeartbeats 1000000 in
theorem put_ok (seq x y : Int) (W : World) (b g c k : Nat) (xs : List Ev) (h : Rg W b g c k xs) (h0 : 0 ≤ seq) (h1 : seq ≤ 4611686018427387904) (i : Nat) (hi : seq % two k = i) (hlt : i < xs.length) :
    Calls Tryz.prog 40 #[.pointer (some ⟨b, 0, none⟩), .int .i64 seq, .agg #[.int .i64 x, .int .i64 y]] W fun e w' => e = .returned .nilIface ∧ RgSet W w' b g c k (xs.set i (x, y)) := by
  have hb1 : Below W.heap.size W (W.alloc (.cells #[.int .i64 x, .int .i64 y] 86)) := (Below.refl _ W).alloc (Nat.le_refl _) _
  have H := Lib.hid (h.keepB hb1)
  have HE := Lib.hid (fun w (hb : Below (W.alloc (.cells #[.int .i64 x, .int .i64 y] 86)).heap.size (W.alloc (.cells #[.int .i64 x, .int .i64 y] 86)) w) => put_end h (bthen hb1 hb) hlt x y)
  have HF := Lib.hid (fun w (hb : Below (W.alloc (.cells #[.int .i64 x, .int .i64 y] 86)).heap.size (W.alloc (.cells #[.int .i64 x, .int .i64 y] 86)) w) => (h.keepB (bthen hb1 hb)).spot hlt)
  have HS1 : Hid (∀ x1 : Later (W.alloc (.cells #[.int .i64 x, .int .i64 y] 86)), Calls Tryz.prog 98 #[.pointer (some ⟨b, 0, none⟩), .int .i64 seq] x1.to fun e w'' => e = .returned (.pointer (some ⟨g, i * 2, none⟩)) ∧ ∃ y1 : Later (W.alloc (.cells #[.int .i64 x, .int .i64 y] 86)), w'' = y1.to) :=
    fun x1 => (rslot_some seq _ b g c k xs ((h.keepB hb1).keepB x1.below) i hi hlt).mono fun e w h => ⟨h.1, ⟨w, bthen x1.below h.2⟩, rfl⟩
  have HC : Hid (Calls Tryz.prog 97 #[.pointer (some ⟨b, 0, none⟩), .string ⟨#[112, 117, 116]⟩, .int .i64 seq] (W.alloc (.cells #[.int .i64 x, .int .i64 y] 86)) fun e w' => e = .returned .nilIface ∧ W.alloc (.cells #[.int .i64 x, .int .i64 y] 86) = w') := rcheck_ok _ seq _ b g c k xs (h.keepB hb1) h0 h1
  have n0 : ∀ x1 : Later (W.alloc (.cells #[.int .i64 x, .int .i64 y] 86)), x1.to.cell? ⟨W.heap.size, 0, none⟩ = some (.int .i64 x) := fun x1 => keepc x1.below ((obj_cell (obj_new W _) 0).trans rfl)
  have n1 : ∀ x1 : Later (W.alloc (.cells #[.int .i64 x, .int .i64 y] 86)), x1.to.cell? ⟨W.heap.size, 1, none⟩ = some (.int .i64 y) := fun x1 => keepc x1.below ((obj_cell (obj_new W _) 1).trans rfl)
  clear h hi hlt h0 h1 H hb1
  go_enter Tryz.func40, Tryz.ntmps40
  go_wp2_with fail
  generalize W.alloc (.cells #[.int .i64 x, .int .i64 y] 86) = W1 at *
  generalize W.heap.size = ob at *
  go_wp2_with (go_at_call 97; refine HC.out.mono ?_; rintro e w' ⟨rfl, rfl⟩)
  refine wp_region_later_tail 5 (by kernel_rfl) (by kernel_rfl) ?_
  simp only [List.take_succ_cons, List.take_zero, List.drop_succ_cons, List.drop_zero]
  repeat (go_big_quiet_step ((go_at_call 98; exact HS1.out _)))
  refine wpQuiet_nil ?_
  intro w2 hw'
  obtain ⟨⟨w2', hb2⟩, hw2⟩ := hw'
  obtain rfl : w2 = w2' := hw2
  obtain ⟨u0, u1, hc0, hc1, hf⟩ := HF.out w2 hb2
  have HB2 := Lib.hid hb2
  clear n0 n1 hb2
  go_wp2
  go_ret
  exact ⟨rfl, HE.out _ HB2.out⟩
end Go.Proofs.YtjadapjjilegnaaGreat
namespace Go.Proofs.YtjadapjjilegnaaGreat
open Go.RowKit

theorem get_nil (seq : Int) (W : World) :
    Calls Tryz.prog 41 #[.pointer none, .int .i64 seq] W fun e w' => ∃ E, e = .returned (.tuple #[.agg #[.int .i64 0, .int .i64 0], E]) ∧ Refused W w' E 2 := by
  go_enter Tryz.func41, Tryz.ntmps41
  go_wp2_with (go_at_call 97; refine (rcheck_nil _ _ _).mono ?_; rintro e w' ⟨E, rfl, q, rfl, hr1, hr2⟩; obtain ⟨c0, c1⟩ := new2 hr2; have f0 := new2f hr2; have HR := Lib.hid (Refused.cells hr1 hr2); clear hr1 hr2)
  refine bodyPost_ret (by simp [results, Tryz.results41, go_sem, c0, c1]; try rfl) rfl ?_
  exact ⟨_, rfl, HR.out _ _⟩

theorem get_bad (seq : Int) (W : World) (b g c k : Nat) (xs : List Ev) (h : Rg W b g c k xs) (hs : seq < 0 ∨ 4611686018427387904 < seq) :
    Calls Tryz.prog 41 #[.pointer (some ⟨b, 0, none⟩), .int .i64 seq] W fun e w' => ∃ E, e = .returned (.tuple #[.agg #[.int .i64 0, .int .i64 0], E]) ∧ Refused W w' E 5 := by
  have H := Lib.hid (h.keepB ((Below.refl _ W).alloc (Nat.le_refl _) (.cells #[.int .i64 0, .int .i64 0] 86)))
  have HS := Lib.hid hs
  clear h hs
  go_enter Tryz.func41, Tryz.ntmps41
  go_wp2_with (go_at_call 97; refine (rcheck_bad _ _ _ b g c k xs H.out HS.out).mono ?_; rintro e w' ⟨E, rfl, q, rfl, hr1, hr2⟩; obtain ⟨c0, c1⟩ := new2 hr2; have f0 := new2f hr2; have HR := Lib.hid (Refused.cells hr1 hr2); clear hr1 hr2)
  refine bodyPost_ret (by simp [results, Tryz.results41, go_sem, c0, c1]; try rfl) rfl ?_
  exact ⟨_, rfl, HR.out _ _⟩

theorem get_ok (seq : Int) (W : World) (b g c k : Nat) (xs : List Ev) (h : Rg W b g c k xs) (h0 : 0 ≤ seq) (h1 : seq ≤ 4611686018427387904) (i : Nat) (hi : seq % two k = i) (a : Ev) (ha : xs[i]? = some a) :
    Calls Tryz.prog 41 #[.pointer (some ⟨b, 0, none⟩), .int .i64 seq] W fun e w' => e = .returned (.tuple #[.agg #[.int .i64 a.1, .int .i64 a.2], .nilIface]) ∧ Below W.heap.size W w' := by
  have hb0 : Below W.heap.size W (W.alloc (.cells #[.int .i64 0, .int .i64 0] 86)) := (Below.refl _ W).alloc (Nat.le_refl _) _
  have H := Lib.hid (h.keepB hb0)
  have HI := Lib.hid hi
  have HL := Lib.hid (List.getElem?_eq_some_iff.1 ha).1
  have HA := Lib.hid ha
  have HB := Lib.hid hb0
  clear h hi ha hb0
  go_enter Tryz.func41, Tryz.ntmps41
  go_wp2_with (first
    | (go_at_call 97; refine (rcheck_ok _ _ _ b g c k xs H.out h0 h1).mono ?_; rintro e w' ⟨rfl, rfl⟩)
    | (go_at_call 98; refine (rslot_some seq _ b g c k xs H.out i HI.out HL.out).mono ?_; rintro e w2 ⟨rfl, hb2⟩; obtain ⟨c0, c1⟩ := new2 hb2; have f0 := new2f hb2; obtain ⟨k0, k1⟩ := (H.out.keepB hb2).at HA.out; have HB2 := Lib.hid (set_new hb2); clear hb2))
  refine bodyPost_ret (by simp [results, Tryz.results41, go_sem, c0, c1]; try rfl) rfl ?_
  exact ⟨rfl, HB2.out _ _⟩
end Go.Proofs.YtjadapjjilegnaaGreat
namespace Go.Proofs.YtjadapjjilegnaaGreat
open Go.RowKit

theorem size_nil (W : World) :
    Calls Tryz.prog 50 #[.pointer none] W fun e w' => e = .returned (.agg #[.int .u8 0]) ∧ Below W.heap.size W w' := by
  go_enter Tryz.func50, Tryz.ntmps50
  go_wp2
  go_returns
  exact ⟨rfl, by go_grown⟩

theorem size_some (W : World) (b g c k : Nat) (xs : List Ev) (h : Rg W b g c k xs) :
    Calls Tryz.prog 50 #[.pointer (some ⟨b, 0, none⟩)] W fun e w' => e = .returned (.agg #[.int .u8 k]) ∧ Below W.heap.size W w' := by
  have c0 := h.c0
  have hlt := h.lt.1
  clear h
  go_enter Tryz.func50, Tryz.ntmps50
  go_wp2
  go_returns
  exact ⟨rfl, by go_grown⟩

/-- A ring, new. -/
def RgNew (W w' : World) (k : Nat) (xs : List Ev) (e : Ending) : Prop :=
  ∃ b g c, e = .returned (.tuple #[.pointer (some ⟨b, 0, none⟩), .nilIface]) ∧ Rg w' b g c k xs ∧ Below W.heap.size W w' ∧ W.heap.size ≤ b ∧ W.heap.size ≤ g

theorem infoEv : (Tryz.prog.info? 86).map (fun i => (i.zero, i.size, i.bytes)) = some (some (.agg #[.int .i64 0, .int .i64 0]), 2, 16) := by kernel_rfl

theorem made_zero (n : Nat) : (madeCells (Value.agg #[.int .i64 0, .int .i64 0]).cells (n * 2)).toList = flat2 (List.replicate n (0, 0)) := by
  rw [flat2_replicate]
  apply List.ext_getElem
  · simp [size_madeCells]
  · intro i h1 h2
    simp only [madeCells, Value.cells, List.getElem_replicate]
    simp only [Array.getElem_toList, Array.getElem_map, Array.getElem_range]
    have : i % 2 = 0 ∨ i % 2 = 1 := by omega
    rcases this with e | e <;> simp [e]

theorem make_events (k n : Nat) (hk : k ≤ 20) (hn : (n : Int) = two k) (w : World) :
    (Instr.makeSlice 137 (.int .i64 (two k)) (.int .i64 (two k))).run Tryz.prog w = .ok (.slice (some ⟨w.heap.size, 0, none⟩) n n) (w.alloc (.cells (flat2 (List.replicate n (0, 0))).toArray 86)) := by
  obtain ⟨i0, hi, hz0, hz1, hz2⟩ := info_parts infoEv
  have h1 := two_le hk
  have h2 := two_pos k
  have := run_make (P := Tryz.prog) w 137 86 i0 _ Tryz.underlying137 hi hz0 .i64 .i64 (two k) (two k) (by omega) (Int.le_refl _) (by rw [hz2]; omega) (by omega)
  rw [this, ← hn]
  simp only [Int.toNat_natCast, hz1]
  rw [← made_zero]

theorem new_keep {W a w' : World} {b : Nat} {v : Value} (hb : Below a.heap.size a w') (h : a.cell? ⟨b, 0, none⟩ = some v ∧ Below W.heap.size W a) : w'.cell? ⟨b, 0, none⟩ = some v ∧ Below W.heap.size W w' := ⟨keepc hb h.1, bthen h.2 hb⟩
theorem new_alloc {W a : World} {b : Nat} {v : Value} (o : Obj) (h : a.cell? ⟨b, 0, none⟩ = some v ∧ Below W.heap.size W a) : (a.alloc o).cell? ⟨b, 0, none⟩ = some v ∧ Below W.heap.size W (a.alloc o) := new_keep ((Below.refl _ _).alloc (Nat.le_refl _) o) h

theorem rnew_end {W w : World} {k n : Nat} (hk : k ≤ 20) (hn : (n : Int) = two k) (hb : Below W.heap.size W w) :
    RgNew W ((w.alloc (.cells (flat2 (List.replicate n (0, 0))).toArray 86)).alloc (.cells #[.int .u8 k, .slice (some ⟨w.heap.size, 0, none⟩) n n] 185)) k (List.replicate n (0, 0)) (.returned (.tuple #[.pointer (some ⟨w.heap.size + 1, 0, none⟩), .nilIface])) := by
  have hs : (w.alloc (.cells (flat2 (List.replicate n (0, 0))).toArray 86)).heap.size = w.heap.size + 1 := by simp
  have hl : (List.replicate n ((0 : Int), (0 : Int))).length = n := by simp
  have h1 := two_le hk
  have ho : (w.alloc (.cells (flat2 (List.replicate n (0, 0))).toArray 86)).ownsRow 0 86 2 (.slice (some ⟨w.heap.size, 0, none⟩) n n) n (flat2 (List.replicate n (0, 0))) :=
    World.ownsRow_lit w _ n (Nat.zero_le _) (by unfold maxLen; omega) (by simp [flat2_len])
  refine ⟨_, w.heap.size, n, rfl, ⟨?_, ?_, ?_, hk⟩, balloc (balloc hb _) _, by have := hb.size; omega, hb.size⟩
  · rw [hl, ← hs]; exact obj_new _ _
  · rw [hl]; exact ho.alloc _
  · rw [hl]; exact hn

set_option maxRecDepth 100000 in
set_option maxHeartbeats 1000000 in
theorem rnew_ok (k n : Nat) (hk : k ≤ 20) (hn : (n : Int) = two k) (W : World) :
    Calls Tryz.prog 123 #[.int .i64 (two k)] W fun e w' => RgNew W w' k (List.replicate n (0, 0)) e := by
  have hmk := make_events k n hk hn
  have HE := Lib.hid (fun (w : World) (hb : Below W.heap.size W w) => rnew_end (W := W) (w := w) hk hn hb)
  clear hn
  generalize flat2 (List.replicate n (0, 0)) = row at *
  generalize List.replicate n ((0 : Int), (0 : Int)) = xs at *
  go_enter Tryz.func123, Tryz.ntmps123
  go_wp2_with (go_at_call 79; refine (of_yes k hk _).mono ?_; rintro e w1 ⟨rfl, hb1⟩; have HB1 := Lib.hid hb1; clear hb1)
  have hb2 := balloc HB1.out (.cells #[.int .u8 k] 100)
  have hc2 : (w1.alloc (.cells #[.int .u8 k] 100)).cell? ⟨w1.heap.size, 0, none⟩ = some (.int .u8 k) := (obj_cell (obj_new w1 _) 0).trans rfl
  clear HB1
  generalize w1.heap.size = ob at *
  generalize w1.alloc (.cells #[.int .u8 k] 100) = w2 at *
  go_region_held3 (fun w' => w'.cell? ⟨ob, 0, none⟩ = some (.int .u8 k) ∧ Below W.heap.size W w') (first
      | exact ⟨by assumption, by assumption⟩
      | exact ⟨by go_simp, Below.drew (by assumption)⟩
      | exact new_alloc _ (by assumption)
      | exact new_keep (by assumption) (by assumption)) (first
      | (go_at_call 51; refine (slots_any k hk _).mono ?_; rintro e w3 ⟨rfl, hw⟩; have hb3 := slots_below hw; clear hw))
  go_wp2
  go_ret2
  exact HE.out w3 (bthen hb2.drew hb3)

theorem wrap_end {W w w' : World} {op : ByteArray} {seq n : Int} {E : Value} {d : Nat} (hc : Chain w E d n) (hb : Below W.heap.size W w) (h : w.alloc (.cells #[.string op, .int .i64 seq, E] 202) = w') :
    Chain w' (.iface 200 (.pointer (some ⟨w.heap.size, 0, none⟩))) (d + 1) n ∧ Below W.heap.size W w' := by
  subst h
  exact ⟨.fault _ _ _ _ _ _ (obj_new _ _) (hc.keep ((Below.refl _ _).alloc (Nat.le_refl _) _)), balloc hb _⟩
theorem rnew_no (n : Int) (hw : -9223372036854775808 ≤ n) (hno : ∀ k, k ≤ 20 → n ≠ two k) (W : World) :
    Calls Tryz.prog 123 #[.int .i64 n] W fun e w' => ∃ E, e = .returned (.tuple #[.pointer none, E]) ∧ Chain w' E 2 7 ∧ Below W.heap.size W w' := by
  have HO : Hid (Calls Tryz.prog 79 #[.int .i64 n] W fun e w' => ∃ F, e = .returned (.tuple #[.agg #[.int .u8 0], F]) ∧ Chain w' F 1 7 ∧ Below W.heap.size W w') := by
    by_cases h : 1048576 < n
    · exact of_great n h W
    · exact of_other n hw (by omega) hno W
  clear hno
  go_enter Tryz.func123, Tryz.ntmps123
  go_wp2_with (first
    | (go_at_call 79; refine HO.out.mono ?_; rintro e w1 ⟨F, rfl, hc, hb⟩; obtain ⟨u, v, rfl⟩ := hc.iface; have HC := Lib.hid (hc.keep ((Below.refl _ _).alloc (Nat.le_refl _) (.cells #[.int .u8 0] 100))); have HB := Lib.hid (balloc hb (.cells #[.int .u8 0] 100)); clear hc hb)
    | (go_at_call 75; refine (wrap_iface _ _ _ _).mono ?_; rintro e w' ⟨rfl, hw⟩; have HE := Lib.hid (wrap_end HC.out HB.out hw); clear hw))
  go_ret2
  exact ⟨_, rfl, by have h := HE.out; simp only [World.size_alloc] at h; exact h⟩
end Go.Proofs.YtjadapjjilegnaaGreat
