/-
  A buffer of package avail beside its arena; what is refused, an index's cell and round, the end, the last cell: by contract. Conditions: the buffer is one that New made.
-/
import Derived.Test.YtjadapjjilegnaaPow
import Derived.Test.YtjadapjjilegnaaTail
import Derived.Test.YtjadapjjilegnaaRefused
import Derived.Test.YtjadapjjilegnaaCells
import Derived.Outline
namespace Go.Proofs.Ytjadapjjilegnaa
open Go.RowKit

/-- A buffer in a block: its first cell, its size. -/
def Bf (W : World) (q f k : Nat) : Prop := W.heap[q]? = some (.cells #[.int .i64 f, .int .u8 k] 212 (0, 0)) ∧ k ≤ 20 ∧ (f : Int) ≤ 2097152
theorem Bf.c0 {W : World} {q f k : Nat} (h : Bf W q f k) : W.cell? ⟨q, 0, none⟩ = some (.int .i64 f) := (obj_cell h.1 0).trans rfl
theorem Bf.c1 {W : World} {q f k : Nat} (h : Bf W q f k) : W.cell? ⟨q, 1, none⟩ = some (.int .u8 k) := (obj_cell h.1 1).trans rfl
theorem Bf.keepB {W w' : World} {q f k : Nat} (h : Bf W q f k) (hb : Below W.heap.size W w') : Bf w' q f k := ⟨(hb.block _ (lt_of_block h.1)).trans h.1, h.2⟩
theorem Bf.keep {S : Nat → Prop} {W w' : World} {q f k : Nat} (h : Bf W q f k) (hf : Frm S W w') (hq : ¬ S q) : Bf w' q f k := ⟨hf.obj h.1 hq, h.2⟩

theorem cell_nil (seq : Int) (W : World) : Calls Try.prog 66 #[.pointer none, .int .i64 seq] W fun e w' => e = .returned (.int .i64 (-1)) ∧ W = w' := by
  go_enter Try.func66, Try.ntmps66
  go_wp2
  go_ret
  exact ⟨rfl, rfl⟩
theorem rd_nil (seq : Int) (W : World) : Calls Try.prog 67 #[.pointer none, .int .i64 seq] W fun e w' => e = .returned (.int .i64 (-1)) ∧ W = w' := by
  go_enter Try.func67, Try.ntmps67
  go_wp2
  go_ret
  exact ⟨rfl, rfl⟩

theorem cell_some (seq : Int) (W : World) (q f k : Nat) (h : Bf W q f k) (i : Nat) (hi : seq % two k = i) :
    Calls Try.prog 66 #[.pointer (some ⟨q, 0, none⟩), .int .i64 seq] W fun e w' => e = .returned (.int .i64 ((f + i : Nat) : Int)) ∧ Below W.heap.size W w' := by
  have n0 : ∀ x : Later W, x.to.cell? ⟨q, 0, none⟩ = some (.int .i64 f) := fun x => keepc x.below h.c0
  have n1 : ∀ x : Later W, x.to.cell? ⟨q, 1, none⟩ = some (.int .u8 k) := fun x => keepc x.below h.c1
  have HS1 : Hid (∀ x : Later W, Calls Try.prog 135 #[.agg #[.int .u8 k], .int .i64 seq] x.to fun e w'' => e = .returned (.int .i64 i) ∧ ∃ y : Later W, w'' = y.to) := fun x => (index_is k h.2.1 seq i hi _).mono fun e w h => ⟨h.1, ⟨w, bthen x.below h.2⟩, rfl⟩
  have hf := h.2.2
  have ht := two_le h.2.1
  have ht2 := two_pos k
  have hil : (i : Int) < two k := by rw [← hi]; exact Int.emod_lt_of_pos _ ht2
  have hw1 : IntKind.i64.wrap ((f : Int) + (i : Int)) = ((f + i : Nat) : Int) := by rw [IntWalk.i64_in _ (by omega)]; omega
  clear h hi
  go_enter Try.func66, Try.ntmps66
  go_wp2_with fail
  refine wp_region_later (by kernel_rfl) (by kernel_rfl) ?_
  repeat (go_big_quiet_step ((go_at_call 135; exact HS1.out _)))
  refine wpQuiet_nil ?_
  intro _ hw'
  obtain ⟨nq, rfl⟩ := hw'
  clear n0 n1
  go_wp2
  go_ret
  exact ⟨rfl, nq.below⟩

theorem rd_some (seq : Int) (W : World) (q f k : Nat) (h : Bf W q f k) :
    Calls Try.prog 67 #[.pointer (some ⟨q, 0, none⟩), .int .i64 seq] W fun e w' => e = .returned (.int .i64 (seq / two k)) ∧ Below W.heap.size W w' := by
  have c1 := h.c1
  have hk := h.2.1
  clear h
  go_enter Try.func67, Try.ntmps67
  go_wp2_with (go_at_call 136; refine (round_any k hk seq _).mono ?_; rintro e w2 ⟨rfl, hb⟩)
  go_ret
  exact ⟨rfl, hb⟩

theorem end_some (W : World) (q f k : Nat) (h : Bf W q f k) (n : Nat) (hn : (n : Int) = two k) :
    Calls Try.prog 131 #[.pointer (some ⟨q, 0, none⟩)] W fun e w' => e = .returned (.int .i64 ((f + n : Nat) : Int)) ∧ Below W.heap.size W w' := by
  have n0 : ∀ x : Later W, x.to.cell? ⟨q, 0, none⟩ = some (.int .i64 f) := fun x => keepc x.below h.c0
  have n1 : ∀ x : Later W, x.to.cell? ⟨q, 1, none⟩ = some (.int .u8 k) := fun x => keepc x.below h.c1
  have HS1 : Hid (∀ x : Later W, Calls Try.prog 87 #[.agg #[.int .u8 k]] x.to fun e w'' => e = .returned (.int .i64 n) ∧ ∃ y : Later W, w'' = y.to) := fun x => (slots_any k h.2.1 _).mono fun e w h => ⟨by rw [hn]; exact h.1, ⟨w, bthen x.below (slots_below h.2)⟩, rfl⟩
  have hf := h.2.2
  have ht := two_le h.2.1
  have hw1 : IntKind.i64.wrap ((f : Int) + (n : Int)) = ((f + n : Nat) : Int) := by rw [IntWalk.i64_in _ (by omega)]; omega
  clear h hn
  go_enter Try.func131, Try.ntmps131
  go_wp2_with fail
  refine wp_region_later (by kernel_rfl) (by kernel_rfl) ?_
  repeat (go_big_quiet_step ((go_at_call 87; exact HS1.out _)))
  refine wpQuiet_nil ?_
  intro _ hw'
  obtain ⟨nq, rfl⟩ := hw'
  clear n0 n1
  go_wp2
  go_ret
  exact ⟨rfl, nq.below⟩

theorem last_some (lo hi : Int) (W : World) (q f k : Nat) (h : Bf W q f k) (n : Nat) (hn : (n : Int) = two k) :
    Calls Try.prog 133 #[.pointer (some ⟨q, 0, none⟩), .int .i64 lo, .int .i64 hi] W fun e w' => ∃ c : Int, e = .returned (.int .i64 c) ∧ c < (f + n : Nat) ∧ Below W.heap.size W w' := by
  have H := Lib.hid h
  have HN := Lib.hid hn
  have h0 := two_pos k
  have h1 := Int.emod_nonneg hi (show two k ≠ 0 by omega)
  have h2 := Int.emod_lt_of_pos hi h0
  obtain ⟨i, hi'⟩ : ∃ i : Nat, hi % two k = i := ⟨(hi % two k).toNat, by omega⟩
  have HI := Lib.hid hi'
  have hil : i < n := by omega
  have hf := h.2.2
  have ht := two_le h.2.1
  have hnb : (n : Int) ≤ 1048576 := by omega
  have hn1 : 1 ≤ (n : Int) := by omega
  clear h hn h0 h1 h2 hi' ht
  by_cases hlt : lo / two k < hi / two k
  · go_enter Try.func133, Try.ntmps133
    go_wp2_with fail
    refine (rd_some lo W q f k H.out).mono ?_
    rintro e w2 ⟨rfl, hb⟩
    have HB := Lib.hid hb
    clear hb
    go_wp2_with fail
    refine (rd_some hi w2 q f k (H.out.keepB HB.out)).mono ?_
    rintro e w3 ⟨rfl, hb3⟩
    have HB3 := Lib.hid (bthen HB.out hb3)
    clear hb3
    go_wp2_with (first
      | (go_at_call 131; refine (end_some _ q f k (H.out.keepB HB3.out) n HN.out).mono ?_; rintro e w4 ⟨rfl, hb4⟩; have HB4 := Lib.hid (bthen HB3.out hb4); clear hb4))
    go_ret
    exact ⟨((f + n : Nat) : Int) - 1, rfl, by omega, HB4.out⟩
  · go_enter Try.func133, Try.ntmps133
    go_wp2_with fail
    refine (rd_some lo W q f k H.out).mono ?_
    rintro e w2 ⟨rfl, hb⟩
    have HB := Lib.hid hb
    clear hb
    go_wp2_with fail
    refine (rd_some hi w2 q f k (H.out.keepB HB.out)).mono ?_
    rintro e w3 ⟨rfl, hb3⟩
    have HB3 := Lib.hid (bthen HB.out hb3)
    clear hb3
    go_wp2_with (first
      | (go_at_call 66; refine (cell_some hi _ q f k (H.out.keepB HB3.out) i HI.out).mono ?_; rintro e w4 ⟨rfl, hb4⟩; have HB4 := Lib.hid (bthen HB3.out hb4); clear hb4))
    go_ret
    exact ⟨((f + i : Nat) : Int), rfl, by omega, HB4.out⟩

theorem acheck_nilA (op : ByteArray) (p : Option Addr) (seq : Int) (W : World) :
    Calls Try.prog 132 #[.pointer p, .string op, .pointer none, .int .i64 seq] W fun e w' => ∃ E, e = .returned E ∧ Refused W w' E 2 := by
  go_enter Try.func132, Try.ntmps132
  go_wp2_with (go_at_call 115; refine (wrap_iface _ _ _ _).mono ?_; rintro e w' ⟨rfl, hw⟩; have HR := Lib.hid (refused_of hw); clear hw)
  go_ret
  exact ⟨_, rfl, HR.out⟩
theorem acheck_nilB (op : ByteArray) (b : Nat) (seq : Int) (W : World) :
    Calls Try.prog 132 #[.pointer none, .string op, .pointer (some ⟨b, 0, none⟩), .int .i64 seq] W fun e w' => ∃ E, e = .returned E ∧ Refused W w' E 2 := by
  go_enter Try.func132, Try.ntmps132
  go_wp2_with (go_at_call 115; refine (wrap_iface _ _ _ _).mono ?_; rintro e w' ⟨rfl, hw⟩; have HR := Lib.hid (refused_of hw); clear hw)
  go_ret
  exact ⟨_, rfl, HR.out⟩
theorem acheck_bad (op : ByteArray) (b q : Nat) (seq : Int) (W : World) (hs : seq < 0 ∨ 4611686018427387904 < seq) :
    Calls Try.prog 132 #[.pointer (some ⟨q, 0, none⟩), .string op, .pointer (some ⟨b, 0, none⟩), .int .i64 seq] W fun e w' => ∃ E, e = .returned E ∧ Refused W w' E 5 := by
  rcases hs with hs | hs
  · go_enter Try.func132, Try.ntmps132
    go_wp2_with (go_at_call 115; refine (wrap_iface _ _ _ _).mono ?_; rintro e w' ⟨rfl, hw⟩; have HR := Lib.hid (refused_of hw); clear hw)
    go_ret
    exact ⟨_, rfl, HR.out⟩
  · have hn : ¬ seq < 0 := by omega
    go_enter Try.func132, Try.ntmps132
    go_wp2_with (go_at_call 115; refine (wrap_iface _ _ _ _).mono ?_; rintro e w' ⟨rfl, hw⟩; have HR := Lib.hid (refused_of hw); clear hw)
    go_ret
    exact ⟨_, rfl, HR.out⟩
theorem acheck_ok (op : ByteArray) (b q : Nat) (seq : Int) (W : World) (h0 : 0 ≤ seq) (h1 : seq ≤ 4611686018427387904) :
    Calls Try.prog 132 #[.pointer (some ⟨q, 0, none⟩), .string op, .pointer (some ⟨b, 0, none⟩), .int .i64 seq] W fun e w' => e = .returned .nilIface ∧ W = w' := by
  go_enter Try.func132, Try.ntmps132
  go_wp2
  go_ret
  exact ⟨rfl, rfl⟩
end Go.Proofs.Ytjadapjjilegnaa
