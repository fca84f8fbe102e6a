/-
  A buffer of package avail beside its arena; what is refused, an index's cell and round, the end, the last cell: by contract. Conditions: the buffer is one that New made.
  A group of package gate that lies anywhere in a block: in, Len, Cells and Add by contract. Condition: at most 32 cells.
  The least of some numbers; slices.Min at []int64 by contract. Condition: the slice isn't empty.
  Package gate's loads and Least by contract, of a group that lies anywhere in a block: what all of its cells have, each loaded once. Conditions: at most 32 cells, numbers from nought; fewer than 2^61 steps.
-/
import Derived.Test.YtdfcfdcekdmcmaaGreatPk02
import Derived.Test.YtdfcfdcekdmcmaaGreatPk03
import Derived.Outline
import Derived.Test.YtdfcfdcekdmcmaaGreatShelf
import Derived.LoopTactic
set_option linter.unusedVariables false
set_option linter.unusedSimpArgs false
namespace Go.Proofs.YtdfcfdcekdmcmaaGreat
open Go.RowKit
def Bf (W : World) (q f k : Nat) : Prop := W.heap[q]? = some (.cells #[.int .i64 f, .int .u8 k] 268 (0, 0)) ∧ k ≤ 20 ∧ (f : Int) ≤ 2097152
theorem Bf.c0 {W : World} {q f k : Nat} (h : Bf W q f k) : W.cell? ⟨q, 0, none⟩ = some (.int .i64 f) := (obj_cell h.1 0).trans rfl
theorem Bf.c1 {W : World} {q f k : Nat} (h : Bf W q f k) : W.cell? ⟨q, 1, none⟩ = some (.int .u8 k) := (obj_cell h.1 1).trans rfl
theorem Bf.keepB {W w' : World} {q f k : Nat} (h : Bf W q f k) (hb : Below W.heap.size W w') : Bf w' q f k := ⟨(hb.block _ (lt_of_block h.1)).trans h.1, h.2⟩
theorem Bf.keep {S : Nat → Prop} {W w' : World} {q f k : Nat} (h : Bf W q f k) (hf : Frm S W w') (hq : ¬ S q) : Bf w' q f k := ⟨hf.obj h.1 hq, h.2⟩
theorem cell_some (seq : Int) (W : World) (q f k : Nat) (h : Bf W q f k) (i : Nat) (hi : seq % two k = i) :
    Calls Tryz.prog 172 #[.pointer (some ⟨q, 0, none⟩), .int .i64 seq] W fun e w' => e = .returned (.int .i64 ((f + i : Nat) : Int)) ∧ Below W.heap.size W w' := by
  have n0 : ∀ x : Later W, x.to.cell? ⟨q, 0, none⟩ = some (.int .i64 f) := fun x => keepc x.below h.c0
  have n1 : ∀ x : Later W, x.to.cell? ⟨q, 1, none⟩ = some (.int .u8 k) := fun x => keepc x.below h.c1
  have HS1 : Hid (∀ x : Later W, Calls Tryz.prog 136 #[.agg #[.int .u8 k], .int .i64 seq] x.to fun e w'' => e = .returned (.int .i64 i) ∧ ∃ y : Later W, w'' = y.to) := fun x => (index_is k h.2.1 seq i hi _).mono fun e w h => ⟨h.1, ⟨w, bthen x.below h.2⟩, rfl⟩
  have hf := h.2.2
  have ht := two_le h.2.1
  have ht2 := two_pos k
  have hil : (i : Int) < two k := by rw [← hi]; exact Int.emod_lt_of_pos _ ht2
  have hw1 : IntKind.i64.wrap ((f : Int) + (i : Int)) = ((f + i : Nat) : Int) := by rw [IntWalk.i64_in _ (by omega)]; omega
  clear h hi
  go_enter Tryz.func172, Tryz.ntmps172
  go_wp2_with fail
  refine wp_region_later (by kernel_rfl) (by kernel_rfl) ?_
  repeat (go_big_quiet_step ((go_at_call 136; exact HS1.out _)))
  refine wpQuiet_nil ?_
  intro _ hw'
  obtain ⟨nq, rfl⟩ := hw'
  clear n0 n1
  go_wp2
  go_ret
  exact ⟨rfl, nq.below⟩
theorem rd_some (seq : Int) (W : World) (q f k : Nat) (h : Bf W q f k) :
    Calls Tryz.prog 173 #[.pointer (some ⟨q, 0, none⟩), .int .i64 seq] W fun e w' => e = .returned (.int .i64 (seq / two k)) ∧ Below W.heap.size W w' := by
  have c1 := h.c1
  have hk := h.2.1
  clear h
  go_enter Tryz.func173, Tryz.ntmps173
  go_wp2_with (go_at_call 177; refine (round_any k hk seq _).mono ?_; rintro e w2 ⟨rfl, hb⟩)
  go_ret
  exact ⟨rfl, hb⟩
theorem end_some (W : World) (q f k : Nat) (h : Bf W q f k) (n : Nat) (hn : (n : Int) = two k) :
    Calls Tryz.prog 164 #[.pointer (some ⟨q, 0, none⟩)] W fun e w' => e = .returned (.int .i64 ((f + n : Nat) : Int)) ∧ Below W.heap.size W w' := by
  have n0 : ∀ x : Later W, x.to.cell? ⟨q, 0, none⟩ = some (.int .i64 f) := fun x => keepc x.below h.c0
  have n1 : ∀ x : Later W, x.to.cell? ⟨q, 1, none⟩ = some (.int .u8 k) := fun x => keepc x.below h.c1
  have HS1 : Hid (∀ x : Later W, Calls Tryz.prog 51 #[.agg #[.int .u8 k]] x.to fun e w'' => e = .returned (.int .i64 n) ∧ ∃ y : Later W, w'' = y.to) := fun x => (slots_any k h.2.1 _).mono fun e w h => ⟨by rw [hn]; exact h.1, ⟨w, bthen x.below (slots_below h.2)⟩, rfl⟩
  have hf := h.2.2
  have ht := two_le h.2.1
  have hw1 : IntKind.i64.wrap ((f : Int) + (n : Int)) = ((f + n : Nat) : Int) := by rw [IntWalk.i64_in _ (by omega)]; omega
  clear h hn
  go_enter Tryz.func164, Tryz.ntmps164
  go_wp2_with fail
  refine wp_region_later (by kernel_rfl) (by kernel_rfl) ?_
  repeat (go_big_quiet_step ((go_at_call 51; exact HS1.out _)))
  refine wpQuiet_nil ?_
  intro _ hw'
  obtain ⟨nq, rfl⟩ := hw'
  clear n0 n1
  go_wp2
  go_ret
  exact ⟨rfl, nq.below⟩
theorem last_some (lo hi : Int) (W : World) (q f k : Nat) (h : Bf W q f k) (n : Nat) (hn : (n : Int) = two k) :
    Calls Tryz.prog 171 #[.pointer (some ⟨q, 0, none⟩), .int .i64 lo, .int .i64 hi] W fun e w' => ∃ c : Int, e = .returned (.int .i64 c) ∧ c < (f + n : Nat) ∧ Below W.heap.size W w' := by
  have H := Lib.hid h
  have HN := Lib.hid hn
  have h0 := two_pos k
  have h1 := Int.emod_nonneg hi (show two k ≠ 0 by omega)
  have h2 := Int.emod_lt_of_pos hi h0
  obtain ⟨i, hi'⟩ : ∃ i : Nat, hi % two k = i := ⟨(hi % two k).toNat, by omega⟩
  have HI := Lib.hid hi'
  have hil : i < n := by omega
  have hf := h.2.2
  have ht := two_le h.2.1
  have hnb : (n : Int) ≤ 1048576 := by omega
  have hn1 : 1 ≤ (n : Int) := by omega
  clear h hn h0 h1 h2 hi' ht
  by_cases hlt : lo / two k < hi / two k
  · go_enter Tryz.func171, Tryz.ntmps171
    go_wp2_with fail
    refine (rd_some lo W q f k H.out).mono ?_
    rintro e w2 ⟨rfl, hb⟩
    have HB := Lib.hid hb
    clear hb
    go_wp2_with fail
    refine (rd_some hi w2 q f k (H.out.keepB HB.out)).mono ?_
    rintro e w3 ⟨rfl, hb3⟩
    have HB3 := Lib.hid (bthen HB.out hb3)
    clear hb3
    go_wp2_with (first
      | (go_at_call 164; refine (end_some _ q f k (H.out.keepB HB3.out) n HN.out).mono ?_; rintro e w4 ⟨rfl, hb4⟩; have HB4 := Lib.hid (bthen HB3.out hb4); clear hb4))
    go_ret
    exact ⟨((f + n : Nat) : Int) - 1, rfl, by omega, HB4.out⟩
  · go_enter Tryz.func171, Tryz.ntmps171
    go_wp2_with fail
    refine (rd_some lo W q f k H.out).mono ?_
    rintro e w2 ⟨rfl, hb⟩
    have HB := Lib.hid hb
    clear hb
    go_wp2_with fail
    refine (rd_some hi w2 q f k (H.out.keepB HB.out)).mono ?_
    rintro e w3 ⟨rfl, hb3⟩
    have HB3 := Lib.hid (bthen HB.out hb3)
    clear hb3
    go_wp2_with (first
      | (go_at_call 172; refine (cell_some hi _ q f k (H.out.keepB HB3.out) i HI.out).mono ?_; rintro e w4 ⟨rfl, hb4⟩; have HB4 := Lib.hid (bthen HB3.out hb4); clear hb4))
    go_ret
    exact ⟨((f + i : Nat) : Int), rfl, by omega, HB4.out⟩
theorem acheck_ok (op : ByteArray) (b q : Nat) (seq : Int) (W : World) (h0 : 0 ≤ seq) (h1 : seq ≤ 4611686018427387904) :
    Calls Tryz.prog 170 #[.pointer (some ⟨q, 0, none⟩), .string op, .pointer (some ⟨b, 0, none⟩), .int .i64 seq] W fun e w' => e = .returned .nilIface ∧ W = w' := by
  go_enter Tryz.func170, Tryz.ntmps170
  go_wp2
  go_ret
  exact ⟨rfl, rfl⟩
end Go.Proofs.YtdfcfdcekdmcmaaGreat
namespace Go.Proofs.YtdfcfdcekdmcmaaGreat
open Go.RowKit
def padI (ids : List Int) : List Int := ids ++ List.replicate (32 - ids.length) 0
theorem padI_len {ids : List Int} (h : ids.length ≤ 32) : (padI ids).length = 32 := by simp [padI]; omega
theorem padI_at {ids : List Int} {j : Nat} (hj : j < ids.length) : (padI ids).getD j 0 = ids.getD j 0 := by
  simp [padI, List.getElem?_append_left hj]
structure Gq (cs : Array Value) (o : Nat) (ids : List Int) : Prop where
  nth : ∀ j, j < 32 → cs[o + j]? = some (.int .i64 ((padI ids).getD j 0))
  n : cs[o + 32]? = some (.int .i64 ids.length)
  len : ids.length ≤ 32
abbrev Blk (W : World) (g : Nat) (cs : Array Value) (T : TypeId) : Prop := W.heap[g]? = some (.cells cs T (0, 0))
theorem blk_keep {W w : World} {g : Nat} {cs : Array Value} {T : TypeId} (h : Blk W g cs T) (hb : Below W.heap.size W w) : Blk w g cs T := (hb.block _ (lt_of_block h)).trans h
section
variable {W : World} {g o : Nat} {cs : Array Value} {T : TypeId} {ids : List Int}
theorem Gq.cN (hq : Gq cs o ids) (h : Blk W g cs T) : W.cell? ⟨g, o + 32, none⟩ = some (.int .i64 ids.length) := (obj_cell h _).trans hq.n
theorem Gq.cAt (hq : Gq cs o ids) (h : Blk W g cs T) (j : Nat) (hj : j < 32) : W.cell? ⟨g, o + j, none⟩ = some (.int .i64 ((padI ids).getD j 0)) := (obj_cell h _).trans (hq.nth j hj)
end
theorem row_base {w : World} {B B' : Nat} {e : TypeId} {size : Nat} {v : Value} {n : Nat} {xs : List Value} (h : w.ownsRow B e size v n xs) (hb : B' ≤ B) : w.ownsRow B' e size v n xs :=
  ⟨h.1, h.2.imp id fun ⟨g, cap, cur, hv, hg, r⟩ => ⟨g, cap, cur, hv, Nat.le_trans hb hg, r⟩⟩
end Go.Proofs.YtdfcfdcekdmcmaaGreat
namespace Go.Proofs.YtdfcfdcekdmcmaaGreat
open Go.RowKit
end Go.Proofs.YtdfcfdcekdmcmaaGreat
namespace Go.Proofs.YtdfcfdcekdmcmaaGreat
open Go.RowKit
theorem load_k (i : Nat) (W : World) (b : Nat) (v : Value) (xs : List Int) (st x : Int) (h : Ar W b v xs st) (hx : xs[i]? = some x) (h0 : 0 ≤ st) (h1 : st < 4611686018427387904) :
    Calls Tryz.prog 35 #[.pointer (some ⟨b, 0, none⟩), .int .i64 i] W fun e w' => e = .returned (.tuple #[.int .i64 x, .nilIface]) ∧ Ar w' b v xs (st + 1) ∧ Frm (fun k => k = b) W w' := by
  obtain ⟨g, hs⟩ := step_way ⟨#[108, 111, 97, 100]⟩ i W b v xs st x h hx h0 h1
  have HS := Lib.hid hs
  clear hs hx h
  go_enter Tryz.func35, Tryz.ntmps35
  go_wp2_with (go_at_call 94; refine HS.out.mono ?_; rintro e w1 ⟨rfl, hw⟩; have hc := hw.1; have HW := Lib.hid hw; clear hw)
  go_ret2
  exact ⟨rfl, HW.out.2.2.1, HW.out.2.2.2.1⟩
theorem row_up {w : World} {B B' : Nat} {e : TypeId} {size : Nat} {v : Value} {n : Nat} {xs : List Value} (h : w.ownsRow B e size v n xs) (hb : ∀ g, v.ownBlock = some g → B' ≤ g) : w.ownsRow B' e size v n xs :=
  ⟨h.1, h.2.imp id fun ⟨g, cap, cur, hv, _, r⟩ => ⟨g, cap, cur, hv, hb g (by rw [hv]; rfl), r⟩⟩
def Loaded (W w : World) (b : Nat) (v : Value) (xs : List Int) (st : Int) : Prop := Ar w b v xs st ∧ Frm (fun k => k = b) W w
end Go.Proofs.YtdfcfdcekdmcmaaGreat
