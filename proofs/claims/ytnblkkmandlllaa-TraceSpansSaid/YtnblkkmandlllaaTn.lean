/-
  Notes as plain data; a slice of notes that is read, a row of notes that a call owns. No condition but those that each theorem names.
-/
import Derived.Test.YtnblkkmandlllaaShut
import Derived.Test.YtnblkkmandlllaaMem
import Derived.OwnWalk
import Derived.Outline
import Derived.BigQuiet
import Derived.Carry
import Derived.Shelf.Abstract
namespace Go.Proofs.Ytnblkkmandlllaa
open Go.RowKit

/-- A note's numbers. -/
structure Nt where
  who : Int
  ring : Int
  deed : Int
  lo : Int
  seq : Int
  key : Int
  val : Int
  code : Int
theorem Nt.eq_iff (a b : Nt) : a = b ↔ (a.who = b.who ∧ a.ring = b.ring ∧ a.deed = b.deed ∧ a.lo = b.lo ∧ a.seq = b.seq ∧ a.key = b.key ∧ a.val = b.val ∧ a.code = b.code) := by
  cases a; cases b; simp
instance : DecidableEq Nt := fun a b => decidable_of_iff _ (Nt.eq_iff a b).symm
instance : Inhabited Nt := ⟨⟨0, 0, 0, 0, 0, 0, 0, 0⟩⟩
def i64Ok (x : Int) : Prop := -9223372036854775808 ≤ x ∧ x ≤ 9223372036854775807
structure Nt.wf (x : Nt) : Prop where
  who : i64Ok x.who
  ring : i64Ok x.ring
  deed : i64Ok x.deed
  lo : i64Ok x.lo
  seq : i64Ok x.seq
  key : i64Ok x.key
  val : i64Ok x.val
  code : i64Ok x.code
/-- A note's cells. -/
def Nt.cs (x : Nt) : List Value := [.int .i64 x.who, .int .i64 x.ring, .int .i64 x.deed, .int .i64 x.lo, .int .i64 x.seq, .int .i64 x.key, .int .i64 x.val, .int .i64 x.code]
/-- Notes' cells. -/
def flatN (l : List Nt) : List Value := l.flatMap Nt.cs
theorem flatN_len (l : List Nt) : (flatN l).length = l.length * 8 := by
  unfold flatN
  induction l with
  | nil => rfl
  | cons t l ih => simp only [List.flatMap_cons, List.length_append, ih, List.length_cons, Nt.cs, List.length_nil]; omega
theorem flatN_append (a b : List Nt) : flatN (a ++ b) = flatN a ++ flatN b := by unfold flatN; rw [List.flatMap_append]
theorem flatN_one (x : Nt) : flatN [x] = x.cs := by simp [flatN]
theorem flatN_get {l : List Nt} {k : Nat} {x : Nt} (h : l[k]? = some x) {f : Nat} (hf : f < 8) : (flatN l)[k * 8 + f]? = x.cs[f]? := by
  obtain ⟨hk, rfl⟩ := List.getElem?_eq_some_iff.1 h
  have e : flatN l = flatN (l.take k) ++ (l[k].cs ++ flatN (l.drop (k + 1))) := by
    rw [← flatN_one, ← flatN_append, ← flatN_append]
    congr 1
    rw [List.singleton_append, ← List.drop_eq_getElem_cons hk, List.take_append_drop]
  have hl : (flatN (l.take k)).length = k * 8 := by rw [flatN_len, List.length_take]; omega
  rw [e, List.getElem?_append_right (by omega), hl, List.getElem?_append_left (by simp [Nt.cs]; omega)]
  congr 1
  omega

/-- A note's cells at a place. -/
structure NtAt (w : World) (b o : Nat) (x : Nt) : Prop where
  c0 : w.cell? ⟨b, o, none⟩ = some (.int .i64 x.who)
  c1 : w.cell? ⟨b, o + 1, none⟩ = some (.int .i64 x.ring)
  c2 : w.cell? ⟨b, o + 2, none⟩ = some (.int .i64 x.deed)
  c3 : w.cell? ⟨b, o + 3, none⟩ = some (.int .i64 x.lo)
  c4 : w.cell? ⟨b, o + 4, none⟩ = some (.int .i64 x.seq)
  c5 : w.cell? ⟨b, o + 5, none⟩ = some (.int .i64 x.key)
  c6 : w.cell? ⟨b, o + 6, none⟩ = some (.int .i64 x.val)
  c7 : w.cell? ⟨b, o + 7, none⟩ = some (.int .i64 x.code)
theorem NtAt.keep {w w' : World} {b o B : Nat} {x : Nt} (h : NtAt w b o x) (hb : Below B w w') (hB : b < B) : NtAt w' b o x :=
  ⟨(hb.cell (p := ⟨b, _, none⟩) hB).trans h.c0, (hb.cell (p := ⟨b, _, none⟩) hB).trans h.c1, (hb.cell (p := ⟨b, _, none⟩) hB).trans h.c2, (hb.cell (p := ⟨b, _, none⟩) hB).trans h.c3,
    (hb.cell (p := ⟨b, _, none⟩) hB).trans h.c4, (hb.cell (p := ⟨b, _, none⟩) hB).trans h.c5, (hb.cell (p := ⟨b, _, none⟩) hB).trans h.c6, (hb.cell (p := ⟨b, _, none⟩) hB).trans h.c7⟩

/-- A slice of notes, read. -/
def NtsAt (w : World) (v : Value) (l : List Nt) : Prop :=
  ∃ p c, v = .slice p l.length c ∧ l.length ≤ c ∧ c ≤ maxLen ∧ (∀ x ∈ l, x.wf) ∧ (l.length = 0 ∨ ∃ b off, p = some ⟨b, off, none⟩ ∧ b < w.heap.size ∧ ∀ j x, l[j]? = some x → NtAt w b (off + j * 8) x)
theorem NtsAt.keep {w w' : World} {v : Value} {l : List Nt} (h : NtsAt w v l) (hb : Below w.heap.size w w') : NtsAt w' v l := by
  obtain ⟨p, c, hv, h1, h2, hw, h3⟩ := h
  refine ⟨p, c, hv, h1, h2, hw, ?_⟩
  rcases h3 with h3 | ⟨b, off, hp, hlt, hc⟩
  · exact .inl h3
  · exact .inr ⟨b, off, hp, Nat.lt_of_lt_of_le hlt hb.size, fun j x hj => (hc j x hj).keep hb hlt⟩
theorem NtsAt.form {w : World} {v : Value} {l : List Nt} (h : NtsAt w v l) : ∃ p c, v = .slice p l.length c ∧ l.length ≤ c ∧ c ≤ maxLen := by
  obtain ⟨p, c, hv, h1, h2, _⟩ := h
  exact ⟨p, c, hv, h1, h2⟩
theorem NtsAt.wf {w : World} {v : Value} {l : List Nt} (h : NtsAt w v l) : ∀ x ∈ l, x.wf := by
  obtain ⟨p, c, hv, h1, h2, hw, _⟩ := h
  exact hw
theorem NtsAt.at_ {w : World} {p : Option Addr} {n c : Nat} {l : List Nt} (h : NtsAt w (.slice p n c) l) {k : Nat} (hk : k < l.length) :
    ∃ b off x, p = some ⟨b, off, none⟩ ∧ l[k]? = some x ∧ b < w.heap.size ∧ x.wf ∧ NtAt w b (off + k * 8) x := by
  obtain ⟨p', c', hv, h1, h2, hw, h3⟩ := h
  simp only [Value.slice.injEq] at hv
  obtain ⟨rfl, -, -⟩ := hv
  obtain ⟨b, off, rfl, hlt, hc⟩ := h3.resolve_left (by omega)
  exact ⟨b, off, l[k], rfl, List.getElem?_eq_getElem hk, hlt, hw _ (List.getElem_mem hk), hc k _ (List.getElem?_eq_getElem hk)⟩
theorem NtsAt.nil (w : World) : NtsAt w (.slice none 0 0) [] := ⟨none, 0, rfl, Nat.le_refl _, Nat.zero_le _, by simp, .inl rfl⟩

/-- A row of notes that a call owns: made since a block. -/
structure NtsOwn (B : Nat) (w : World) (v : Value) (l : List Nt) : Prop where
  own : w.ownsRow B 33 8 v l.length (flatN l)
  wf : ∀ x ∈ l, x.wf
theorem NtsOwn.nil (B : Nat) (w : World) : NtsOwn B w (.slice none 0 0) [] := ⟨World.ownsRow_nil _ _ _ _, by simp⟩
theorem NtsOwn.read {B : Nat} {w : World} {v : Value} {l : List Nt} (h : NtsOwn B w v l) : NtsAt w v l := by
  obtain ⟨ho, hw⟩ := h
  have ho2 := ho
  obtain ⟨h1, h2⟩ := ho
  rcases h2 with ⟨rfl, h0⟩ | ⟨g, cap, cur, rfl, _, hg, hc, hm, _⟩
  · obtain rfl : l = [] := List.eq_nil_of_length_eq_zero h0
    exact NtsAt.nil w
  · refine ⟨_, cap, rfl, hc, hm, hw, ?_⟩
    rcases Nat.eq_zero_or_pos l.length with h0 | hpos
    · exact .inl h0
    · refine .inr ⟨g, 0, rfl, lt_of_block hg, fun j x hj => ?_⟩
      have hjl : j < l.length := (List.getElem?_eq_some_iff.1 hj).1
      have cell : ∀ f, f < 8 → w.cell? ⟨g, 0 + j * 8 + f, none⟩ = x.cs[f]? := fun f hf => by
        rw [Nat.zero_add]
        exact (ho2.cellAt (j * 8 + f) (by omega)).trans (flatN_get hj hf)
      exact ⟨cell 0 (by decide), cell 1 (by decide), cell 2 (by decide), cell 3 (by decide), cell 4 (by decide), cell 5 (by decide), cell 6 (by decide), cell 7 (by decide)⟩
theorem NtsOwn.keep {B : Nat} {w w' : World} {v : Value} {l : List Nt} (h : NtsOwn B w v l) (hb : Below w.heap.size w w') : NtsOwn B w' v l :=
  ⟨Frm.row (Frm.of_below hb fun _ => False) h.own fun _ _ => id, h.wf⟩
theorem Below.app {B s n : Nat} {e : TypeId} {W0 w w' : World} {o : Obj} {v : Value} {xs : List Value} (hb : Below B W0 w) (hB : B ≤ w.heap.size) (hr : w.ownsRow B e s v n xs) (hg : (w.alloc o).grownBy w' v.ownBlock) : Below B W0 w' :=
  (hb.alloc hB o).grown hg (by simp; omega) fun k hk => (hr.lt k hk).1
theorem bthen {W w w' : World} (h : Below W.heap.size W w) (k : Below w.heap.size w w') : Below W.heap.size W w' := h.trans (k.mono h.size)
theorem keepc {W w : World} {b o : Nat} {v : Value} (h : Below W.heap.size W w) (hc : W.cell? ⟨b, o, none⟩ = some v) : w.cell? ⟨b, o, none⟩ = some v :=
  (h.cell (p := ⟨b, o, none⟩) (World.block_lt_of_cell? W _ hc)).trans hc
theorem row_base {w : World} {B B' : Nat} {e : TypeId} {size : Nat} {v : Value} {n : Nat} {xs : List Value} (h : w.ownsRow B e size v n xs) (hb : B' ≤ B) : w.ownsRow B' e size v n xs :=
  ⟨h.1, h.2.imp id fun ⟨g, cap, cur, hv, hg, r⟩ => ⟨g, cap, cur, hv, Nat.le_trans hb hg, r⟩⟩
theorem World.alloc_size (w : World) (o : Obj) : (w.alloc o).heap.size = w.heap.size + 1 := by simp
theorem nt_cell (w : World) (x : Nt) (t : TypeId) : ∀ j u, x.cs[j]? = some u → (w.alloc (.cells x.cs.toArray t)).cell? ((⟨w.heap.size, 0, none⟩ : Addr).add j) = some u := by
  intro j u hu
  rw [Addr.add_lit, obj_cell (obj_new w _)]
  simpa using hu
theorem nt_one (x : Nt) : ∀ u ∈ x.cs, u.oneCell' = true := by
  intro u hu
  simp [Nt.cs] at hu
  rcases hu with rfl | rfl | rfl | rfl | rfl | rfl | rfl | rfl <;> rfl
theorem infoNt : (Try.prog.info? 33).map (fun i => (i.zero, i.size, i.bytes)) = some (some (.agg #[.int .i64 0, .int .i64 0, .int .i64 0, .int .i64 0, .int .i64 0, .int .i64 0, .int .i64 0, .int .i64 0]), 8, 64) := by kernel_rfl
theorem take_snocN {α : Type} {l : List α} {k : Nat} {x : α} (h : l[k]? = some x) : l.take (k + 1) = l.take k ++ [x] := by
  obtain ⟨hk, rfl⟩ := List.getElem?_eq_some_iff.1 h
  exact List.take_succ_eq_append_getElem hk
theorem filter_snocT {α : Type} {f : α → Bool} {l : List α} {x : α} (h : f x = true) : (l ++ [x]).filter f = l.filter f ++ [x] := by rw [List.filter_append]; simp [h]
theorem filter_snocF {α : Type} {f : α → Bool} {l : List α} {x : α} (h : f x = false) : (l ++ [x]).filter f = l.filter f := by rw [List.filter_append]; simp [h]
theorem NtsOwn.app {B : Nat} {w' : World} {v' : Value} {l : List Nt} {x : Nt} (ho : w'.ownsRow B 33 8 v' (l.length + 1) (flatN l ++ x.cs)) (hl : ∀ y ∈ l, y.wf) (hx : x.wf) : NtsOwn B w' v' (l ++ [x]) :=
  ⟨by rw [flatN_append, flatN_one, List.length_append]; exact ho, by
    intro y hy
    rcases List.mem_append.1 hy with h | h
    · exact hl y h
    · simp at h; subst h; exact hx⟩
end Go.Proofs.Ytnblkkmandlllaa
