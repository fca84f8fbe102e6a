/-
  A sequencer of package multi beside its arena and its buffer, and whatever else is known of blocks that aren't theirs. No condition but those that each theorem names.
-/
import Derived.Test.YtjadapjjilegnaaAv5
import Derived.Test.YtjadapjjilegnaaScn2
namespace Go.Proofs.Ytjadapjjilegnaa
open Go.RowKit

/-- Where a sequencer, its arena and its buffer lie; its cells; its size. -/
structure Sh where
  p : Nat
  b : Nat
  q : Nat
  f : Nat
  k : Nat
  cur : Nat
  cch : Nat
/-- What a sequencer's cells are. -/
structure SqF (cs : Array Value) (s : Sh) (ids : List Int) (sw : Int) : Prop where
  size : cs.size = 39
  c0 : cs[0]? = some (.pointer (some ⟨s.b, 0, none⟩))
  c1 : cs[1]? = some (.int .u8 s.k)
  c2 : cs[2]? = some (.int .i64 s.cur)
  c3 : cs[3]? = some (.int .i64 s.cch)
  c4 : cs[4]? = some (.pointer (some ⟨s.q, 0, none⟩))
  gr : Gq cs 5 ids
  c38 : cs[38]? = some (.int .i64 sw)
theorem SqF.swapped {cs : Array Value} {s : Sh} {ids : List Int} {sw : Int} (h : SqF cs s ids sw) (x : Int) : SqF (cs.setIfInBounds 38 (.int .i64 x)) s ids x := by
  have hs := h.size
  refine ⟨by simpa using hs, ?_, ?_, ?_, ?_, ?_, ⟨fun j hj => ?_, ?_, h.gr.len⟩, ?_⟩
  · rw [Array.getElem?_setIfInBounds_ne (by omega)]; exact h.c0
  · rw [Array.getElem?_setIfInBounds_ne (by omega)]; exact h.c1
  · rw [Array.getElem?_setIfInBounds_ne (by omega)]; exact h.c2
  · rw [Array.getElem?_setIfInBounds_ne (by omega)]; exact h.c3
  · rw [Array.getElem?_setIfInBounds_ne (by omega)]; exact h.c4
  · rw [Array.getElem?_setIfInBounds_ne (by omega)]; exact h.gr.nth j hj
  · rw [Array.getElem?_setIfInBounds_ne (by omega)]; exact h.gr.n
  · rw [Array.getElem?_setIfInBounds_self_of_lt (by omega)]
theorem SqF.more {cs : Array Value} {s : Sh} {ids : List Int} {sw : Int} (h : SqF cs s ids sw) (hl : ids.length < 32) (id : Int) : SqF ((cs.setIfInBounds (5 + ids.length) (.int .i64 id)).setIfInBounds (5 + 32) (.int .i64 ((ids.length : Int) + 1))) s (ids ++ [id]) sw := by
  have hs := h.size
  have e : ∀ i, i < 5 ∨ 38 ≤ i → ((cs.setIfInBounds (5 + ids.length) (.int .i64 id)).setIfInBounds (5 + 32) (.int .i64 ((ids.length : Int) + 1)))[i]? = cs[i]? := fun i hi => by
    rw [Array.getElem?_setIfInBounds_ne (by omega), Array.getElem?_setIfInBounds_ne (by omega)]
  exact ⟨by simpa using hs, (e 0 (by omega)).trans h.c0, (e 1 (by omega)).trans h.c1, (e 2 (by omega)).trans h.c2, (e 3 (by omega)).trans h.c3, (e 4 (by omega)).trans h.c4, h.gr.more hl id, (e 38 (by omega)).trans h.c38⟩

/-- A sequencer in a block, its arena and its buffer made since W0, and the rest. -/
def Ms (R : Rest) (W0 W : World) (s : Sh) (ids : List Int) (sw : Int) (xs : List Int) (st : Int) : Prop :=
  ∃ cs, SqF cs s ids sw ∧ W0.heap.size ≤ s.p ∧ ¬ R.prot s.p ∧ Av (R.and s.p cs 216) W0 W s.b s.q s.f s.k xs st

section
variable {R : Rest} {W0 W w : World} {s : Sh} {ids xs : List Int} {sw st : Int}
theorem Ms.keep (h : Ms R W0 W s ids sw xs st) (hb : Below W.heap.size W w) : Ms R W0 w s ids sw xs st := by
  obtain ⟨cs, h1, h2, h3, h4⟩ := h
  exact ⟨cs, h1, h2, h3, h4.keep hb⟩
theorem Ms.below (h : Ms R W0 W s ids sw xs st) : Below W0.heap.size W0 W := by
  obtain ⟨cs, h1, h2, h3, h4⟩ := h
  exact h4.below
theorem Ms.inv (h : Ms R W0 W s ids sw xs st) : R.inv W := by
  obtain ⟨cs, h1, h2, h3, h4⟩ := h
  exact h4.inv.1
theorem Ms.bf (h : Ms R W0 W s ids sw xs st) : Bf W s.q s.f s.k := by
  obtain ⟨cs, h1, h2, h3, h4⟩ := h
  exact h4.bf
theorem Ms.mv (h : Ms R W0 W s ids sw xs st) : ∃ R', Mv R' W0 W s.b xs st := by
  obtain ⟨cs, h1, h2, h3, h4⟩ := h
  exact ⟨_, h4.mv⟩
theorem Ms.blk (h : Ms R W0 W s ids sw xs st) : ∃ cs, SqF cs s ids sw ∧ Blk W s.p cs 216 := by
  obtain ⟨cs, h1, h2, h3, h4⟩ := h
  exact ⟨cs, h1, h4.inv.2⟩
/-- The cells of the sequencer itself. -/
structure MsC (W : World) (s : Sh) (sw : Int) : Prop where
  c0 : W.cell? ⟨s.p, 0, none⟩ = some (.pointer (some ⟨s.b, 0, none⟩))
  c1 : W.cell? ⟨s.p, 1, none⟩ = some (.int .u8 s.k)
  c2 : W.cell? ⟨s.p, 2, none⟩ = some (.int .i64 s.cur)
  c3 : W.cell? ⟨s.p, 3, none⟩ = some (.int .i64 s.cch)
  c4 : W.cell? ⟨s.p, 4, none⟩ = some (.pointer (some ⟨s.q, 0, none⟩))
  c38 : W.cell? ⟨s.p, 38, none⟩ = some (.int .i64 sw)
theorem Ms.c (h : Ms R W0 W s ids sw xs st) : MsC W s sw := by
  obtain ⟨cs, h1, h2⟩ := h.blk
  exact ⟨(obj_cell h2 _).trans h1.c0, (obj_cell h2 _).trans h1.c1, (obj_cell h2 _).trans h1.c2, (obj_cell h2 _).trans h1.c3, (obj_cell h2 _).trans h1.c4, (obj_cell h2 _).trans h1.c38⟩
theorem MsC.later (h : MsC W s sw) (hb : Below W.heap.size W w) : MsC w s sw := ⟨keepc hb h.c0, keepc hb h.c1, keepc hb h.c2, keepc hb h.c3, keepc hb h.c4, keepc hb h.c38⟩
theorem Ms.f (h : Ms R W0 W s ids sw xs st) (i : Nat) : W.frozen? ⟨s.p, i, none⟩ = false := by
  obtain ⟨cs, _, h2⟩ := h.blk
  exact obj_free h2 i
theorem Ms.k20 (h : Ms R W0 W s ids sw xs st) : s.k ≤ 20 := h.bf.2.1

/-- What is known of one block more. -/
theorem Ms.with (h : Ms R W0 W s ids sw xs st) {g : Nat} {gs : Array Value} {T : TypeId} (hg : Blk W g gs T) (t1 : T ≠ 194) (t2 : 2 ≠ T) (t3 : T ≠ 216) : Ms (R.and g gs T) W0 W s ids sw xs st := by
  obtain ⟨cs, h1, h2, h3, h4⟩ := h
  have hp := h4.inv.2
  refine ⟨cs, h1, h2, ?_, h4.turn (S := fun _ => False) (Frm.refl _ _) (fun _ _ _ h => h.elim) ?_ ⟨⟨h4.inv.1, hg⟩, hp⟩⟩
  · rintro (e | e)
    · exact h3 e
    · exact obj_ne hp hg (fun e => t3 e.symm) e
  · rintro k ((e | rfl) | e)
    · exact .inl (.inl e)
    · exact .inr ⟨_, _, _, hg, t1, t2⟩
    · exact .inl (.inr e)
/-- Less is known. -/
theorem Ms.less {R' : Rest} (h : Ms R W0 W s ids sw xs st) (hp : ∀ g, R'.prot g → R.prot g) (hi : R'.inv W) : Ms R' W0 W s ids sw xs st := by
  obtain ⟨cs, h1, h2, h3, h4⟩ := h
  have hb := h4.inv.2
  exact ⟨cs, h1, h2, fun e => h3 (hp _ e), h4.turn (S := fun _ => False) (Frm.refl _ _) (fun _ _ _ h => h.elim) (fun k hk => .inl (hk.imp (hp k) id)) ⟨hi, hb⟩⟩
theorem Ms.drop {g : Nat} {gs : Array Value} {T : TypeId} (h : Ms (R.and g gs T) W0 W s ids sw xs st) : Ms R W0 W s ids sw xs st := h.less (fun _ h => .inl h) h.inv.1
/-- A block that isn't theirs turns: it was in the rest, and is so again. -/
theorem Ms.turn {R' : Rest} {S : Nat → Prop} (h : Ms R W0 W s ids sw xs st) (hf : Frm S W w) (hS : ∀ g o, W.heap[g]? = some o → S g → W0.heap.size ≤ g ∧ ∃ c T m, o = .cells c T m ∧ T ≠ 194 ∧ 2 ≠ T ∧ T ≠ 216 ∧ T ≠ 212)
    (hR : ∀ g, R'.prot g → R.prot g ∨ ∃ c T m, w.heap[g]? = some (.cells c T m) ∧ T ≠ 194 ∧ 2 ≠ T ∧ T ≠ 216) (hI : R'.inv w) : Ms R' W0 w s ids sw xs st := by
  obtain ⟨cs, h1, h2, h3, h4⟩ := h
  have hp := h4.inv.2
  have hn : ¬ S s.p := fun e => by
    obtain ⟨_, c, T, m, e2, _, _, e3, _⟩ := hS _ _ hp e
    cases e2
    exact e3 rfl
  have hp2 := hf.obj hp hn
  obtain ⟨v, ha, hq, _⟩ := id h4
  refine ⟨cs, h1, h2, ?_, h4.turn hf (fun g o ho hs => ?_) ?_ ⟨hI, hp2⟩⟩
  · intro e
    rcases hR _ e with e | ⟨c, T, m, hc, _, _, t3⟩
    · exact h3 e
    · exact obj_ne hp2 hc (fun e => t3 e.symm) rfl
  · obtain ⟨e1, c, T, m, rfl, t1, t2, t3, t4⟩ := hS g o ho hs
    refine ⟨e1, obj_ne ho ha.1 t1, obj_ne ho hq.1 t4, fun c2 e => ?_⟩
    cases e
    exact t2 rfl
  · rintro g (e | e)
    · rcases hR g e with e | ⟨c, T, m, hc, t1, t2, _⟩
      · exact .inl (.inl e)
      · exact .inr ⟨c, T, m, hc, t1, t2⟩
    · exact .inl (.inr e)
/-- The sequencer's own block turns. -/
theorem Ms.own {cs' : Array Value} {ids' : List Int} {sw' : Int} (h : Ms R W0 W s ids sw xs st) (hf : Frm (fun k => k = s.p) W w) (hb : Blk w s.p cs' 216) (hs : SqF cs' s ids' sw') : Ms R W0 w s ids' sw' xs st := by
  obtain ⟨cs, h1, h2, h3, h4⟩ := h
  have hp := h4.inv.2
  obtain ⟨v, ha, hq, _, _, _, hR⟩ := id h4
  refine ⟨cs', hs, h2, h3, h4.turn hf (fun g o ho e => ?_) (fun g hg => ?_) ⟨?_, hb⟩⟩
  · subst e
    rw [hp] at ho
    cases ho
    exact ⟨h2, obj_ne hp ha.1 (by decide), obj_ne hp hq.1 (by decide), fun c e => by injection e with _ e2 _; exact absurd e2 (by decide)⟩
  · exact .inl hg
  · exact R.ok _ _ h4.inv.1 fun g hg => hf.block g (hR.1 g (.inl hg)).1 fun e => h3 (e ▸ hg)

theorem load_s (h : Ms R W0 W s ids sw xs st) (i : Nat) (x : Int) (hx : xs[i]? = some x) (h0 : 0 ≤ st) (h1 : st < 4611686018427387904) :
    Calls Try.prog 31 #[.pointer (some ⟨s.b, 0, none⟩), .int .i64 i] W fun e w' => e = .returned (.tuple #[.int .i64 x, .nilIface]) ∧ Ms R W0 w' s ids sw xs (st + 1) := by
  obtain ⟨cs, k1, k2, k3, k4⟩ := h
  exact (load_v k4 i x hx h0 h1).mono fun _ _ ⟨he, ha⟩ => ⟨he, cs, k1, k2, k3, ha⟩
theorem store_s (h : Ms R W0 W s ids sw xs st) (i : Nat) (y : Int) (hi : i < xs.length) (h0 : 0 ≤ st) (h1 : st < 4611686018427387904) :
    Calls Try.prog 37 #[.pointer (some ⟨s.b, 0, none⟩), .int .i64 i, .int .i64 y] W fun e w' => e = .returned .nilIface ∧ Ms R W0 w' s ids sw (xs.set i y) (st + 1) := by
  obtain ⟨cs, k1, k2, k3, k4⟩ := h
  exact (store_v k4 i y hi h0 h1).mono fun _ _ ⟨he, ha⟩ => ⟨he, cs, k1, k2, k3, ha⟩
theorem alloc_s (h : Ms R W0 W s ids sw xs st) (x : Int) (hl : (xs.length : Int) < 2097152) :
    Calls Try.prog 78 #[.pointer (some ⟨s.b, 0, none⟩), .int .i64 x] W fun e w' => e = .returned (.tuple #[.int .i64 xs.length, .nilIface]) ∧ Ms R W0 w' s ids sw (xs ++ [x]) st := by
  obtain ⟨cs, k1, k2, k3, k4⟩ := h
  exact (alloc_v k4 x hl).mono fun _ _ ⟨he, ha, _⟩ => ⟨he, cs, k1, k2, k3, ha⟩
theorem len_s (h : Ms R W0 W s ids sw xs st) :
    Calls Try.prog 29 #[.pointer (some ⟨s.b, 0, none⟩)] W fun e w' => e = .returned (.int .i64 xs.length) ∧ W = w' := by
  obtain ⟨cs, k1, k2, k3, k4⟩ := h
  exact len_v k4
theorem swapy_s (h : Ms R W0 W s ids sw xs st) (i : Nat) (x y : Int) (hx : xs[i]? = some x) (h0 : 0 ≤ st) (h1 : st < 4611686018427387904) :
    Calls Try.prog 92 #[.pointer (some ⟨s.b, 0, none⟩), .int .i64 i, .int .i64 x, .int .i64 y] W fun e w' => e = .returned (.tuple #[.bool true, .nilIface]) ∧ Ms R W0 w' s ids sw (xs.set i y) (st + 1) := by
  obtain ⟨cs, k1, k2, k3, k4⟩ := h
  exact (swapy_v k4 i x y hx h0 h1).mono fun _ _ ⟨he, ha⟩ => ⟨he, cs, k1, k2, k3, ha⟩
theorem swapn_s (h : Ms R W0 W s ids sw xs st) (i : Nat) (o x y : Int) (hx : xs[i]? = some x) (ho : (x == o) = false) (h0 : 0 ≤ st) (h1 : st < 4611686018427387904) :
    Calls Try.prog 92 #[.pointer (some ⟨s.b, 0, none⟩), .int .i64 i, .int .i64 o, .int .i64 y] W fun e w' => e = .returned (.tuple #[.bool false, .nilIface]) ∧ Ms R W0 w' s ids sw xs (st + 1) := by
  obtain ⟨cs, k1, k2, k3, k4⟩ := h
  exact (swapn_v k4 i o x y hx ho h0 h1).mono fun _ _ ⟨he, ha⟩ => ⟨he, cs, k1, k2, k3, ha⟩
/-- One who holds back more. -/
theorem gadd_s (h : Ms R W0 W s ids sw xs st) (id : Int) (h0 : 0 ≤ id) (h1 : id < 2097152) (hin : id ∉ ids) (hm : ids.length < 32) :
    Calls Try.prog 80 #[.pointer (some ⟨s.p, 5, none⟩), .int .i64 id] W fun e w' => e = .returned .nilIface ∧ Ms R W0 w' s (ids ++ [id]) sw xs st := by
  obtain ⟨cs, k1, k2⟩ := h.blk
  exact (gadd_q k2 k1.gr id h0 h1 hin hm).mono fun _ _ ⟨he, hb, hf⟩ => ⟨he, h.own hf hb (k1.more hm id)⟩
end

/-! What a sequencer tells of itself -/
section
variable {R : Rest} {W0 W w : World} {s : Sh} {ids xs : List Int} {sw st : Int}
theorem mgate_nil (W : World) : Calls Try.prog 79 #[.pointer none] W fun e w' => e = .returned (.pointer none) ∧ W = w' := by
  go_enter Try.func79, Try.ntmps79
  go_wp2
  go_ret
  exact ⟨rfl, rfl⟩
theorem mgate_some (p : Nat) (W : World) : Calls Try.prog 79 #[.pointer (some ⟨p, 0, none⟩)] W fun e w' => e = .returned (.pointer (some ⟨p, 5, none⟩)) ∧ W = w' := by
  go_enter Try.func79, Try.ntmps79
  go_wp2
  go_ret
  exact ⟨rfl, rfl⟩
theorem mcached_nil (W : World) : Calls Try.prog 111 #[.pointer none] W fun e w' => e = .returned (.int .i64 (-1)) ∧ W = w' := by
  go_enter Try.func111, Try.ntmps111
  go_wp2
  go_ret
  exact ⟨rfl, rfl⟩
theorem mcached_some (h : Ms R W0 W s ids sw xs st) : Calls Try.prog 111 #[.pointer (some ⟨s.p, 0, none⟩)] W fun e w' => e = .returned (.int .i64 s.cch) ∧ W = w' := by
  have c := h.c.c3
  clear h
  go_enter Try.func111, Try.ntmps111
  go_wp2
  go_ret
  exact ⟨rfl, rfl⟩
theorem mclaimed_nil (W : World) : Calls Try.prog 82 #[.pointer none] W fun e w' => e = .returned (.int .i64 (-1)) ∧ W = w' := by
  go_enter Try.func82, Try.ntmps82
  go_wp2
  go_ret
  exact ⟨rfl, rfl⟩
/-- Whether so much is enough. -/
theorem menough (hc : MsC W s sw) (hk : s.k ≤ 20) (least last : Int) (h0 : -4611686018427387905 ≤ last) (h1 : last ≤ 4611686018427387904) :
    Calls Try.prog 175 #[.pointer (some ⟨s.p, 0, none⟩), .int .i64 least, .int .i64 last] W fun e w' => e = .returned (.bool (decide (last - two s.k ≤ least))) ∧ Below W.heap.size W w' := by
  have c := hc.c1
  have t1 := two_le hk
  have t2 := two_pos s.k
  clear hc
  go_enter Try.func175, Try.ntmps175
  go_wp2_with (go_at_call 87; refine (slots_any s.k hk _).mono ?_; rintro e w3 ⟨rfl, hw⟩; have HB := Lib.hid (slots_below hw); clear hw)
  go_ret
  exact ⟨rfl, HB.out⟩
end
end Go.Proofs.Ytjadapjjilegnaa
