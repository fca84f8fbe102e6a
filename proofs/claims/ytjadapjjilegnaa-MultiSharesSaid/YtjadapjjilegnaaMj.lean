/-
  Rows beside a sequencer of package multi: made, appended to, set; what is known of it stays. No condition but those that each theorem names.
  A block that is known whole beside a sequencer of package multi and rows: made, set, changed round with a row. No condition but those that each theorem names.
  What a sequencer of package multi keeps while claims and those who hold back go on, in plain numbers. No condition but those that each theorem names.
-/
import Derived.Test.YtjadapjjilegnaaMd
import Derived.Test.YtjadapjjilegnaaRst
namespace Go.Proofs.Ytjadapjjilegnaa
open Go.RowKit

theorem Av.turn2 {R R' : Rest} {S : Nat → Prop} {W0 W w : World} {b q f k : Nat} {xs : List Int} {st : Int} (h : Av R W0 W b q f k xs st) (hf : Frm S W w) (hS : ∀ g, S g → W0.heap.size ≤ g ∧ R.prot g ∧ g ≠ q) (hR : ∀ g, R'.prot g → R.prot g ∨ (W.heap.size ≤ g ∧ g < w.heap.size)) (hI : R'.inv w) : Av R' W0 w b q f k xs st := by
  obtain ⟨v, h1, h2, h3, h4, h5, h6⟩ := h
  have n1 : ¬ S b := fun e => (h6.1 b (hS b e).2.1).2.1 rfl
  have n2 : ¬ S q := fun e => (hS q e).2.2 rfl
  have n3 : ∀ g, v.ownBlock = some g → ¬ S g := fun g hg e => (h6.1 g (hS g e).2.1).2.2 hg
  have ha' := h1.keep hf n1 n3
  refine ⟨v, ha', h2.keep hf n2, h3.trans ⟨hf.os, hf.tape, hf.output, hf.size, fun k hk => ?_⟩, h4, h5, fun g hg => ?_, hI⟩
  · by_cases hs : S k
    · have := (hS k hs).1
      omega
    · exact hf.block k (Nat.lt_of_lt_of_le hk h3.size) hs
  · rcases hR g hg with hg | ⟨g1, g2⟩
    · exact ⟨Nat.lt_of_lt_of_le (h6.1 g hg).1 hf.size, (h6.1 g hg).2⟩
    · refine ⟨g2, fun e => ?_, fun e => ?_⟩
      · have := lt_of_block h1.1
        omega
      · obtain ⟨cur, hc⟩ := ownsRow_obj h1.2 e
        have := lt_of_block hc
        omega
/-- Blocks of the rest turn, blocks that are new come to it. -/
theorem Ms.turn2 {R R' : Rest} {S : Nat → Prop} {W0 W w : World} {s : Sh} {ids xs : List Int} {sw st : Int} (h : Ms R W0 W s ids sw xs st) (hf : Frm S W w) (hS : ∀ g, S g → W0.heap.size ≤ g ∧ R.prot g ∧ ∀ c m, W.heap[g]? ≠ some (.cells c 212 m)) (hR : ∀ g, R'.prot g → R.prot g ∨ (W.heap.size ≤ g ∧ g < w.heap.size)) (hI : R'.inv w) : Ms R' W0 w s ids sw xs st := by
  obtain ⟨cs, h1, h2, h3, h4⟩ := h
  have hp := h4.inv.2
  have hn : ¬ S s.p := fun e => h3 (hS _ e).2.1
  have hp2 := hf.obj hp hn
  obtain ⟨v, ha, hq, _⟩ := id h4
  refine ⟨cs, h1, h2, ?_, h4.turn2 hf (fun g hs => ⟨(hS g hs).1, .inl (hS g hs).2.1, ?_⟩) ?_ ⟨hI, hp2⟩⟩
  · intro e
    rcases hR _ e with e | e
    · exact h3 e
    · have := lt_of_block hp
      omega
  · rintro rfl
    exact (hS _ hs).2.2 _ _ hq.1
  · rintro g (e | e)
    · rcases hR g e with e | e
      · exact .inl (.inl e)
      · exact .inr e
    · exact .inl (.inr e)
section
variable {R : Rest} {W0 W w : World} {s : Sh} {ids cs : List Int} {sw st : Int} {T : TypeId} {z n : Nat} {v v' : Value} {xs : List Value}
theorem Ms.rowIs (h : Ms (R.row W0.heap.size T z v n xs) W0 W s ids sw cs st) : W.ownsRow W0.heap.size T z v n xs := h.inv.2.1
theorem Ms.nil (h : Ms R W0 W s ids sw cs st) (T : TypeId) (z : Nat) : Ms (R.row W0.heap.size T z (.slice none 0 0) 0 []) W0 W s ids sw cs st := by
  refine h.turn2 (S := fun _ => False) (Frm.refl _ _) (fun _ h => h.elim) (fun g hg => .inl ?_) ⟨h.inv, World.ownsRow_nil _ _ _ _, fun k _ e => by simp [Value.ownBlock] at e⟩
  rcases hg with hg | hg
  · exact hg
  · simp [Value.ownBlock] at hg
/-- A row more, made now. -/
theorem Ms.more (h : Ms R W0 W s ids sw cs st) (hf : Frm (fun _ => False) W w) (ho : w.ownsRow W.heap.size T z v n xs) : Ms (R.row W0.heap.size T z v n xs) W0 w s ids sw cs st := by
  have h0 := h.below.size
  refine h.turn2 hf (fun _ h => h.elim) (fun g hg => ?_) ⟨R.ok _ _ h.inv fun k hk => hf.block k (h.prot_lt hk) id, row_up ho fun g hg => ?_, fun k hk e => ?_⟩
  · rcases hg with hg | hg
    · exact .inl hg
    · exact .inr (ho.lt g hg)
  · have := (ho.lt g hg).1
    omega
  · have := (ho.lt k e).1
    have := h.prot_lt hk
    omega
/-- The row is appended to. -/
theorem Ms.app (h : Ms (R.row W0.heap.size T z v n xs) W0 W s ids sw cs st) (hT : T ≠ 212) {n' : Nat} {ys : List Value} (o : Obj) (hown : w.ownsRow 0 T z v' n' ys) (hf : Frm (fun k => v.ownBlock = some k) (W.alloc o) w) (hv : v'.ownBlock = v.ownBlock ∨ ∀ g, v'.ownBlock = some g → (W.alloc o).heap.size ≤ g) :
    Ms (R.row W0.heap.size T z v' n' ys) W0 w s ids sw cs st := by
  have h1 := h.keep (balloc (Below.refl _ _) o)
  have h0 := h.below.size
  have hr := h.inv.2.1
  have hsz : W.heap.size ≤ (W.alloc o).heap.size := by simp
  have hlow : ∀ g, v'.ownBlock = some g → W0.heap.size ≤ g := fun g hg => by
    rcases hv with hv | hv
    · exact (hr.lt g (hv ▸ hg)).1
    · have := hv g hg
      omega
  refine h1.turn2 hf (fun g hg => ⟨(hr.lt g hg).1, .inr hg, fun c m e => ?_⟩) (fun g hg => ?_) ⟨R.ok _ _ h1.inv.1 fun k hk => hf.block k (h1.prot_lt (.inl hk)) (h1.inv.2.2 k hk), row_up hown hlow, fun k hk e => ?_⟩
  · obtain ⟨cur, hc⟩ := ownsRow_obj h1.inv.2.1 hg
    rw [hc] at e
    cases e
    exact hT rfl
  · rcases hg with hg | hg
    · exact .inl (.inl hg)
    · rcases hv with hv | hv
      · exact .inl (.inr (hv ▸ hg))
      · exact .inr ⟨hv g hg, (hown.lt g hg).2⟩
  · rcases hv with hv | hv
    · exact h.inv.2.2 k hk (hv ▸ e)
    · have := hv k e
      have := h1.prot_lt (k := k) (.inl hk)
      omega
/-- One of its cells is set. -/
theorem Ms.put {g cap : Nat} (h : Ms (R.row W0.heap.size T z (.slice (some ⟨g, 0, none⟩) n cap) n xs) W0 W s ids sw cs st) (hT : T ≠ 212) (j : Nat) (u : Value) :
    Ms (R.row W0.heap.size T z (.slice (some ⟨g, 0, none⟩) n cap) n (xs.set j u)) W0 (W.setCell ⟨g, j, none⟩ u) s ids sw cs st := by
  have hr := h.inv.2.1
  have hg : (Value.slice (some ⟨g, 0, none⟩) n cap).ownBlock = some g := by simp [Value.ownBlock]
  have hf : Frm (fun k => k = g) W (W.setCell ⟨g, j, none⟩ u) := (Frm.refl (fun k => k = g) W).setCell (p := ⟨g, j, none⟩) rfl u
  refine h.turn2 hf (fun k hk => ?_) (fun k hk => .inl hk) ⟨R.ok _ _ h.inv.1 fun k hk => hf.block k (h.prot_lt (.inl hk)) fun e => h.inv.2.2 k hk (e ▸ hg), (hr.stored j u).1, h.inv.2.2⟩
  subst hk
  refine ⟨(hr.lt _ hg).1, .inr hg, fun c m e => ?_⟩
  obtain ⟨cur, hc⟩ := ownsRow_obj hr hg
  rw [hc] at e
  cases e
  exact hT rfl
/-- Two rows change places. -/
theorem Ms.swap {T2 : TypeId} {z2 n2 : Nat} {v2 : Value} {xs2 : List Value} (h : Ms ((R.row W0.heap.size T z v n xs).row W0.heap.size T2 z2 v2 n2 xs2) W0 W s ids sw cs st) : Ms ((R.row W0.heap.size T2 z2 v2 n2 xs2).row W0.heap.size T z v n xs) W0 W s ids sw cs st := by
  obtain ⟨⟨i1, i2, i3⟩, i4, i5⟩ := h.inv
  refine h.less (fun g hg => ?_) ⟨⟨i1, i4, fun k hk => i5 k (.inl hk)⟩, i2, fun k hk => ?_⟩
  · rcases hg with (hg | hg) | hg
    · exact .inl (.inl hg)
    · exact .inr hg
    · exact .inl (.inr hg)
  · rcases hk with hk | hk
    · exact i3 k hk
    · exact fun e => i5 k (.inr e) hk
theorem Ms.to (h : Ms (R.row W0.heap.size T z v n xs) W0 W s ids sw cs st) (R' : Rest) (he : R' = R.row W0.heap.size T z v n xs) : Ms R' W0 W s ids sw cs st := he ▸ h
theorem Lv.of_ms {R' : Rest} {c sn : Int} {sh gv : List Int} (h : Lv R W0 W s c sn sh gv sw st) (hm : Ms R' W0 w s (idsN sh.length gv.length) sw (mk c sn sh gv) st) : Lv R' W0 w s c sn sh gv sw st := ⟨hm, h.n, h.cur, h.cch, h.f, h.c1, h.swc⟩
end
end Go.Proofs.Ytjadapjjilegnaa
namespace Go.Proofs.Ytjadapjjilegnaa
open Go.RowKit

section
variable {R : Rest} {W0 W w : World} {s : Sh} {ids xs : List Int} {sw st : Int} {T U : TypeId} {z n p : Nat} {v : Value} {ys : List Value} {cs : Array Value}
theorem Ms.boxIs (h : Ms (R.box W0.heap.size p cs U) W0 W s ids sw xs st) : W.heap[p]? = some (.cells cs U (0, 0)) := h.inv.2.1
theorem Ms.boxNew (h : Ms R W0 W s ids sw xs st) (cs : Array Value) (U : TypeId) : Ms (R.box W0.heap.size W.heap.size cs U) W0 (W.alloc (.cells cs U)) s ids sw xs st := by
  have h0 := h.below.size
  have hf : Frm (fun _ => False) W (W.alloc (.cells cs U)) := (Frm.refl _ _).alloc _
  refine h.turn2 hf (fun _ h => h.elim) (fun g hg => ?_) ⟨R.ok _ _ h.inv fun k hk => hf.block k (h.prot_lt hk) id, obj_new _ _, fun e => Nat.lt_irrefl _ (h.prot_lt e), h0⟩
  rcases hg with hg | rfl
  · exact .inl hg
  · exact .inr ⟨Nat.le_refl _, by simp⟩
/-- It turns. -/
theorem Ms.boxTurn {cs' : Array Value} (h : Ms (R.box W0.heap.size p cs U) W0 W s ids sw xs st) (hU : U ≠ 212) (hf : Frm (fun k => k = p) W w) (hb : w.heap[p]? = some (.cells cs' U (0, 0))) : Ms (R.box W0.heap.size p cs' U) W0 w s ids sw xs st := by
  have hi := h.inv
  refine h.turn2 hf (fun k hk => ?_) (fun g hg => .inl hg) ⟨R.ok _ _ hi.1 fun k hk => hf.block k (h.prot_lt (.inl hk)) fun e => hi.2.2.1 (e ▸ hk), hb, hi.2.2⟩
  subst hk
  refine ⟨hi.2.2.2, .inr rfl, fun c m e => ?_⟩
  rw [hi.2.1] at e
  cases e
  exact hU rfl
theorem Ms.boxSet (h : Ms (R.box W0.heap.size p cs U) W0 W s ids sw xs st) (hU : U ≠ 212) (i : Nat) (u : Value) : Ms (R.box W0.heap.size p (cs.setIfInBounds i u) U) W0 (W.setCell ⟨p, i, none⟩ u) s ids sw xs st :=
  h.boxTurn hU ((Frm.refl (fun k => k = p) W).setCell (p := ⟨p, i, none⟩) rfl u) (obj_setCell _ h.boxIs)
theorem Ms.boxRow (h : Ms (R.box W0.heap.size p cs U) W0 W s ids sw xs st) (hU : U ≠ 212) (cs' : Array Value) : Ms (R.box W0.heap.size p cs' U) W0 (W.setRow p cs') s ids sw xs st :=
  h.boxTurn hU ((Frm.refl (fun k => k = p) W).setRow rfl cs') (setRow_heap _ _ _ _ _ _ h.boxIs)
theorem Ms.boxOut (h : Ms ((R.box W0.heap.size p cs U).row W0.heap.size T z v n ys) W0 W s ids sw xs st) : Ms ((R.row W0.heap.size T z v n ys).box W0.heap.size p cs U) W0 W s ids sw xs st := by
  obtain ⟨⟨i1, i2, i3, i4⟩, i5, i6⟩ := h.inv
  refine h.less (fun g hg => ?_) ⟨⟨i1, i5, fun k hk => i6 k (.inl hk)⟩, i2, fun e => ?_, i4⟩
  · rcases hg with (hg | hg) | hg
    · exact .inl (.inl hg)
    · exact .inr hg
    · exact .inl (.inr hg)
  · rcases e with e | e
    · exact i3 e
    · exact i6 p (.inr rfl) e
theorem Ms.boxIn (h : Ms ((R.row W0.heap.size T z v n ys).box W0.heap.size p cs U) W0 W s ids sw xs st) : Ms ((R.box W0.heap.size p cs U).row W0.heap.size T z v n ys) W0 W s ids sw xs st := by
  obtain ⟨⟨i1, i5, i6⟩, i2, i3, i4⟩ := h.inv
  refine h.less (fun g hg => ?_) ⟨⟨i1, i2, fun e => i3 (.inl e), i4⟩, i5, fun k hk => ?_⟩
  · rcases hg with (hg | hg) | hg
    · exact .inl (.inl hg)
    · exact .inr hg
    · exact .inl (.inr hg)
  · rcases hk with hk | rfl
    · exact i6 k hk
    · exact fun e => i3 (.inr e)
/-- Less is known: without the box, without the row. -/
theorem Ms.boxDrop (h : Ms (R.box W0.heap.size p cs U) W0 W s ids sw xs st) : Ms R W0 W s ids sw xs st := h.less (fun _ k => .inl k) h.inv.1
theorem Ms.rowDrop (h : Ms (R.row W0.heap.size T z v n ys) W0 W s ids sw xs st) : Ms R W0 W s ids sw xs st := h.less (fun _ k => .inl k) h.inv.1
/-- Another row in its place, which is new or lies where it lay. -/
theorem Ms.rowTo {v' : Value} {n' : Nat} {zs : List Value} (h : Ms R W0 W s ids sw xs st) (hb : Below W.heap.size W w) (ho : w.ownsRow W.heap.size T z v' n' zs) : Ms (R.row W0.heap.size T z v' n' zs) W0 w s ids sw xs st :=
  h.more (Frm.of_below hb fun _ => False) ho
end
end Go.Proofs.Ytjadapjjilegnaa
namespace Go.Proofs.Ytjadapjjilegnaa
open Go.RowKit

theorem le_least {a c : Int} {gs : List Int} : a ≤ leastP c gs ↔ a ≤ c ∧ ∀ x ∈ gs, a ≤ x := by
  constructor
  · intro h
    obtain ⟨h1, h2⟩ := leastP_le c gs
    exact ⟨by omega, fun x hx => by have := h2 x hx; omega⟩
  · rintro ⟨h1, h2⟩
    rcases leastP_in c gs with e | e
    · omega
    · exact h2 _ e
/-- What was seen is behind what holds back now. -/
def Seen (c sn : Int) (gs : List Int) : Prop := sn ≤ leastP c gs
theorem Seen.claim {N c sn n : Int} {gs : List Int} (h : Seen c sn gs) (hn : 1 ≤ n) : Seen (c + n) (snP N c sn n gs) gs := by
  unfold Seen snP
  by_cases e : enoughP N c sn n
  · rw [if_pos e]
    obtain ⟨h1, h2⟩ := le_least.1 h
    exact le_least.2 ⟨by omega, h2⟩
  · rw [if_neg e]
    obtain ⟨h1, h2⟩ := leastP_le c gs
    exact le_least.2 ⟨by omega, h2⟩
theorem Seen.raise {c sn x : Int} {gs : List Int} {i : Nat} (h : Seen c sn gs) (hx : sn ≤ x) : Seen c sn (gs.set i x) := by
  obtain ⟨h1, h2⟩ := le_least.1 h
  refine le_least.2 ⟨h1, fun y hy => ?_⟩
  rcases List.mem_or_eq_of_mem_set hy with hy | rfl
  · exact h2 _ hy
  · exact hx
theorem Seen.more {c sn : Int} {gs : List Int} (h : Seen c sn gs) : Seen c sn (gs ++ [c]) := by
  obtain ⟨h1, h2⟩ := le_least.1 h
  refine le_least.2 ⟨h1, fun y hy => ?_⟩
  rcases List.mem_append.1 hy with hy | hy
  · exact h2 _ hy
  · simp at hy
    omega
theorem Seen.at {c sn : Int} {gs : List Int} (h : Seen c sn gs) {i : Nat} (hi : i < gs.length) : sn ≤ gs.getD i 0 := by
  obtain ⟨h1, h2⟩ := le_least.1 h
  have e : gs.getD i 0 = gs[i] := by simp [List.getD, hi]
  rw [e]
  exact h2 _ (List.getElem_mem hi)
/-- There is room as long as enough remain. -/
theorem ok_iff {N c sn n : Int} {gs : List Int} (h : Seen c sn gs) (hn : 1 ≤ n) : okP N c sn n gs ↔ n ≤ remP N c gs := by
  have hl := (leastP_le c gs).1
  unfold Seen at h
  unfold okP enoughP remP
  omega
/-- Never more are open than there is room. -/
theorem room_claim {N c sn n : Int} {gs : List Int} (h : Seen c sn gs) (hok : okP N c sn n gs) : ∀ x ∈ gs, c + n - x ≤ N := by
  intro x hx
  have h2 := (leastP_le c gs).2 x hx
  unfold Seen at h
  unfold okP enoughP at hok
  omega
end Go.Proofs.Ytjadapjjilegnaa
