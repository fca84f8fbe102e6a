/-
  SlotsPlays: what holds of the ring and of the row of puts, step by step. No condition but those that each names.
-/
import Derived.Test.YtnimmkgdgdhkfaaSlots6
import Derived.Test.YtnimmkgdgdhkfaaPuts
import Derived.Test.YtnimmkgdgdhkfaaEvEq
import Derived.Test.YtnimmkgdgdhkfaaShut
namespace Go.Proofs.Ytnimmkgdgdhkfaa
open Go.RowKit

/-- The ring, and the row of what was put. -/
def SPm (W w : World) (b g c k : Nat) (v : Value) (ps : List Pt) (xs : List Ev) : Prop :=
  MineR W w b g c k xs ∧ w.ownsRow 0 69 3 v ps.length (pflat ps) ∧ (∀ q, v.ownBlock = some q → W.heap.size ≤ q) ∧ ∀ p ∈ ps, 0 ≤ p.1 ∧ p.1 ≤ 4611686018427387904
/-- Each slot has the last that was put there. -/
def SPr (k : Nat) (ps : List Pt) (xs : List Ev) : Prop := ∀ (seq : Int) (i : Nat), seq % two k = i → xs[i]? = some (evOf (lastPut ps (two k) seq))

theorem SPr.start (k n : Nat) (hn : (n : Int) = two k) : SPr k [] (List.replicate n (0, 0)) := by
  intro seq i hi
  have h0 := two_pos k
  have h2 := Int.emod_lt_of_pos seq h0
  rw [List.getElem?_replicate, if_pos (by omega)]
  rfl
theorem SPr.put {k : Nat} {ps : List Pt} {xs : List Ev} (h : SPr k ps xs) (p : Pt) (i : Nat) (hi : p.1 % two k = i) (hil : i < xs.length) : SPr k (ps ++ [p]) (xs.set i p.2) := by
  intro seq j hj
  rw [lastPut_snoc, List.getElem?_set]
  by_cases e : i = j
  · rw [if_pos e, if_pos hil, if_pos (by omega)]
    rfl
  · rw [if_neg e, if_neg (by omega)]
    exact h seq j hj
theorem SPm.keep {W w w' : World} {b g c k : Nat} {v : Value} {ps : List Pt} {xs : List Ev} (h : SPm W w b g c k v ps xs) (hb : Below w.heap.size w w') : SPm W w' b g c k v ps xs :=
  ⟨h.1.keep hb, (Frm.of_below hb fun _ => False).row h.2.1 fun _ _ => id, h.2.2⟩
/-- The row's block is none of the ring's. -/
theorem SPm.ne {W w : World} {b g c k : Nat} {v : Value} {ps : List Pt} {xs : List Ev} (h : SPm W w b g c k v ps xs) : v.ownBlock ≠ some b ∧ v.ownBlock ≠ some g := by
  obtain ⟨cur, hg⟩ := ownsRow_obj h.1.1.2.1 (g := g) rfl
  exact ⟨row_ne h.2.1 h.1.1.1 (by decide), row_ne h.2.1 hg (by decide)⟩
theorem SPm.app {W w w2 w' : World} {b g c k : Nat} {v v' : Value} {ps : List Pt} {xs : List Ev} (h : SPm W w b g c k v ps xs) {p : Pt} (hp : 0 ≤ p.1 ∧ p.1 ≤ 4611686018427387904) {o : Obj} (hb : Below w.heap.size w w2)
    (hown : w'.ownsRow 0 69 3 v' (ps.length + 1) (pflat ps ++ [.int .i64 p.1, .int .i64 p.2.1, .int .i64 p.2.2])) (hf : Frm (fun k => v.ownBlock = some k) (w2.alloc o) w') (hv : v'.ownBlock = v.ownBlock ∨ ∀ g, v'.ownBlock = some g → (w2.alloc o).heap.size ≤ g) :
    SPm W w' b g c k v' (ps ++ [p]) xs := by
  have h2 := h.keep (balloc hb o)
  obtain ⟨n1, n2⟩ := h.ne
  refine ⟨⟨h2.1.1.keep hf n1 n2, h2.1.2.1.trans (hf.below h2.1.2.1.size h.2.2.1), h2.1.2.2⟩, ?_, ?_, ?_⟩
  · rw [pflat_append, pflat_one, List.length_append]; exact hown
  · intro q hq
    rcases hv with hv | hv
    · exact h.2.2.1 q (hv ▸ hq)
    · exact Nat.le_trans h2.1.2.1.size (hv q hq)
  · intro q hq
    rcases List.mem_append.1 hq with hq | hq
    · exact h.2.2.2 q hq
    · rw [List.mem_singleton] at hq; subst hq; exact hp
theorem SPm.put {W w w' : World} {b g c k : Nat} {v : Value} {ps : List Pt} {xs ys : List Ev} (h : SPm W w b g c k v ps xs) (hs : RgSet w w' b g c k ys) : SPm W w' b g c k v ps ys :=
  ⟨h.1.set hs, hs.2.row h.2.1 (fun _ hq e => h.ne.2 (e ▸ hq)), h.2.2⟩
theorem three_cell' (w : World) (x y z : Value) (t : TypeId) : ∀ j u, [x, y, z][j]? = some u → (w.alloc (.cells #[x, y, z] t)).cell? ((⟨w.heap.size, 0, none⟩ : Addr).add j) = some u := by
  intro j u hu
  rw [Addr.add_lit]
  rcases j with _ | _ | _ | j
  · simp at hu; subst hu; rw [obj_cell (obj_new w _)]; rfl
  · simp at hu; subst hu; rw [obj_cell (obj_new w _)]; rfl
  · simp at hu; subst hu; rw [obj_cell (obj_new w _)]; rfl
  · simp at hu
theorem three_cell2 (w : World) (o : Obj) (x y z : Value) (t : TypeId) : ∀ j u, [x, y, z][j]? = some u → ((w.alloc o).alloc (.cells #[x, y, z] t)).cell? ((⟨w.heap.size + 1, 0, none⟩ : Addr).add j) = some u := by
  have h := three_cell' (w.alloc o) x y z t
  rw [show (w.alloc o).heap.size = w.heap.size + 1 by simp] at h
  exact h
theorem infoPt : (Try.prog.info? 69).map (fun i => (i.zero, i.size, i.bytes)) = some (some (.agg #[.int .i64 0, .int .i64 0, .int .i64 0]), 3, 24) := by kernel_rfl

/-- The clone beside it: another ring. -/
def SP2 (W w : World) (b g c k : Nat) (v : Value) (ps : List Pt) (xs : List Ev) (b2 g2 c2 : Nat) : Prop := SPm W w b g c k v ps xs ∧ ∃ ys, MineR W w b2 g2 c2 k ys ∧ b ≠ g2 ∧ g ≠ g2
theorem SP2.keep {W w w' : World} {b g c k : Nat} {v : Value} {ps : List Pt} {xs : List Ev} {b2 g2 c2 : Nat} (h : SP2 W w b g c k v ps xs b2 g2 c2) (hb : Below w.heap.size w w') : SP2 W w' b g c k v ps xs b2 g2 c2 := by
  obtain ⟨h1, ys, h2, h3⟩ := h
  exact ⟨h1.keep hb, ys, h2.keep hb, h3⟩
theorem SP2.start {W w w' : World} {b g c k : Nat} {v : Value} {ps : List Pt} {xs : List Ev} {e : Ending} (h : SPm W w b g c k v ps xs) (hc : RgCloned w w' k xs e) : ∃ b2 g2 c2, e = .returned (.pointer (some ⟨b2, 0, none⟩)) ∧ SP2 W w' b g c k v ps xs b2 g2 c2 := by
  obtain ⟨b2, g2, c2, he, hr, hb, h1, h2⟩ := hc
  have hl := h.1.1.lt
  have hs := h.1.2.1.size
  exact ⟨b2, g2, c2, he, h.keep hb, xs, ⟨hr, bthen h.1.2.1 hb, by omega, by omega⟩, by omega, by omega⟩
theorem SP2.lt {W w : World} {b g c k : Nat} {v : Value} {ps : List Pt} {xs : List Ev} {b2 g2 c2 : Nat} (h : SP2 W w b g c k v ps xs b2 g2 c2) : g2 < w.heap.size := by
  obtain ⟨_, ys, h2, _⟩ := h
  exact h2.1.lt.2
/-- A put in the clone leaves the ring as it is. -/
theorem SP2.put {W w : World} {b g c k : Nat} {v : Value} {ps : List Pt} {xs : List Ev} {b2 g2 c2 : Nat} (h : SP2 W w b g c k v ps xs b2 g2 c2) (seq x y : Int) (h0 : 0 ≤ seq) (h1 : seq ≤ 4611686018427387904) :
    Calls Try.prog 41 #[.pointer (some ⟨b2, 0, none⟩), .int .i64 seq, .agg #[.int .i64 x, .int .i64 y]] w fun e w' => e = .returned .nilIface ∧ SP2 W w' b g c k v ps xs b2 g2 c2 ∧ Frm (fun q => q = g2) w w' := by
  obtain ⟨hm, ys, hr, n1, n2⟩ := h
  obtain ⟨i, hi, hil, _⟩ := hr.1.slot seq
  refine (put_ok seq x y w b2 g2 c2 k ys hr.1 h0 h1 i hi hil).mono ?_
  rintro e w' ⟨he, hs⟩
  obtain ⟨cur, hg⟩ := ownsRow_obj hr.1.2.1 (g := g2) rfl
  have n3 : v.ownBlock ≠ some g2 := row_ne hm.2.1 hg (by decide)
  refine ⟨he, ⟨⟨⟨hm.1.1.keep hs.2 n1 n2, (hr.set hs).2.1, hm.1.2.2⟩, hs.2.row hm.2.1 (fun _ hq e => n3 (e ▸ hq)), hm.2.2⟩, ⟨_, hr.set hs, n1, n2⟩⟩, hs.2⟩
end Go.Proofs.Ytnimmkgdgdhkfaa
