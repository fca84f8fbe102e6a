/-
  The document's own arena (norialaw03, noriaref03): Right, Set and Sum, by contract. Conditions: the arena's row is its own; at most 2097152 cells.
-/
import Derived.Test.YtofkcjoonjhdpaaCells6
namespace Go.Proofs.Ytofkcjoonjhdpaa
open Go.RowKit

/-- The document's arena in a block. -/
def Mo (W : World) (b : Nat) (v : Value) (xs : List Int) (st : Int) : Prop :=
  W.heap[b]? = some (.cells #[v, .int .i64 st] 29 (0, 0)) ∧ W.ownsRow 0 2 1 v xs.length (xs.map (Value.int .i64))

theorem right_yes (i n c : Nat) (p : Option Addr) (st : Value) (W : World) (hi : i < n) (_hn : n ≤ 9223372036854775807) :
    Calls Try.prog 32 #[.agg #[.slice p n c, st], .int .i64 i] W fun e w' => e = .returned (.bool true) ∧ Below W.heap.size W w' := by
  go_enter Try.func32, Try.ntmps32
  go_wp2
  go_ret
  exact ⟨rfl, by go_grown⟩
theorem right_no (id : Int) (n c : Nat) (p : Option Addr) (st : Value) (W : World) (hi : id < 0 ∨ (n : Int) ≤ id) :
    Calls Try.prog 32 #[.agg #[.slice p n c, st], .int .i64 id] W fun e w' => e = .returned (.bool false) ∧ Below W.heap.size W w' := by
  rcases hi with h | h
  · go_enter Try.func32, Try.ntmps32
    go_wp2
    go_ret
    exact ⟨rfl, by go_grown⟩
  · have h0 : 0 ≤ id := by omega
    have hd : decide (id < (n : Int)) = false := by rw [decide_eq_false_iff_not]; omega
    go_enter Try.func32, Try.ntmps32
    go_wp2
    go_ret
    exact ⟨rfl, by go_grown⟩

theorem sum_yes (x d : Int) (W : World) (hd1 : -9223372036854775808 ≤ d) (hd2 : d ≤ 9223372036854775807) (_hx1 : -9223372036854775808 ≤ x) (_hx2 : x ≤ 9223372036854775807) (hs1 : -9223372036854775808 ≤ x + d) (hs2 : x + d ≤ 9223372036854775807) :
    Calls Try.prog 34 #[.int .i64 x, .int .i64 d] W fun e w' => e = .returned (.tuple #[.int .i64 (x + d), .bool true]) ∧ W = w' := by
  by_cases p : 0 < d
  · have p' : ¬ d < 0 := by omega
    go_enter Try.func34, Try.ntmps34
    go_wp2
    go_ret2
    exact ⟨rfl, rfl⟩
  · by_cases q : d < 0
    · go_enter Try.func34, Try.ntmps34
      go_wp2
      go_ret2
      exact ⟨rfl, rfl⟩
    · go_enter Try.func34, Try.ntmps34
      go_wp2
      go_ret2
      exact ⟨rfl, rfl⟩
theorem sum_no (x d : Int) (W : World) (hd1 : -9223372036854775808 ≤ d) (hd2 : d ≤ 9223372036854775807) (hx1 : -9223372036854775808 ≤ x) (hx2 : x ≤ 9223372036854775807) (hs : x + d < -9223372036854775808 ∨ 9223372036854775807 < x + d) :
    Calls Try.prog 34 #[.int .i64 x, .int .i64 d] W fun e w' => e = .returned (.tuple #[.int .i64 0, .bool false]) ∧ W = w' := by
  rcases hs with q | q
  · have p : ¬ 0 < d := by omega
    have r : d < 0 := by omega
    go_enter Try.func34, Try.ntmps34
    go_wp2
    go_ret2
    exact ⟨rfl, rfl⟩
  · have p : 0 < d := by omega
    go_enter Try.func34, Try.ntmps34
    go_wp2
    go_ret2
    exact ⟨rfl, rfl⟩

/-- A new arena value, with a row of its own. -/
def SetTo3 (W w' : World) (n : Nat) (ys : List Value) (st : Int) (e : Ending) : Prop :=
  ∃ p c, e = .returned (.agg #[.slice p n c, .int .i64 st]) ∧ w'.ownsRow 0 2 1 (.slice p n c) n ys ∧ Below W.heap.size W w' ∧ ∀ g, (Value.slice p n c).ownBlock = some g → W.heap.size ≤ g

theorem set_facts {W w3 : World} {g g' c' cap n i : Nat} {ys : List Value} {st : Int} (hi : i < n)
    (ho : w3.ownsRow 0 2 1 (.slice (some ⟨g', 0, none⟩) n c') n ys)
    (hf : Frm (fun k => (Value.slice none 0 0).ownBlock = some k) ((W.alloc (.cells #[.slice (some ⟨g, 0, none⟩) n cap, .int .i64 st] 29)).alloc (.cells #[.slice none 0 0, .int .i64 0] 29)) w3)
    (hv : (Value.slice (some ⟨g', 0, none⟩) n c').ownBlock = (Value.slice none 0 0).ownBlock ∨ ∀ k, (Value.slice (some ⟨g', 0, none⟩) n c').ownBlock = some k → ((W.alloc (.cells #[.slice (some ⟨g, 0, none⟩) n cap, .int .i64 st] 29)).alloc (.cells #[.slice none 0 0, .int .i64 0] 29)).heap.size ≤ k) :
    (∃ x, w3.cell? ⟨g', i, none⟩ = some x) ∧ w3.frozen? ⟨g', i, none⟩ = false ∧ w3.cell? ⟨W.heap.size, 1, none⟩ = some (.int .i64 st) ∧ w3.heap[W.heap.size + 1]? = some (.cells #[.slice none 0 0, .int .i64 0] 29 (0, 0)) ∧ W.heap.size + 2 ≤ g' ∧ Below W.heap.size W w3 := by
  have hg : W.heap.size + 2 ≤ g' := by
    rcases hv with h | h
    · simp [Value.ownBlock] at h
    · simpa using h g' rfl
  refine ⟨?_, ho.frozenAt i, ?_, ?_, hg, ?_⟩
  · have h := ho.cellAt i (by omega)
    have hl : i < ys.length := by have := ho.1; omega
    rw [List.getElem?_eq_getElem hl] at h
    exact ⟨_, h⟩
  · exact hf.cell (by rw [obj_cell (obj_old _ (obj_new W _))]; rfl) (by simp [Value.ownBlock])
  · have h := obj_new (W.alloc (.cells #[.slice (some ⟨g, 0, none⟩) n cap, .int .i64 st] 29)) (.cells #[.slice none 0 0, .int .i64 0] 29)
    rw [World.size_alloc] at h
    exact hf.obj h (by simp [Value.ownBlock])
  · have h : Frm (fun _ => False) W w3 := (((Frm.refl _ W).alloc _).alloc _).then hf fun k _ hk => by simp [Value.ownBlock] at hk
    exact h.below (Nat.le_refl _) fun _ h => h.elim

theorem set_end {W w3 : World} {g' c' n i q : Nat} {ys : List Value} {st y : Int} (hq : q = W.heap.size + 1)
    (ho : w3.ownsRow 0 2 1 (.slice (some ⟨g', 0, none⟩) n c') n ys) (hg : W.heap.size + 2 ≤ g') (hb : Below W.heap.size W w3) :
    SetTo3 W (((w3.setCell ⟨g', i, none⟩ (.int .i64 y)).setCell ⟨q, 0, none⟩ (.slice (some ⟨g', 0, none⟩) n c')).setCell ⟨q, 1, none⟩ (.int .i64 st)) n (ys.set i (.int .i64 y)) st (.returned (.agg #[.slice (some ⟨g', 0, none⟩) n c', .int .i64 st])) := by
  obtain ⟨s1, _⟩ := ho.stored i (.int .i64 y)
  refine ⟨_, _, rfl, ?_, ((hb.setCell (p := ⟨g', i, none⟩) (by show _ ≤ g'; omega) _).setCell (p := ⟨q, 0, none⟩) (by show _ ≤ q; omega) _).setCell (p := ⟨q, 1, none⟩) (by show _ ≤ q; omega) _, ?_⟩
  · exact ownsRow_setCell_other (ownsRow_setCell_other s1 (a := ⟨q, 0, none⟩) (by simp [Value.ownBlock]; omega) _) (a := ⟨q, 1, none⟩) (by simp [Value.ownBlock]; omega) _
  · intro k hk
    simp [Value.ownBlock] at hk
    omega

set_option maxRecDepth 100000 in
set_option maxHeartbeats 400000 in
theorem set_some (i n cap g : Nat) (ys : List Value) (st y : Int) (W : World) (ho : W.ownsRow 0 2 1 (.slice (some ⟨g, 0, none⟩) n cap) n ys) (hy : ∀ u ∈ ys, u.oneCell' = true) (hi : i < n) (hl : (n : Int) ≤ 2097152) :
    Calls Try.prog 33 #[.agg #[.slice (some ⟨g, 0, none⟩) n cap, .int .i64 st], .int .i64 i, .int .i64 y] W fun e w' => SetTo3 W w' n (ys.set i (.int .i64 y)) st e := by
  obtain ⟨i0, hi0, hz0, hz1, hz2⟩ := info_parts infoI64
  have HB := Lib.hid hl
  have HY := Lib.hid hy
  have HI := Lib.hid hi
  have hnews : ∀ w' : World, Frm (fun _ => False) W w' → ∀ j u, ys[j]? = some u → w'.cell? ((⟨g, 0, none⟩ : Addr).add j) = some u := fun w' hf => (hf.row ho fun _ _ => id).cells (g := g) rfl
  have HN := Lib.hid hnews
  have HM := Lib.hid ho.1
  have hn9 : n ≤ 9223372036854775807 := by omega
  clear ho hl hy hnews
  go_enter Try.func33, Try.ntmps33
  go_wp2_with (at_builtin; refine wpList_append_row rfl _ _ 27 rfl 2 i0 (.int .i64 0) 1 8 Try.underlying27 hi0 hz0 hz1 hz2 rfl (by decide) (.slice none 0 0) 0 [] rfl (World.ownsRow_nil _ _ _ _) ⟨g, 0, none⟩ n cap ys rfl HM.out (HN.out _ (((Frm.refl _ _).alloc _).alloc _)) HY.out (by have := HB.out; unfold maxLen; omega) (by have := HB.out; omega) ?_; intro v' w3 hown3 hf3 hv3; simp only [Nat.zero_add, List.nil_append] at hown3; obtain ⟨g', c', rfl, hgc⟩ := row_some hown3 (by have := HI.out; omega); obtain ⟨⟨x3, hc3⟩, hfz3, hst3, hob3, hg3, hb3⟩ := set_facts HI.out hown3 hf3 hv3; have hc4 : w3.cell? ⟨W.heap.size + 1, 0, none⟩ = some (.slice none 0 0) := (obj_cell hob3 0).trans rfl; have hc5 : w3.cell? ⟨W.heap.size + 1, 1, none⟩ = some (.int .i64 0) := (obj_cell hob3 1).trans rfl; have hfz4 := obj_free hob3 0; have hfz5 := obj_free hob3 1; have hne3 : g' ≠ W.heap.size := (by omega); have hne4 : g' ≠ W.heap.size + 1 := (by omega); have HE := Lib.hid (set_end (i := i) (st := st) (y := y) rfl hown3 hg3 hb3); clear hown3 hf3 hv3 hgc hob3 hb3)
  refine bodyPost_ret (v := .agg #[.slice (some ⟨g', 0, none⟩) n c', .int .i64 st]) ?_ rfl HE.out
  simp [results, Try.results33, go_sem, hc4, hc5]
end Go.Proofs.Ytofkcjoonjhdpaa
