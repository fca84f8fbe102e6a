/-
  Add of package graph, whatever is handed in, by contract. Conditions: a graph in which nobody is behind itself; at most 100 names.
-/
import Derived.Test.YtggjimeligbmcabGr13
namespace Go.Proofs.Ytggjimeligbmcab
open Go.RowKit
set_option linter.unusedVariables false

/-- A slice of numbers. -/
def IntsAt (W : World) (v : Value) (l : List Int) : Prop := ∃ p cap, v = .slice p l.length cap ∧ (l.length = 0 ∨ ∃ b off, p = some ⟨b, off, none⟩ ∧ ∀ j, j < l.length → W.cell? ⟨b, off + j, none⟩ = some (.int .i64 (l.getD j 0)))
theorem IntsAt.keep {w w' : World} {v : Value} {l : List Int} (h : IntsAt w v l) (hb : Below w.heap.size w w') : IntsAt w' v l := by
  obtain ⟨p, c, rfl, h⟩ := h
  refine ⟨p, c, rfl, h.imp id ?_⟩
  rintro ⟨b, off, rfl, hc⟩
  exact ⟨b, off, rfl, fun j hj => keepc hb (hc j hj)⟩
theorem IntsAt.nat {w : World} {v : Value} {l : List Int} (h : IntsAt w v l) (hp : ∀ x, x ∈ l → 0 ≤ x) : IntsN w v (l.map Int.toNat) := by
  obtain ⟨p, c, rfl, h⟩ := h
  refine ⟨p, c, by simp, ?_⟩
  rw [List.length_map]
  refine h.imp id ?_
  rintro ⟨b, off, rfl, hc⟩
  refine ⟨b, off, rfl, fun j hj => ?_⟩
  rw [hc j hj]
  have hm : l.getD j 0 ∈ l := by
    rw [List.getD_eq_getElem?_getD, List.getElem?_eq_getElem hj]
    exact List.getElem_mem _
  have := hp _ hm
  congr 2
  simp only [List.getD_eq_getElem?_getD, List.getElem?_map, List.getElem?_eq_getElem hj, Option.map_some, Option.getD_some] at *
  omega
section
variable {B : Nat} {W w w' w4 w6 : World} {g : Nat} {G G' : List Nd} {N N' : List (Bool × Value)} {vn vn' v' v4 : Value} {l : List Nat}
theorem Gw.add_at (h : Gw B w g G N vn) (hB : B ≤ w.heap.size) (hc : w4.ownsRow w.heap.size 3 1 v4 l.length (ints l)) (hb4 : Below w.heap.size w w4)
    (hown : w6.ownsRow 0 70 2 v' (G.length + 1) (fl2 N ++ [.bool false, v4])) (hf : Frm (fun k => vn.ownBlock = some k) w4 w6) (hv : v'.ownBlock = vn.ownBlock ∨ ∀ k, v'.ownBlock = some k → w4.heap.size ≤ k) :
    Gs B w (w6.setCell ⟨g, 0, none⟩ v') g G N vn (addG G l) := by
  have hl := h.len
  have hs4 := hb4.size
  have h4 := h.keep hb4
  have hvg : vn.ownBlock ≠ some g := row_ne h.row h.blk (by decide)
  have hvN : ∀ i, i < G.length → ∀ k, (N.getD i d0).2.ownBlock = some k → vn.ownBlock ≠ some k := fun i hi k hk hk2 => by
    obtain ⟨c1, h1⟩ := ownsRow_obj (h.own i hi) hk
    exact row_ne h.row h1 (by decide) hk2
  have hv4 : ∀ k, v4.ownBlock = some k → vn.ownBlock ≠ some k ∧ k ≠ g ∧ w.heap.size ≤ k := fun k hk => by
    have h1 := (hc.lt k hk).1
    refine ⟨fun h2 => ?_, fun e => ?_, h1⟩
    · have := (h.row.lt k h2).2
      omega
    · have := lt_of_block h.blk
      omega
  have hvg' : ∀ k, v'.ownBlock = some k → k ≠ g ∧ B ≤ k := fun k hk => by
    rcases hv with h1 | h1
    · rw [h1] at hk
      exact ⟨fun e => hvg (e ▸ hk), (h.row.lt k hk).1⟩
    · have h2 := h1 k hk
      have := lt_of_block h.blk
      exact ⟨by omega, by omega⟩
  have fr1 : Frm (fun k => k = g ∨ vn.ownBlock = some k) w4 (w6.setCell ⟨g, 0, none⟩ v') := (hf.mono fun _ _ h => .inr h).setCell (p := ⟨g, 0, none⟩) (.inl rfl) _
  have frw : Frm (fun k => k = g ∨ vn.ownBlock = some k) w (w6.setCell ⟨g, 0, none⟩ v') := (Frm.of_below hb4 _).then fr1 fun _ _ h => h
  have hat : ∀ i, i < G.length → (N ++ [(false, v4)]).getD i d0 = N.getD i d0 := fun i hi => by
    rw [List.getD_eq_getElem?_getD, List.getElem?_append_left (by omega), ← List.getD_eq_getElem?_getD]
  have hself : (N ++ [(false, v4)]).getD G.length d0 = (false, v4) := by
    rw [List.getD_eq_getElem?_getD, ← hl]
    simp
  have hlen : (addG G l).length = G.length + 1 := by simp [addG]
  have hNg : ∀ i, i < G.length → ∀ k, (N.getD i d0).2.ownBlock = some k → k ≠ g := fun i hi k hk e => row_ne (h.own i hi) h.blk (by decide) (e ▸ hk)
  refine ⟨⟨N ++ [(false, v4)], v', ⟨?_, h.lo, ?_, by simp [hl, hlen], fun i hi => ?_, fun i hi => ?_, fun i j hi hj hij b hb => ?_⟩, fun k hk => ?_⟩, frw.mono fun k _ hk => hk.elim .inl fun h => .inr (.inl h)⟩
  · have := obj_setCell (i := 0) v' (hf.obj h4.blk hvg)
    simpa using this
  · rw [hlen, fl2_snoc]
    exact ((Frm.refl (fun k => k = g) w6).setCell (p := ⟨g, 0, none⟩) rfl v').row (row_up hown fun k hk => (hvg' k hk).2) fun k hk e => (hvg' k hk).1 e
  · rw [hlen] at hi
    rcases Nat.lt_or_ge i G.length with k | k
    · rw [hat i k, nd_add_old k]; exact h.gone i k
    · obtain rfl : i = G.length := by omega
      rw [hself, nd_add_new]
  · rw [hlen] at hi
    rcases Nat.lt_or_ge i G.length with k | k
    · rw [hat i k, show aft (addG G l) i = aft G i by unfold aft; rw [nd_add_old k]]
      exact fr1.row (h4.own i k) fun b hb e => e.elim (hNg i k b hb) (hvN i k b hb)
    · obtain rfl : i = G.length := by omega
      rw [hself, show aft (addG G l) G.length = l by unfold aft; rw [nd_add_new]]
      exact fr1.row (row_base hc hB) fun b hb e => e.elim (hv4 b hb).2.1 (hv4 b hb).1
  · rw [hlen] at hi hj
    rcases Nat.lt_or_ge i G.length with k | k
    · rw [hat i k] at hb
      rcases Nat.lt_or_ge j G.length with k2 | k2
      · rw [hat j k2]; exact h.apart i j k k2 hij b hb
      · obtain rfl : j = G.length := by omega
        rw [hself]
        intro hk
        have := (hv4 b hk).2.2
        have := ((h.own i k).lt b hb).2
        omega
    · obtain rfl : i = G.length := by omega
      rw [hself] at hb
      have k2 : j < G.length := by omega
      rw [hat j k2]
      intro hk
      have := (hv4 b hb).2.2
      have := ((h.own j k2).lt b hk).2
      omega
  · rcases hk with hk | hk | ⟨i, hi, hk⟩
    · exact .inl (.inl hk)
    · rcases hv with h1 | h1
      · exact .inl (.inr (.inl (h1 ▸ hk)))
      · exact .inr (by have := h1 k hk; omega)
    · simp at hi
      rcases Nat.lt_or_ge i G.length with k2 | k2
      · rw [hat i k2] at hk
        exact .inl (.inr (.inr ⟨i, by omega, hk⟩))
      · obtain rfl : i = G.length := by omega
        rw [hself] at hk
        exact .inr (hv4 k hk).2.2
end
end Go.Proofs.Ytggjimeligbmcab
