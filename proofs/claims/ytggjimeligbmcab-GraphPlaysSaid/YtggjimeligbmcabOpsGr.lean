/-
  How a list of things done with a graph lies in memory where it is read as data: three numbers and a row of numbers each. Condition: it is read as data.
-/
import Derived.Test.YtggjimeligbmcabShut
import Derived.Test.YtggjimeligbmcabGr17
import Derived.OpenShut
namespace Go.Proofs.Ytggjimeligbmcab
open Go.RowKit Go.ChangeShapes Go.WideShapes Go.Deep

theorem some_of4 {α : Type} : ∀ {l : List α}, l.length = 4 → ∃ a0 a1 a2 a3, l = [a0, a1, a2, a3]
  | [a0, a1, a2, a3], _ => ⟨a0, a1, a2, a3, rfl⟩
section
variable {H : Type} {enc : TypeId × Value → H} {w : World} {base : Nat} {spare : Nat → Bool} {held : Bool}
theorem open_rowN {fuel : Nat} {v : Value} {x : DataW H × List MemPlace} (h : DataW.trod enc Try.prog w base spare held fuel 31 [v] = some x) : ∃ l : List Int, IntsAt w v l ∧ l.length ≤ maxLen ∧ CapOk v l := by
  rcases open_ints Try.underlying31 Try.underlying3 (by kernel_rfl) h with ⟨h0, _⟩ | ⟨a, len, cap, zs, hcs, _, hl, hm, hlen, _, hcell, hwf⟩
  · simp at h0; subst h0
    exact ⟨[], ⟨none, 0, rfl, .inl rfl⟩, by simp, none, 0, rfl, Nat.le_refl _⟩
  · simp at hcs; subst hcs
    have hle : len ≤ zs.length := by rw [hlen]; split <;> omega
    have hlt : (zs.take len).length = len := by simp; omega
    refine ⟨zs.take len, ⟨some a, cap, by rw [hlt], ?_⟩, by rw [hlt]; omega, some a, cap, by rw [hlt], by rw [hlt]; omega⟩
    rw [hlt]
    rcases Nat.eq_zero_or_pos len with h0 | hpos
    · exact Or.inl h0
    · right
      obtain ⟨b, off, spot⟩ := a
      have hspot : spot = none := by simpa [Addr.add] using World.cell?_spot (hcell 0 (by omega))
      subst hspot
      refine ⟨b, off, rfl, fun j hj => ?_⟩
      have hj' : j < zs.length := by omega
      have h1 := hcell j hj'
      rw [addr_add] at h1
      rw [h1]
      congr 2
      simp [hj, hj']
theorem open_opsG {fuel : Nat} {v : Value} {x : DataW H × List MemPlace} (h : DataW.trod enc Try.prog w base spare held fuel 22 [v] = some x) :
    ∃ (n : Nat) (z : Nat → OpD), OpsG w v n z := by
  rcases open_slice Try.underlying22 h with ⟨h0, _⟩ | ⟨a, len, cap, m, n, D, Pl, hcs, _, hl, hm, hmm, _, hi⟩
  · simp at h0; subst h0
    exact ⟨0, fun _ => ⟨0, 0, 0, []⟩, none, 0, rfl, Nat.zero_le _, Or.inl rfl⟩
  · simp at hcs; subst hcs
    have hlm : len ≤ m := by rw [hmm]; split <;> omega
    have hC : Try.prog.cellsOf 33 = 4 := by kernel_rfl
    have each : ∀ i, i < len → ∃ y : OpD, w.cell? (a.add (i * 4 + 0)) = some (.int .i64 y.k) ∧ w.cell? (a.add (i * 4 + 1)) = some (.int .i64 y.a) ∧ w.cell? (a.add (i * 4 + 2)) = some (.int .i64 y.b) ∧ ∃ vl, w.cell? (a.add (i * 4 + 3)) = some vl ∧ IntsAt w vl y.l ∧ y.l.length ≤ maxLen ∧ CapOk vl y.l := by
      intro i hlt
      obtain ⟨cs', hc, ht⟩ := hi i (by omega)
      rw [hC] at hc
      obtain ⟨ys, n', hn', hy, hlen, hyl, hf⟩ := DataW.trod_struct Try.underlying33 ht
      obtain ⟨_, _, hat⟩ := World.cells?_some hc
      rw [hC] at hlen
      have hy4 : ys.length = 4 := hyl
      obtain ⟨c0, c1, c2, c3, rfl⟩ := some_of4 hlen
      obtain ⟨y0, y1, y2, y3, rfl⟩ := some_of4 hy4
      have f0 := hf 0 _ rfl
      have f1 := hf 1 _ rfl
      have f2 := hf 2 _ rfl
      have f3 := hf 3 _ rfl
      simp only [List.getElem_toArray, List.getElem_cons_zero, List.getElem_cons_succ] at f0 f1 f2 f3
      rw [show Try.prog.cellsOf 3 = 1 by kernel_rfl] at f0 f1 f2
      rw [show Try.prog.cellsOf 31 = 1 by kernel_rfl] at f3
      simp only [List.drop_zero, List.drop_succ_cons, List.take_succ_cons, List.take_zero, List.getElem?_cons_zero, List.getElem?_cons_succ] at f0 f1 f2 f3
      obtain ⟨q0, hq0, _, _⟩ := DataW.trod_int Try.underlying3 f0
      obtain ⟨q1, hq1, _, _⟩ := DataW.trod_int Try.underlying3 f1
      obtain ⟨q2, hq2, _, _⟩ := DataW.trod_int Try.underlying3 f2
      obtain ⟨l3, hl3, hm3⟩ := open_rowN f3
      have a0 := hat 0 (by decide)
      have a1 := hat 1 (by decide)
      have a2 := hat 2 (by decide)
      have a3 := hat 3 (by decide)
      simp at hq0 a0 hq1 a1 hq2 a2 a3
      subst hq0
      subst hq1
      subst hq2
      rw [add_add] at a1 a2 a3
      exact ⟨⟨q0, q1, q2, l3⟩, a0, a1, a2, c3, a3, hl3, hm3⟩
    have each2 : ∃ g : Nat → OpD, ∀ i, i < len → w.cell? (a.add (i * 4 + 0)) = some (.int .i64 (g i).k) ∧ w.cell? (a.add (i * 4 + 1)) = some (.int .i64 (g i).a) ∧ w.cell? (a.add (i * 4 + 2)) = some (.int .i64 (g i).b) ∧ ∃ vl, w.cell? (a.add (i * 4 + 3)) = some vl ∧ IntsAt w vl (g i).l ∧ (g i).l.length ≤ maxLen ∧ CapOk vl (g i).l := by
      refine ⟨fun i => if h : i < len then (each i h).choose else ⟨0, 0, 0, []⟩, fun i hi => ?_⟩
      simp only [dif_pos hi]
      exact (each i hi).choose_spec
    obtain ⟨g, hg⟩ := each2
    refine ⟨len, g, _, cap, rfl, by omega, ?_⟩
    rcases Nat.eq_zero_or_pos len with rfl | hpos
    · exact Or.inl rfl
    · obtain ⟨b, off, spot⟩ := a
      have hspot : spot = none := by simpa [Addr.add] using World.cell?_spot (hg 0 hpos).1
      subst hspot
      refine Or.inr ⟨b, off, rfl, fun j hj => ?_⟩
      obtain ⟨h1, h2, h3, vl, h4, h5⟩ := hg j hj
      rw [addr_add] at h1 h2 h3 h4
      exact ⟨by simpa using h1, by rw [Nat.add_assoc]; exact h2, by rw [Nat.add_assoc]; exact h3, vl, by rw [Nat.add_assoc]; exact h4, h5⟩
end
end Go.Proofs.Ytggjimeligbmcab
