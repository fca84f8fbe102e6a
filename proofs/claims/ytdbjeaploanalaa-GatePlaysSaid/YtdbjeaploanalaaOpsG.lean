/-
  How a list of things to be done lies in memory where it is read as data: a bool and a number each; how a row of numbers lies. Condition: it is read as data.
-/
import Derived.Test.YtdbjeaploanalaaLongs
import Derived.Test.YtdbjeaploanalaaGateRef2
namespace Go.Proofs.Ytdbjeaploanalaa
open Go.RowKit Go.ChangeShapes Go.WideShapes Go.Deep

theorem some_ofG {α : Type} : ∀ {l : List α}, l.length = 2 → ∃ a0 a1, l = [a0, a1]
  | [a0, a1], _ => ⟨a0, a1, rfl⟩
/-- A slice of n things, a bool and a number each. -/
def BoolsAt (w : World) (v : Value) (n : Nat) (z : Nat → Bool × Int) : Prop :=
  ∃ p cap, v = .slice p n cap ∧ n ≤ maxLen ∧ (n = 0 ∨ ∃ b off, p = some ⟨b, off, none⟩ ∧ ∀ j, j < n → w.cell? ⟨b, off + j * 2, none⟩ = some (.bool (z j).1) ∧ w.cell? ⟨b, off + j * 2 + 1, none⟩ = some (.int .i64 (z j).2))
section
variable {H : Type} {enc : TypeId × Value → H} {w : World} {base : Nat} {spare : Nat → Bool} {held : Bool}
theorem open_boolsG {fuel : Nat} {v : Value} {x : DataW H × List MemPlace} (h : DataW.trod enc Try.prog w base spare held fuel 64 [v] = some x) :
    ∃ (n : Nat) (z : Nat → Bool × Int), BoolsAt w v n z := by
  rcases open_slice Try.underlying64 h with ⟨h0, _⟩ | ⟨a, len, cap, m, n, D, Pl, hcs, _, hl, hm, hmm, _, hi⟩
  · simp at h0; subst h0
    exact ⟨0, fun _ => (false, 0), none, 0, rfl, Nat.zero_le _, Or.inl rfl⟩
  · simp at hcs; subst hcs
    have hlm : len ≤ m := by rw [hmm]; split <;> omega
    have hC : Try.prog.cellsOf 70 = 2 := by kernel_rfl
    have each : ∀ i, i < len → ∃ y : Bool × Int, w.cell? (a.add (i * 2 + 0)) = some (.bool y.1) ∧ w.cell? (a.add (i * 2 + 1)) = some (.int .i64 y.2) := by
      intro i hlt
      obtain ⟨cs', hc, ht⟩ := hi i (by omega)
      rw [hC] at hc
      obtain ⟨ys, n', hn', hy, hlen, hyl, hf⟩ := DataW.trod_struct Try.underlying70 ht
      obtain ⟨_, _, hat⟩ := World.cells?_some hc
      rw [hC] at hlen
      have hy2 : ys.length = 2 := hyl
      obtain ⟨c0, c1, rfl⟩ := some_ofG hlen
      obtain ⟨y0, y1, rfl⟩ := some_ofG hy2
      have f0 := hf 0 _ rfl
      have f1 := hf 1 _ rfl
      simp only [List.getElem_toArray, List.getElem_cons_zero, List.getElem_cons_succ] at f0 f1
      rw [show Try.prog.cellsOf 4 = 1 by kernel_rfl] at f0
      rw [show Try.prog.cellsOf 3 = 1 by kernel_rfl] at f1
      simp only [List.drop_zero, List.drop_succ_cons, List.take_succ_cons, List.take_zero, List.getElem?_cons_zero, List.getElem?_cons_succ] at f0 f1
      obtain ⟨q0, hq0, _⟩ := DataW.trod_bool Try.underlying4 f0
      obtain ⟨q1, hq1, _, hwf1⟩ := DataW.trod_int Try.underlying3 f1
      have a0 := hat 0 (by decide)
      have a1 := hat 1 (by decide)
      simp at hq0 a0 hq1 a1
      subst hq0
      subst hq1
      rw [add_add] at a1
      exact ⟨(q0, q1), a0, a1⟩
    have each2 : ∃ g : Nat → Bool × Int, ∀ i, i < len → w.cell? (a.add (i * 2 + 0)) = some (.bool (g i).1) ∧ w.cell? (a.add (i * 2 + 1)) = some (.int .i64 (g i).2) := by
      refine ⟨fun i => if h : i < len then (each i h).choose else (false, 0), fun i hi => ?_⟩
      simp only [dif_pos hi]
      exact (each i hi).choose_spec
    obtain ⟨g, hg⟩ := each2
    refine ⟨len, g, _, cap, rfl, by omega, ?_⟩
    rcases Nat.eq_zero_or_pos len with rfl | hpos
    · exact Or.inl rfl
    · obtain ⟨b, off, spot⟩ := a
      have hspot : spot = none := by simpa [Addr.add] using World.cell?_spot (hg 0 hpos).1
      subst hspot
      refine Or.inr ⟨b, off, rfl, fun j hj => ?_⟩
      obtain ⟨h1, h2⟩ := hg j hj
      rw [addr_add] at h1 h2
      exact ⟨by simpa using h1, by rw [Nat.add_assoc]; exact h2⟩
theorem open_longsG {fuel : Nat} {v : Value} {x : DataW H × List MemPlace} (h : DataW.trod enc Try.prog w base spare held fuel 65 [v] = some x) : ∃ n z, LongsAt w v n z := by
  rcases open_ints Try.underlying65 Try.underlying3 (by kernel_rfl) h with ⟨h0, _⟩ | ⟨a, len, cap, zs, hcs, _, hl, hm, hlen, _, hcell, hwf⟩
  · simp at h0; subst h0
    exact ⟨0, fun _ => 0, none, 0, rfl, Nat.zero_le _, Or.inl rfl⟩
  · simp at hcs; subst hcs
    have hle : len ≤ zs.length := by rw [hlen]; split <;> omega
    refine ⟨len, fun j => zs.getD j 0, _, cap, rfl, by omega, ?_⟩
    rcases Nat.eq_zero_or_pos len with h0 | hpos
    · exact Or.inl h0
    · right
      obtain ⟨b, off, spot⟩ := a
      have hspot : spot = none := by simpa [Addr.add] using World.cell?_spot (hcell 0 (by omega))
      subst hspot
      refine ⟨b, off, rfl, fun j hj => ?_⟩
      have hj' : j < zs.length := by omega
      have h1 := hcell j hj'
      rw [addr_add] at h1
      have h2 := i64_wf (hwf zs[j] (List.getElem_mem hj'))
      have e : zs.getD j 0 = zs[j] := by simp [List.getD, hj']
      rw [← e] at h2
      exact ⟨h1, h2⟩
end
theorem longs_intsG {W : World} {v : Value} {n : Nat} {z : Nat → Int} (h : LongsAt W v n z) : IntsAt W v ((List.range n).map z) := by
  obtain ⟨p, cap, rfl, hm, h⟩ := h
  refine ⟨p, cap, by simp, ?_⟩
  rcases h with h | ⟨b, off, rfl, hc⟩
  · exact .inl (by simpa using h)
  · refine .inr ⟨b, off, rfl, fun j hj => ?_⟩
    have hj' : j < n := by simpa using hj
    rw [(hc j hj').1]
    simp [hj']
end Go.Proofs.Ytdbjeaploanalaa
