/-
  How rows of 64-bit integers that are read as data lie in memory. Condition: they are read as data.
-/
import Derived.Test.YtndmhnakfhofpaaRoj1
import Derived.Deep.Matrix
import Derived.OpenShut
namespace Go.Proofs.Ytndmhnakfhofpaa
open Go.RowKit Go.ChangeShapes Go.WideShapes Go.Deep

theorem open_rows {H : Type} {enc : TypeId × Value → H} {w : World} {base : Nat} {held : Bool} {fuel : Nat} {v : Value} {x : DataW H × List MemPlace} (h : DataW.trod enc Try.prog w base (fun _ => true) held fuel 45 [v] = some x) : ∃ n z, RowsAt w v n z := by
  rcases open_int_rows Try.underlying45 Try.underlying46 Try.underlying2 (by kernel_rfl) (by kernel_rfl) h with ⟨h0, _⟩ | ⟨a, len, cap, A, L, C, Z, hcs, _, hl, hm, _, hr⟩
  · simp at h0; subst h0
    exact ⟨0, fun _ => (.slice none 0 0, 0, fun _ => 0), none, 0, rfl, Nat.zero_le _, Or.inl rfl⟩
  · simp at hcs; subst hcs
    refine ⟨len, fun r => (.slice (A r) (L r) (C r), L r, fun j => (Z r).getD j 0), _, cap, rfl, by omega, ?_⟩
    rcases Nat.eq_zero_or_pos len with h0 | hpos
    · exact Or.inl h0
    · right
      obtain ⟨b, off, spot⟩ := a
      have hspot : spot = none := by simpa [Addr.add] using World.cell?_spot (hr 0 (by omega)).1
      subst hspot
      refine ⟨b, off, rfl, fun j hj => ?_⟩
      obtain ⟨h1, h2, h3, h4, h5, h6, h7⟩ := hr j (by omega)
      rw [addr_add] at h1
      refine ⟨h1, _, _, rfl, Nat.le_trans h2 h3, ?_⟩
      rcases Nat.eq_zero_or_pos (L j) with e0 | epos
      · exact Or.inl e0
      · right
        cases hA : A j with
        | none => have := h6 hA; omega
        | some a' =>
          obtain ⟨_, hcell⟩ := h7 a' hA
          obtain ⟨b', off', spot'⟩ := a'
          have hspot' : spot' = none := by simpa [Addr.add] using World.cell?_spot (hcell 0 (by omega))
          subst hspot'
          refine ⟨b', off', rfl, fun i (hi : i < L j) => ?_⟩
          have k1 := hcell i (by omega)
          rw [addr_add] at k1
          have hi' : i < (Z j).length := by omega
          have k2 := i64_wf (h5 (Z j)[i] (List.getElem_mem hi'))
          have e : (Z j).getD i 0 = (Z j)[i] := by simp [List.getD, hi']
          rw [← e] at k2
          exact ⟨k1, k2⟩
end Go.Proofs.Ytndmhnakfhofpaa
