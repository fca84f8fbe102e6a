/-
  How a row of bytes that is read as data lies in memory. Condition: it is read as data.
-/
import Derived.Test.YtjadapjjilegnaaGreatShut
import Derived.OpenShut
namespace Go.Proofs.YtjadapjjilegnaaGreat
open Go.RowKit Go.ChangeShapes Go.WideShapes Go.Deep

/-- A row of bytes that is read. -/
def NumsAt (W : World) (v : Value) (n : Nat) (z : Nat → Int) : Prop :=
  ∃ p cap, v = .slice p n cap ∧ n ≤ maxLen ∧ (n = 0 ∨ ∃ b off, p = some ⟨b, off, none⟩ ∧ ∀ j, j < n → W.cell? ⟨b, off + j, none⟩ = some (.int .u8 (z j)) ∧ 0 ≤ z j ∧ z j ≤ 255)
theorem open_nums {H : Type} {enc : TypeId × Value → H} {w : World} {base : Nat} {spare : Nat → Bool} {held : Bool} {fuel : Nat} {v : Value} {x : DataW H × List MemPlace} (h : DataW.trod enc Tryz.prog w base spare held fuel 33 [v] = some x) : ∃ n z, NumsAt w v n z := by
  rcases open_ints Tryz.underlying33 Tryz.underlying5 (by kernel_rfl) h with ⟨h0, _⟩ | ⟨a, len, cap, zs, hcs, _, hl, hm, hlen, _, hcell, hwf⟩
  · simp at h0; subst h0
    exact ⟨0, fun _ => 0, none, 0, rfl, Nat.zero_le _, Or.inl rfl⟩
  · simp at hcs; subst hcs
    have hle : len ≤ zs.length := by rw [hlen]; split <;> omega
    refine ⟨len, fun j => zs.getD j 0, _, cap, rfl, by omega, ?_⟩
    rcases Nat.eq_zero_or_pos len with h0 | hpos
    · exact Or.inl h0
    · right
      obtain ⟨b, off, spot⟩ := a
      have hspot : spot = none := by simpa [Addr.add] using World.cell?_spot (hcell 0 (by omega))
      subst hspot
      refine ⟨b, off, rfl, fun j hj => ?_⟩
      have hj' : j < zs.length := by omega
      have h1 := hcell j hj'
      rw [addr_add] at h1
      have h2 := u8_wf (hwf zs[j] (List.getElem_mem hj'))
      have e : zs.getD j 0 = zs[j] := by simp [List.getD, hj']
      rw [← e] at h2
      exact ⟨h1, h2⟩
end Go.Proofs.YtjadapjjilegnaaGreat
