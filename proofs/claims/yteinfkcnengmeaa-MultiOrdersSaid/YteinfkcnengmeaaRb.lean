/-
  How a row of bytes, of truths, that is read as data lies in memory. Condition: it is read as data.
-/
import Derived.Test.YteinfkcnengmeaaShut
import Derived.Test.YteinfkcnengmeaaPost
import Derived.OpenShut
namespace Go.Proofs.Yteinfkcnengmeaa
open Go.RowKit Go.ChangeShapes Go.WideShapes Go.Deep

/-- A row of bytes that is read. -/
def BysAt (W : World) (v : Value) (n : Nat) (z : Nat → Int) : Prop :=
  ∃ p cap, v = .slice p n cap ∧ n ≤ maxLen ∧ (n = 0 ∨ ∃ b off, p = some ⟨b, off, none⟩ ∧ ∀ j, j < n → W.cell? ⟨b, off + j, none⟩ = some (.int .u8 (z j)) ∧ 0 ≤ z j ∧ z j ≤ 255)
theorem open_bys {H : Type} {enc : TypeId × Value → H} {w : World} {base : Nat} {spare : Nat → Bool} {held : Bool} {fuel : Nat} {v : Value} {x : DataW H × List MemPlace} (h : DataW.trod enc Try.prog w base spare held fuel 64 [v] = some x) : ∃ n z, BysAt w v n z := by
  rcases open_ints Try.underlying64 Try.underlying5 (by kernel_rfl) h with ⟨h0, _⟩ | ⟨a, len, cap, zs, hcs, _, hl, hm, hlen, _, hcell, hwf⟩
  · simp at h0; subst h0
    exact ⟨0, fun _ => 0, none, 0, rfl, Nat.zero_le _, Or.inl rfl⟩
  · simp at hcs; subst hcs
    have hle : len ≤ zs.length := by rw [hlen]; split <;> omega
    refine ⟨len, fun j => zs.getD j 0, _, cap, rfl, by omega, ?_⟩
    rcases Nat.eq_zero_or_pos len with h0 | hpos
    · exact Or.inl h0
    · right
      obtain ⟨b, off, spot⟩ := a
      have hspot : spot = none := by simpa [Addr.add] using World.cell?_spot (hcell 0 (by omega))
      subst hspot
      refine ⟨b, off, rfl, fun j hj => ?_⟩
      have hj' : j < zs.length := by omega
      have h1 := hcell j hj'
      rw [addr_add] at h1
      have h2 := u8_wf (hwf zs[j] (List.getElem_mem hj'))
      have e : zs.getD j 0 = zs[j] := by simp [List.getD, hj']
      rw [← e] at h2
      exact ⟨h1, h2⟩
/-- A row of truths. -/
def BolsAt (w : World) (v : Value) (n : Nat) (z : Nat → Bool) : Prop :=
  ∃ p cap, v = .slice p n cap ∧ n ≤ maxLen ∧ (n = 0 ∨ ∃ b off, p = some ⟨b, off, none⟩ ∧ ∀ j, j < n → w.cell? ⟨b, off + j, none⟩ = some (.bool (z j)))
theorem open_bols {H : Type} {enc : TypeId × Value → H} {w : World} {base : Nat} {spare : Nat → Bool} {held : Bool} {fuel : Nat} {v : Value} {x : DataW H × List MemPlace} (h : DataW.trod enc Try.prog w base spare held fuel 105 [v] = some x) :
    ∃ (n : Nat) (z : Nat → Bool), BolsAt w v n z := by
  rcases open_slice Try.underlying105 h with ⟨h0, _⟩ | ⟨a, len, cap, m, n, D, Pl, hcs, _, hl, hm, hmm, _, hi⟩
  · simp at h0; subst h0
    exact ⟨0, fun _ => false, none, 0, rfl, Nat.zero_le _, Or.inl rfl⟩
  · simp at hcs; subst hcs
    have hlm : len ≤ m := by rw [hmm]; split <;> omega
    have hC : Try.prog.cellsOf 4 = 1 := by kernel_rfl
    have each : ∀ i, i < len → ∃ y : Bool, w.cell? (a.add i) = some (.bool y) := by
      intro i hlt
      obtain ⟨cs', hc, ht⟩ := hi i (by omega)
      rw [hC] at hc
      obtain ⟨q0, hq0, _⟩ := DataW.trod_bool Try.underlying4 ht
      obtain ⟨_, _, hat⟩ := World.cells?_some hc
      have a0 := hat 0 (by decide)
      subst hq0
      exact ⟨q0, by simpa [Addr.add] using a0⟩
    have each2 : ∃ g : Nat → Bool, ∀ i, i < len → w.cell? (a.add i) = some (.bool (g i)) := by
      refine ⟨fun i => if h : i < len then (each i h).choose else false, fun i hi => ?_⟩
      simp only [dif_pos hi]
      exact (each i hi).choose_spec
    obtain ⟨g, hg⟩ := each2
    refine ⟨len, g, _, cap, rfl, by omega, ?_⟩
    rcases Nat.eq_zero_or_pos len with rfl | hpos
    · exact Or.inl rfl
    · obtain ⟨b, off, spot⟩ := a
      have hspot : spot = none := by simpa [Addr.add] using World.cell?_spot (hg 0 hpos)
      subst hspot
      refine Or.inr ⟨b, off, rfl, fun j hj => ?_⟩
      have h1 := hg j hj
      rw [addr_add] at h1
      exact h1
end Go.Proofs.Yteinfkcnengmeaa
