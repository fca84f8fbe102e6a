/-
  Rows and blocks that stand beside an arena, and aren't the rest's: what is known of them as long as they don't turn. No condition.
-/
import Derived.Test.YtjadapjjilegnaaAv2
namespace Go.Proofs.Ytjadapjjilegnaa
open Go.RowKit
set_option linter.unusedVariables false

/-- A row that isn't the rest's. -/
def Rest.row (R : Rest) (B : Nat) (T : TypeId) (z : Nat) (v : Value) (n : Nat) (xs : List Value) : Rest :=
  ⟨fun k => R.prot k ∨ v.ownBlock = some k, fun w => R.inv w ∧ w.ownsRow B T z v n xs ∧ ∀ k, R.prot k → v.ownBlock ≠ some k, fun w w' h hk => by
    refine ⟨R.ok _ _ h.1 fun k h => hk k (.inl h), ?_, h.2.2⟩
    obtain ⟨h1, h2⟩ := h.2.1
    refine ⟨h1, ?_⟩
    rcases h2 with h2 | ⟨g, cap, cur, rfl, hg, hh, r⟩
    · exact .inl h2
    · exact .inr ⟨g, cap, cur, rfl, hg, (hk g (.inr (by simp [Value.ownBlock]))).trans hh, r⟩⟩
/-- One block more that is known whole, and isn't the rest's. -/
def Rest.box (R : Rest) (B p : Nat) (cs : Array Value) (U : TypeId) : Rest :=
  ⟨fun k => R.prot k ∨ k = p, fun w => R.inv w ∧ w.heap[p]? = some (.cells cs U (0, 0)) ∧ ¬ R.prot p ∧ B ≤ p, fun w w' h hk => ⟨R.ok _ _ h.1 fun k h => hk k (.inl h), (hk p (.inr rfl)).trans h.2.1, h.2.2⟩⟩
end Go.Proofs.Ytjadapjjilegnaa
