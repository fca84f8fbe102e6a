/-
  A region that draws its order and whose callees make memory but turn none: one walk in the text's order. Nothing here speaks of a program.
-/
import Derived.BigQuiet
import Derived.Below
import Derived.WalkKit
import Derived.Deep.QuietTactic
namespace Go.Proofs.Ytnblkkmandlllaa
open Go.RowKit

/-- A world that is another one with more in it. -/
structure Later (w : World) where
  to : World
  below : Below w.heap.size w to

instance (w : World) : Nonempty (Later w) := ⟨⟨w, ⟨rfl, rfl, rfl, Nat.le_refl _, fun _ _ => rfl⟩⟩⟩

theorem wp_region_later {P : Program} {id : Nat} {Q : Exit → Act → World → Prop} {a : Act} {w : World} {l : List Oper} (hm : P.follows .mixedOrders = true) (hB : Region.lexB .any l.toArray = true)
    (h : wpQuiet P l.toArray (fun w' => ∃ x : Later w, w' = x.to) (fun a' => ∀ w', (∃ x : Later w, w' = x.to) → Q .normal a' w') l a) : (Code.region id l.toArray true).wp P Q a w :=
  wp_region_quiet (C := fun w' => ∃ x : Later w, w' = x.to) hm hB ⟨⟨{ w with drawn := w.drawn + 1 }, ⟨rfl, rfl, rfl, Nat.le_refl _, fun _ _ => rfl⟩⟩, rfl⟩ (by simpa using h)
end Go.Proofs.Ytnblkkmandlllaa
