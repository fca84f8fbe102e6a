/-
  A room that is none; a room without a ring: what is refused, by contract. No condition but those that each theorem names.
  A room that is none: what its rings are; kinds and rings that are none. No condition but those that each theorem names.
-/
import Derived.Test.YtdfcfdcekdmcmaaGreatPk20
set_option linter.unusedVariables false
set_option linter.unusedSimpArgs false
set_option linter.unusedSimpArgs false
namespace Go.Proofs.YtdfcfdcekdmcmaaGreat
open Go.RowKit
set_option linter.unusedVariables false
def NewE (W w : World) (q : Nat) (n : Int) : Prop := Chain w (Flt q) 1 n ∧ Below W.heap.size W w
end Go.Proofs.YtdfcfdcekdmcmaaGreat
namespace Go.Proofs.YtdfcfdcekdmcmaaGreat
open Go.RowKit
set_option linter.unusedVariables false
theorem rfld0 (x y z u : Value) (w : World) : (Instr.field 149 (.agg #[x, y, z, u]) 0).run Tryz.prog w = .ok x w := by kernel_rfl
theorem rfld2 (x y z u : Value) (w : World) : (Instr.field 149 (.agg #[x, y, z, u]) 2).run Tryz.prog w = .ok z w := by kernel_rfl
end Go.Proofs.YtdfcfdcekdmcmaaGreat
