/-
  What is answered where there is no error, and by a fault that is none: contracts. No condition.
-/
import Derived.Test.YtofkcjoonjhdpaaDoorLaw2
namespace Go.Proofs.YtofkcjoonjhdpaaDoor
open Go.RowKit Go.Extern.Stop Go.Stop Go.Extern

theorem wrap_nil {W : World} (op : ByteArray) (seq : Int) :
    Calls Tryd.prog 15 #[.string op, .int .i64 seq, .nilIface] W fun e w' => e = .returned .nilIface ∧ W = w' := by
  go_enter Tryd.func15, Tryd.ntmps15
  go_wp2
  go_ret
  exact ⟨rfl, rfl⟩
theorem unwrap_none {W : World} :
    Calls Tryd.prog 14 #[.pointer none] W fun e w' => e = .returned .nilIface ∧ W = w' := by
  go_enter Tryd.func14, Tryd.ntmps14
  go_wp2
  go_ret
  exact ⟨rfl, rfl⟩
theorem error_none {W : World} :
    Calls Tryd.prog 12 #[.pointer none] W fun e w' => e = .returned (.string ⟨#[110, 105, 108]⟩) ∧ Below W.heap.size W w' := by
  go_enter Tryd.func12, Tryd.ntmps12
  go_wp2
  go_ret
  exact ⟨rfl, by go_grown⟩
end Go.Proofs.YtofkcjoonjhdpaaDoor
