/-
  What package fault asks within calm: the error within, whether two errors are one, whether an error is a number: contracts. No condition but those that each names.
-/
import Derived.Test.YtofkcjoonjhdpaaDoorCalm
import Derived.Test.YtofkcjoonjhdpaaDoorAs2
namespace Go.Proofs.YtofkcjoonjhdpaaDoor
open Go.RowKit Go.Extern.Stop Go.Stop Go.Extern

/-- errors.Unwrap: the error within a fault; none within a number. -/
theorem Unwrap_fault {W : World} (b : Nat) (E : Value) (h : W.cell? ⟨b, 2, none⟩ = some E) :
    Calls Tryd.prog 46 #[.iface 36 (.pointer (some ⟨b, 0, none⟩))] W fun e w' => e = .returned E ∧ W = w' := by
  have uF := Tryd.hasUnwrapF
  go_enter Tryd.func46, Tryd.ntmps46
  go_wp2_with (go_at_call 14; refine (unwrap_any b _ _ h).mono ?_; rintro e w' ⟨rfl, rfl⟩)
  go_ret
  exact ⟨rfl, rfl⟩
theorem Unwrap_num {W : World} (v : Value) :
    Calls Tryd.prog 46 #[.iface 30 v] W fun e w' => e = .returned .nilIface ∧ W = w' := by
  have uE := Tryd.noUnwrapE
  go_enter Tryd.func46, Tryd.ntmps46
  go_wp2
  go_ret
  exact ⟨rfl, rfl⟩

theorem clo_within {W : World} (u : TypeId) (v V : Value) (pe pi : Nat) (x : Value) (he : W.cell? ⟨pe, 0, none⟩ = some (.iface u v)) (hi : W.cell? ⟨pi, 0, none⟩ = some x) (hf : W.frozen? ⟨pi, 0, none⟩ = false)
    (hu : Calls Tryd.prog 46 #[.iface u v] W fun e w' => e = .returned V ∧ W = w') (hV : V = .nilIface ∨ ∃ t x, V = .iface t x) :
    Calls Tryd.prog 45 #[.pointer (some ⟨pe, 0, none⟩), .pointer (some ⟨pi, 0, none⟩)] W fun e w' => e = .returned (.tuple #[]) ∧ w' = W.setCell ⟨pi, 0, none⟩ V := by
  have HU := Lib.hid hu
  clear hu
  rcases hV with rfl | ⟨t, y, rfl⟩ <;>
  · go_enter Tryd.func45, Tryd.ntmps45
    go_wp2_with (go_at_call 46; refine HU.out.mono ?_; rintro e w' ⟨rfl, rfl⟩)
    go_returns
    exact ⟨rfl, rfl⟩

theorem within_of {W : World} (u : TypeId) (v V : Value) (hV : V = .nilIface ∨ ∃ t x, V = .iface t x)
    (hu : ∀ W' : World, Below W.heap.size W W' → Calls Tryd.prog 46 #[.iface u v] W' fun e w' => e = .returned V ∧ W' = w') :
    Calls Tryd.prog 33 #[.iface u v] W fun e w' => e = .returned V ∧ Below W.heap.size W w' := by
  have hmf : ∀ (fn : Fn) (first cap : Array Value) (w : World), (Instr.makeFunc fn first cap).run Tryd.prog w = .ok (.func fn first cap) w := fun _ _ _ _ => rfl
  have HU := Lib.hid hu
  have HV := Lib.hid hV
  clear hu
  rcases hV with rfl | ⟨t, y, rfl⟩ <;>
  · go_enter Tryd.func33, Tryd.ntmps33
    go_wp2_with (go_at_call 35; refine (calm_any 45 _ (fun w' => w' = ((W.alloc (.cells #[.iface u v] 26)).alloc (.cells #[.nilIface] 26)).setCell ⟨W.heap.size + 1, 0, none⟩ _) _ (fun _ => by kernel_rfl) (clo_within u v _ _ _ .nilIface (by simp) (by simp) (by simp) (HU.out _ (by go_grown)) HV.out)).mono ?_; rintro e w' ⟨rfl, rfl⟩)
    go_returns
    exact ⟨rfl, by go_grown⟩
end Go.Proofs.YtofkcjoonjhdpaaDoor
