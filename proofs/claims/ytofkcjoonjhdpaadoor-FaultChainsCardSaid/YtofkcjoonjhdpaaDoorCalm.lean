/-
  fault.calm: what is asked within it, and doesn't panic, is done just so. Condition: what is asked returns nothing, and doesn't panic.
-/
import Derived.Test.YtofkcjoonjhdpaaDoorErr
import Derived.Defers
import Derived.Recover
namespace Go.Proofs.YtofkcjoonjhdpaaDoor
open Go.RowKit

theorem calm_idle (w : World) :
    CallsD Tryd.prog 48 #[] .returning w fun e u' w' => e = .returned (.tuple #[]) ∧ u' = .returning ∧ w' = w := by
  refine callsD_of_wpS Tryd.func48 rfl fun c₀ cs hu => ?_
  apply wpS_region
  simp [wpOpsS, go_sem, recoverD, hu, Tryd.ntmps48]
  cases c₀
  simp_all [bodyPostS, results, Tryd.results48]

theorem calm_any (f : FuncId) (cap : Array Value) (S : World → Prop) (w : World) (he : ∀ w, (callFunc f cap).run Tryd.prog w = .ok (.enter f cap) w) (h : Calls Tryd.prog f cap w fun e w' => e = .returned (.tuple #[]) ∧ S w') :
    Calls Tryd.prog 35 #[.func (.func f) #[] cap] w fun e w' => e = .returned (.tuple #[]) ∧ S w' := by
  have H := Lib.hid h
  clear h
  go_enter_defers Tryd.func35, Tryd.ntmps35
  go_wp2_with fail
  refine H.out.mono ?_
  rintro e w' ⟨rfl, hs⟩
  go_wp2_with fail
  refine leaves_cons (f := 48) (args := #[]) (by simp) (by simp [go_sem]) ?_
  refine (calm_idle _).mono ?_
  rintro e u' w'' ⟨rfl, rfl, rfl⟩
  simp [Leaves, settle, results, Tryd.results35, go_sem]
  exact hs
end Go.Proofs.YtofkcjoonjhdpaaDoor
