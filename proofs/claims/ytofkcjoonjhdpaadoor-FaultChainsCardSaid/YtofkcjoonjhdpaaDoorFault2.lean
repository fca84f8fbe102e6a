/-
  fault.Is and fault.Grave, and what is answered where there is no error: contracts. Condition: no more than 1000 faults stand around the number; the library's own variable for the type error holds it.
-/
import Derived.Test.YtofkcjoonjhdpaaDoorFault
namespace Go.Proofs.YtofkcjoonjhdpaaDoor
open Go.RowKit Go.Extern.Stop Go.Stop Go.Extern

theorem As_nil {W : World} (t : Value) :
    Calls Tryd.prog 11 #[.nilIface, t] W fun e w' => e = .returned (.bool false) ∧ W = w' := by
  go_enter Tryd.func11, Tryd.ntmps11
  go_wp2
  go_ret
  exact ⟨rfl, rfl⟩
theorem Is_nil {W : World} (m : Int) :
    Calls Tryd.prog 20 #[.nilIface, .iface 30 (.int .i64 m)] W fun e w' => e = .returned (.bool false) ∧ W = w' := by
  have hn := run_eql_iface_nil_left (P := Tryd.prog) W 30 (.int .i64 m) Tryd.underlying26
  go_enter Tryd.func20, Tryd.ntmps20
  go_wp2
  go_ret
  exact ⟨rfl, rfl⟩

theorem clo_find_nil {W : World} {p0 : Nat} (pe pt po : Nat) (x : Value) (he : W.cell? ⟨pe, 0, none⟩ = some .nilIface) (hp : W.cell? ⟨pt, 0, none⟩ = some (.pointer (some ⟨p0, 0, none⟩))) (ho : W.cell? ⟨po, 0, none⟩ = some x) (hf : W.frozen? ⟨po, 0, none⟩ = false) :
    Calls Tryd.prog 44 #[.pointer (some ⟨pe, 0, none⟩), .pointer (some ⟨pt, 0, none⟩), .pointer (some ⟨po, 0, none⟩)] W fun e w' => e = .returned (.tuple #[]) ∧ w' = W.setCell ⟨po, 0, none⟩ (.bool false) := by
  go_enter Tryd.func44, Tryd.ntmps44
  go_wp2_with (go_at_call 11; refine (As_nil _).mono ?_; rintro e w' ⟨rfl, rfl⟩)
  go_returns
  exact ⟨rfl, rfl⟩

theorem find_nil {W : World} (tb : Nat) :
    Calls Tryd.prog 32 #[.nilIface, .pointer (some ⟨tb, 0, none⟩)] W fun e w' => e = .returned (.bool false) ∧ Below W.heap.size W w' := by
  have hmf : ∀ (fn : Fn) (first cap : Array Value) (w : World), (Instr.makeFunc fn first cap).run Tryd.prog w = .ok (.func fn first cap) w := fun _ _ _ _ => rfl
  go_enter Tryd.func32, Tryd.ntmps32
  go_wp2_with (go_at_call 35; refine (calm_any 44 _ (fun w' => w' = (((W.alloc (.cells #[.nilIface] 26)).alloc (.cells #[.pointer (some ⟨tb, 0, none⟩)] 38)).alloc (.cells #[.bool false] 4)).setCell ⟨W.heap.size + 1 + 1, 0, none⟩ (.bool false)) _ (fun _ => by kernel_rfl) (clo_find_nil (p0 := tb) _ _ _ (.bool false) (up_cell (up_cell (new_cell rfl))) (up_cell (new_cell (by simp))) (new_cell (by simp)) (new_frozen (by simp)))).mono ?_; rintro e w' ⟨rfl, rfl⟩)
  go_returns
  exact ⟨rfl, by go_grown⟩

theorem deep_nil {W : World} :
    Calls Tryd.prog 9 #[.nilIface] W fun e w' => e = .returned (.int .i64 0) ∧ Below W.heap.size W w' := by
  have hin : ∀ W : World, Calls Tryd.prog 16 #[.nilIface] W fun e w' => e = .returned (.tuple #[.pointer none, .int .i64 0]) ∧ Below W.heap.size W w' := by
    intro W
    go_enter Tryd.func16, Tryd.ntmps16
    go_wp2_with (go_at_call 18; refine ends_nil.mono ?_; rintro e w' ⟨rfl, rfl⟩)
    refine wp_loop_rounds 1 ?_
    rw [rounds_succ]
    go_wp2_with (go_at_call 32; refine (find_nil _).mono ?_; rintro e w2 ⟨rfl, hb2⟩)
    go_ret2
    exact ⟨rfl, bthen (balloc (Below.refl _ _) _) hb2⟩
  have HIN := Lib.hid hin
  clear hin
  go_enter Tryd.func9, Tryd.ntmps9
  go_wp2_with (go_at_call 16; refine (HIN.out _).mono ?_; rintro e w2 ⟨rfl, hb2⟩)
  go_ret
  exact ⟨rfl, hb2⟩

end Go.Proofs.YtofkcjoonjhdpaaDoor
