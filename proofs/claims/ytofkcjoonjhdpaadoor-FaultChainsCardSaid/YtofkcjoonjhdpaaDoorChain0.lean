/-
  Whether an error is a number, and a number's name by the document's answer: contracts. Condition: as each names.
-/
import Derived.Test.YtofkcjoonjhdpaaDoorKinds0
import Derived.OwnWalk
namespace Go.Proofs.YtofkcjoonjhdpaaDoor
open Go.RowKit Go.Extern.Stop Go.Stop Go.Extern

theorem lis_chain {W : World} (E : Value) (d : Nat) (n m : Int) (hc : Chain W E d n) (hm : m ≠ 0) :
    Calls Tryd.prog 10 #[E, .int .i64 m] W fun e w' => e = .returned (.bool (n == m)) ∧ W = w' := by
  have HC := Lib.hid hc
  obtain ⟨u, v, rfl⟩ := hc.iface
  clear hc
  go_enter Tryd.func10, Tryd.ntmps10
  go_wp2_with (go_at_call 20; refine (Is_chain m _ d n HC.out).mono ?_; rintro e w' ⟨rfl, rfl⟩)
  go_ret
  exact ⟨rfl, rfl⟩
theorem lis_zero {W : World} (u : TypeId) (v : Value) :
    Calls Tryd.prog 10 #[.iface u v, .int .i64 0] W fun e w' => e = .returned (.bool false) ∧ W = w' := by
  go_enter Tryd.func10, Tryd.ntmps10
  go_wp2
  go_ret
  exact ⟨rfl, rfl⟩

theorem nmNew_cell (W : World) (k : Nat) (h1 : 1 ≤ k) (h2 : k ≤ 18) : (W.alloc (.cells nmCells 9)).cell? ⟨W.heap.size, k, none⟩ = some (.string ⟨(nm k).toArray⟩) := by
  rw [← nm_cell k h1 h2, World.cell?_alloc_at _ _ _ _ rfl]
set_option maxRecDepth 100000 in
set_option maxHeartbeats 1000000 in
theorem ref_name {W : World} (n : Int) (h1 : 1 ≤ n) (h2 : n ≤ 18) :
    Calls Tryd.prog 31 #[.int .i64 n] W fun e w' => e = .returned (.string ⟨(nm n).toArray⟩) ∧ Below W.heap.size W w' := by
  obtain ⟨k, rfl⟩ : ∃ k : Nat, n = k := ⟨n.toNat, by omega⟩
  have hc := nmNew_cell W k (by omega) (by omega)
  simp only [nmCells] at hc
  go_enter Tryd.func31, Tryd.ntmps31
  go_wp2
  go_ret
  exact ⟨rfl, balloc (Below.refl _ _) _⟩
end Go.Proofs.YtofkcjoonjhdpaaDoor
