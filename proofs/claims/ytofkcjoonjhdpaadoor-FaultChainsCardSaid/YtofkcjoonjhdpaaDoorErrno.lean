/-
  What a number is called: a contract. Condition: the number is from 1 to 18.
-/
import Derived.Test.YtofkcjoonjhdpaaDoorErr
import Derived.Deep.WholeRow
namespace Go.Proofs.YtofkcjoonjhdpaaDoor
open Go.RowKit

def nm (n : Int) : List UInt8 :=
  if n = 1 then [97, 114, 103]
  else if n = 2 then [110, 105, 108]
  else if n = 3 then [110, 111, 110, 101]
  else if n = 4 then [116, 104, 101, 114, 101]
  else if n = 5 then [114, 97, 110, 103, 101]
  else if n = 6 then [102, 111, 114, 109]
  else if n = 7 then [115, 105, 122, 101]
  else if n = 8 then [109, 97, 110, 121]
  else if n = 9 then [111, 116, 104, 101, 114]
  else if n = 10 then [102, 117, 108, 108]
  else if n = 11 then [105, 100, 108, 101]
  else if n = 12 then [103, 97, 116, 105, 110, 103]
  else if n = 13 then [97, 108, 101, 114, 116, 101, 100]
  else if n = 14 then [116, 105, 109, 101, 111, 117, 116]
  else if n = 15 then [101, 120, 104, 97, 117, 115, 116, 101, 100]
  else if n = 16 then [99, 121, 99, 108, 101]
  else if n = 17 then [104, 97, 108, 116, 101, 100]
  else if n = 18 then [98, 117, 115, 121]
  else [111, 116, 104, 101, 114]

def nmCells : Array Value := #[.string ⟨#[110, 111, 110, 101]⟩, .string ⟨#[97, 114, 103]⟩, .string ⟨#[110, 105, 108]⟩, .string ⟨#[110, 111, 110, 101]⟩, .string ⟨#[116, 104, 101, 114, 101]⟩, .string ⟨#[114, 97, 110, 103, 101]⟩, .string ⟨#[102, 111, 114, 109]⟩, .string ⟨#[115, 105, 122, 101]⟩, .string ⟨#[109, 97, 110, 121]⟩, .string ⟨#[111, 116, 104, 101, 114]⟩, .string ⟨#[102, 117, 108, 108]⟩, .string ⟨#[105, 100, 108, 101]⟩, .string ⟨#[103, 97, 116, 105, 110, 103]⟩, .string ⟨#[97, 108, 101, 114, 116, 101, 100]⟩, .string ⟨#[116, 105, 109, 101, 111, 117, 116]⟩, .string ⟨#[101, 120, 104, 97, 117, 115, 116, 101, 100]⟩, .string ⟨#[99, 121, 99, 108, 101]⟩, .string ⟨#[104, 97, 108, 116, 101, 100]⟩, .string ⟨#[98, 117, 115, 121]⟩]
theorem nm_cell (k : Nat) (h1 : 1 ≤ k) (h2 : k ≤ 18) : nmCells[k]? = some (.string ⟨(nm k).toArray⟩) := by
  have hk : k = 1 ∨ k = 2 ∨ k = 3 ∨ k = 4 ∨ k = 5 ∨ k = 6 ∨ k = 7 ∨ k = 8 ∨ k = 9 ∨ k = 10 ∨ k = 11 ∨ k = 12 ∨ k = 13 ∨ k = 14 ∨ k = 15 ∨ k = 16 ∨ k = 17 ∨ k = 18 := by omega
  rcases hk with rfl | rfl | rfl | rfl | rfl | rfl | rfl | rfl | rfl | rfl | rfl | rfl | rfl | rfl | rfl | rfl | rfl | rfl <;> rfl
def nmZeros : Array Value := #[.string ⟨#[]⟩, .string ⟨#[]⟩, .string ⟨#[]⟩, .string ⟨#[]⟩, .string ⟨#[]⟩, .string ⟨#[]⟩, .string ⟨#[]⟩, .string ⟨#[]⟩, .string ⟨#[]⟩, .string ⟨#[]⟩, .string ⟨#[]⟩, .string ⟨#[]⟩, .string ⟨#[]⟩, .string ⟨#[]⟩, .string ⟨#[]⟩, .string ⟨#[]⟩, .string ⟨#[]⟩, .string ⟨#[]⟩, .string ⟨#[]⟩]
theorem nm_one : nmCells.all (·.oneCell') = true := by decide +kernel
def nmWorld (W : World) : World := (W.alloc (.cells nmZeros 128)).setRow W.heap.size nmCells
theorem nmWorld_cell (W : World) (k : Nat) (h1 : 1 ≤ k) (h2 : k ≤ 18) : (nmWorld W).cell? ⟨W.heap.size, k, none⟩ = some (.string ⟨(nm k).toArray⟩) := by
  rw [← nm_cell k h1 h2, nmWorld, World.setRow_alloc_new, World.cell?_alloc_at _ _ _ _ rfl]
theorem nmWorld_below (W : World) : Below W.heap.size W (nmWorld W) := by
  rw [nmWorld, World.setRow_alloc_new]
  exact balloc (Below.refl _ _) _
set_option maxRecDepth 100000 in
set_option maxHeartbeats 1000000 in
theorem errno_text {W : World} (n : Int) (h1 : 1 ≤ n) (h2 : n ≤ 18) :
    Calls Tryd.prog 79 #[.int .i64 n] W fun e w' => e = .returned (.string ⟨(nm n).toArray⟩) ∧ Below W.heap.size W w' := by
  obtain ⟨k, rfl⟩ : ∃ k : Nat, n = k := ⟨n.toNat, by omega⟩
  have hc := nmWorld_cell W k (by omega) (by omega)
  have hb := Lib.hid (nmWorld_below W)
  go_enter Tryd.func79, Tryd.ntmps79
  go_wp2_with (refine wpList_store_row rfl 128 (.tmp 3) (.tmp 4) rfl W.heap.size nmCells rfl rfl 128 nmZeros (heap_at _ _ _ rfl) (by as_aux_lemma => kernel_rfl) rfl nm_one ?_; change wpList _ _ _ _ _ (nmWorld W))
  go_ret
  exact ⟨rfl, hb.out⟩
end Go.Proofs.YtofkcjoonjhdpaaDoor
