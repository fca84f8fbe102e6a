/-
  The least of some numbers; slices.Min at []int64 by contract. Condition: the slice isn't empty.
-/
import Derived.Test.YtjadapjjilegnaaGq
import Derived.LoopTactic
namespace Go.Proofs.Ytjadapjjilegnaa
open Go.RowKit

/-- It is among them, and none is less. -/
def IsMin (l : List Int) (m : Int) : Prop := m ∈ l ∧ ∀ x ∈ l, m ≤ x
theorem IsMin.unique {l : List Int} {m n : Int} (h : IsMin l m) (k : IsMin l n) : m = n := by
  have := h.2 n k.1
  have := k.2 m h.1
  omega
theorem IsMin.one (m : Int) : IsMin [m] m := ⟨by simp, fun x hx => by simp at hx; omega⟩
theorem IsMin.snoc {l : List Int} {m : Int} (h : IsMin l m) (x : Int) : IsMin (l ++ [x]) (min m x) := by
  refine ⟨?_, fun y hy => ?_⟩
  · rcases Int.le_total m x with k | k
    · rw [Int.min_eq_left k]; exact List.mem_append_left _ h.1
    · rw [Int.min_eq_right k]; simp
  · rcases List.mem_append.1 hy with hy | hy
    · have := h.2 y hy; omega
    · simp at hy; omega
theorem IsMin.same {l k : List Int} {m : Int} (h : IsMin l m) (hs : ∀ x, x ∈ l ↔ x ∈ k) : IsMin k m := ⟨(hs m).1 h.1, fun x hx => h.2 x ((hs x).2 hx)⟩

theorem take_snoc {zs : List Int} {k : Nat} (hk : k < zs.length) : zs.take (k + 1) = zs.take k ++ [zs.getD k 0] := by
  rw [List.take_add_one, List.getElem?_eq_getElem hk]
  simp [List.getElem?_eq_getElem hk]

set_option maxRecDepth 100000 in
theorem smin_some (b off c : Nat) (zs : List Int) (w : World) (hn : 0 < zs.length) (hbig : zs.length ≤ 9223372036854775807) (hc : ∀ j, j < zs.length → w.cell? ⟨b, off + j, none⟩ = some (.int .i64 (zs.getD j 0))) :
    Calls Try.prog 152 #[.slice (some ⟨b, off, none⟩) zs.length c] w fun e w' => ∃ m, e = .returned (.int .i64 m) ∧ IsMin zs m ∧ w = w' := by
  have h0 : w.cell? ⟨b, off, none⟩ = some (.int .i64 (zs.getD 0 0)) := by simpa using hc 0 hn
  have hm0 : IsMin (zs.take 1) (zs.getD 0 0) := by
    rw [take_snoc hn]
    exact IsMin.one _
  have HM0 := Lib.hid hm0
  have HC := Lib.hid hc
  have HT := Lib.hid (List.take_length (l := zs))
  have HS : Hid (∀ k, k < zs.length → zs.take (k + 1) = zs.take k ++ [zs.getD k 0]) := fun k hk => take_snoc hk
  clear hc hm0
  generalize zs.getD 0 0 = x0 at *
  generalize zs.length = n at *
  go_enter Try.func152, Try.ntmps152
  go_wp2
  go_loopw [3, 4] (fun m i wl => ∃ (k : Nat) (y : Int), 0 < k ∧ k ≤ n ∧ i = .int .i64 k ∧ m = .int .i64 y ∧ Hid (IsMin (zs.take k) y) ∧ wl = w) (fun _ i _ => n - (intOf i).toNat)
  case atStart => exact ⟨1, x0, Nat.one_pos, hn, rfl, rfl, HM0, rfl⟩
  case round =>
    obtain ⟨k, y, hk0, hk, rfl, rfl, HY, rfl⟩ := hrel
    clear h0
    by_cases hlt : k < n
    · have ck := HC.out k hlt
      have HN := Lib.hid (HY.out.snoc (zs.getD k 0))
      have HSk := HS.out k hlt
      rw [← HSk] at HN
      clear HSk
      generalize zs.getD k 0 = z at *
      go_wp2
      exact ⟨⟨k + 1, min y z, by omega, by omega, by go_num, rfl, HN, trivial⟩, by simp [intOf]; omega⟩
    · obtain rfl : k = n := by omega
      go_wp2
      go_ret
      exact ⟨y, rfl, HT.out ▸ HY.out, rfl⟩
end Go.Proofs.Ytjadapjjilegnaa
