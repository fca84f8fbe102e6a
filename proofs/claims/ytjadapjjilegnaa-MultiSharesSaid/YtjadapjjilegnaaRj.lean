/-
  The document's judge of layer 10 by contract. No condition but that the numbers are modest.
-/
import Derived.Test.YtjadapjjilegnaaR10
namespace Go.Proofs.Ytjadapjjilegnaa
open Go.RowKit
set_option linter.unusedVariables false

/-- What a document's claim of layer 10 is. -/
def t10 (n g c h l a o : Int) : Array Value := #[.int .i64 n, .int .i64 g, .int .i64 c, .int .i64 h, .int .i64 l, .int .i64 a, .int .i64 o]
theorem t10_info (n g c h l a o : Int) : (Try.prog.info? 169).map (·.size) = some (t10 n g c h l a o).size := by kernel_rfl
theorem t10_one (n g c h l a o : Int) : (t10 n g c h l a o).all (·.oneCell') = true := by
  rw [Array.all_eq_true_iff_forall_mem]
  intro y hy
  simp only [t10, List.mem_toArray, List.mem_cons, List.not_mem_nil, or_false] at hy
  rcases hy with rfl | rfl | rfl | rfl | rfl | rfl | rfl <;> rfl
/-- Behind all that it reads. -/
def judg (N h l : Int) : Int := if l < h - N then 6 else 3
set_option maxHeartbeats 2000000 in
set_option maxRecDepth 100000 in
theorem rjudge10 {W : World} (N c sn n g d h l a o : Int) (gv sv : Value) (hN : 1 ≤ N ∧ N ≤ 1048576) (hh : -1 ≤ h ∧ h ≤ 4611686018427387905) :
    Calls Try.prog 155 #[.agg (s10 N c gv sn sv), .agg (t10 n g d h l a o)] W fun e w' => e = .returned (.agg (t10 n (judg N h l) d h l a o)) ∧ Below W.heap.size W w' := by
  have HI := Lib.hid (t10_info n (judg N h l) d h l a o)
  have HE1 := Lib.hid (t10_one n (judg N h l) d h l a o)
  obtain ⟨b, hb⟩ : ∃ b : Bool, decide (l < h - N) = b := ⟨_, rfl⟩
  have hj : judg N h l = if b = true then 6 else 3 := by
    unfold judg
    subst hb
    simp
  have HJ := Lib.hid hj
  clear hj
  go_enter Try.func155, Try.ntmps155
  go_upto_region 1 with fail
  generalize hX : World.alloc (World.alloc (W.alloc (.cells _ 125)) (.cells _ 169)) (.cells _ 169) = X at *
  have HA0 : Hid (B10 X W.heap.size (s10 N c gv sn sv)) := hX ▸ Lib.hid (obj_old _ (obj_old _ (obj_new W _)))
  have HT : Hid (X.heap[W.heap.size + 1]? = some (.cells (t10 n g d h l a o) 169 (0, 0))) := hX ▸ Lib.hid (obj_old _ (by have := obj_new (W.alloc (.cells (s10 N c gv sn sv) 125)) (.cells (t10 n g d h l a o) 169); simpa using this))
  have HZ0 : Hid (∃ z : Array Value, z.size = 7 ∧ X.heap[W.heap.size + 1 + 1]? = some (.cells z 169 (0, 0))) := hX ▸ Lib.hid ⟨_, rfl, by have := obj_new ((W.alloc (.cells (s10 N c gv sn sv) 125)).alloc (.cells (t10 n g d h l a o) 169)) (.cells #[.int .i64 0, .int .i64 0, .int .i64 0, .int .i64 0, .int .i64 0, .int .i64 0, .int .i64 0] 169); simpa using this⟩
  have HB0 : Hid (Below W.heap.size W X) := hX ▸ Lib.hid (balloc (balloc (balloc (Below.refl _ _) _) _) _)
  obtain ⟨z, hz7, hz⟩ := HZ0.out
  have HZ := Lib.hid hz
  clear hX HZ0 hz
  have k0 := HA0.out.k.k0
  have t1 : X.cell? ⟨W.heap.size + 1, 1, none⟩ = some (.int .i64 g) := (obj_cell HT.out 1).trans rfl
  have t3 : X.cell? ⟨W.heap.size + 1, 3, none⟩ = some (.int .i64 h) := (obj_cell HT.out 3).trans rfl
  have t4 : X.cell? ⟨W.heap.size + 1, 4, none⟩ = some (.int .i64 l) := (obj_cell HT.out 4).trans rfl
  have f1 := obj_free HT.out 1
  cases b
  · have HJ2 : Hid (judg N h l = 3) := Lib.hid (by rw [HJ.out]; rfl)
    rw [HJ2.out] at HI HE1
    have HF : Hid ((X.setCell ⟨W.heap.size + 1, 1, none⟩ (.int .i64 3)).heap[W.heap.size + 1]? = some (.cells (t10 n 3 d h l a o) 169 (0, 0)) ∧ (X.setCell ⟨W.heap.size + 1, 1, none⟩ (.int .i64 3)).heap[W.heap.size + 1 + 1]? = some (.cells z 169 (0, 0)) ∧ Below W.heap.size W (X.setCell ⟨W.heap.size + 1, 1, none⟩ (.int .i64 3))) := Lib.hid (by
      refine ⟨?_, ?_, ?_⟩
      · have := obj_setCell (i := 1) (.int .i64 3) HT.out
        simpa [t10] using this
      · exact (heap_setCell_other _ ⟨W.heap.size + 1, 1, none⟩ _ _ (by simp)).trans HZ.out
      · exact bset HB0.out 1 _ _ (by omega))
    clear HJ
    go_wp2_with (first
      | (refine wpList_load_row rfl 169 (.tmp 3) rfl (W.heap.size + 1) rfl 169 (t10 n 3 d h l a o) (0, 0) _ HF.out.1 Try.underlying169 rfl HI.out ?_)
      | (refine wpList_store_row rfl 169 (.tmp 4) (.tmp 16) rfl (W.heap.size + 1 + 1) (t10 n 3 d h l a o) rfl rfl 169 _ HF.out.2.1 HI.out (by rw [hz7]; rfl) HE1.out ?_))
    exact bodyPost_ret (results_row (p := 4) (by kernel_rfl) _ _ (W.heap.size + 1 + 1) 169 (t10 n 3 d h l a o) _ rfl (setRow_heap _ _ _ _ _ _ HF.out.2.1) Try.underlying169 rfl HI.out) rfl ⟨by rw [HJ2.out], bsetRow HF.out.2.2 (by omega) _⟩
  · have HJ2 : Hid (judg N h l = 6) := Lib.hid (by rw [HJ.out]; rfl)
    rw [HJ2.out] at HI HE1
    have HF : Hid (((X.setCell ⟨W.heap.size + 1, 1, none⟩ (.int .i64 3)).setCell ⟨W.heap.size + 1, 1, none⟩ (.int .i64 6)).heap[W.heap.size + 1]? = some (.cells (t10 n 6 d h l a o) 169 (0, 0)) ∧ ((X.setCell ⟨W.heap.size + 1, 1, none⟩ (.int .i64 3)).setCell ⟨W.heap.size + 1, 1, none⟩ (.int .i64 6)).heap[W.heap.size + 1 + 1]? = some (.cells z 169 (0, 0)) ∧ Below W.heap.size W ((X.setCell ⟨W.heap.size + 1, 1, none⟩ (.int .i64 3)).setCell ⟨W.heap.size + 1, 1, none⟩ (.int .i64 6))) := Lib.hid (by
      refine ⟨?_, ?_, ?_⟩
      · have := obj_setCell (i := 1) (.int .i64 6) (obj_setCell (i := 1) (.int .i64 3) HT.out)
        simpa [t10] using this
      · exact (heap_setCell_other _ ⟨W.heap.size + 1, 1, none⟩ _ _ (by simp)).trans ((heap_setCell_other _ ⟨W.heap.size + 1, 1, none⟩ _ _ (by simp)).trans HZ.out)
      · exact bset (bset HB0.out 1 _ _ (by omega)) 1 _ _ (by omega))
    clear HJ
    go_wp2_with (first
      | (refine wpList_load_row rfl 169 (.tmp 3) rfl (W.heap.size + 1) rfl 169 (t10 n 6 d h l a o) (0, 0) _ HF.out.1 Try.underlying169 rfl HI.out ?_)
      | (refine wpList_store_row rfl 169 (.tmp 4) (.tmp 16) rfl (W.heap.size + 1 + 1) (t10 n 6 d h l a o) rfl rfl 169 _ HF.out.2.1 HI.out (by rw [hz7]; rfl) HE1.out ?_))
    exact bodyPost_ret (results_row (p := 4) (by kernel_rfl) _ _ (W.heap.size + 1 + 1) 169 (t10 n 6 d h l a o) _ rfl (setRow_heap _ _ _ _ _ _ HF.out.2.1) Try.underlying169 rfl HI.out) rfl ⟨by rw [HJ2.out], bsetRow HF.out.2.2 (by omega) _⟩
end Go.Proofs.Ytjadapjjilegnaa
