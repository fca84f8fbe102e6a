/-
  New, Alloc, Len, Steps and Clone of package cells, by contract. Conditions: the arena's row is its own; for Alloc fewer than 2097152 cells, for Clone at most as many.
-/
import Derived.Test.YteinfkcnengmeaaCells3
namespace Go.Proofs.Yteinfkcnengmeaa
open Go.RowKit
theorem one_cell (w : World) (x : Value) (t : TypeId) : ∀ j u, [x][j]? = some u → (w.alloc (.cells #[x] t)).cell? ((⟨w.heap.size, 0, none⟩ : Addr).add j) = some u := by
  intro j u hu
  rcases j with _ | j
  · simp at hu
    subst hu
    show (w.alloc _).cell? ⟨w.heap.size, 0, none⟩ = _
    rw [obj_cell (obj_new w _)]
    rfl
  · simp at hu
theorem infoI64 : (Try.prog.info? 2).map (fun i => (i.zero, i.size, i.bytes)) = some (some (.int .i64 0), 1, 8) := by kernel_rfl
theorem alloc_nil (x : Int) (W : World) :
    Calls Try.prog 31 #[.pointer none, .int .i64 x] W fun e w' => e = .returned (.tuple #[.int .i64 0, .iface 164 (.pointer (some ⟨W.heap.size, 0, none⟩))]) ∧ W.alloc (.cells #[.string ⟨#[97, 108, 108, 111, 99]⟩, .int .i64 0, .iface 130 (.int .i64 2)] 166) = w' := by
  go_enter Try.func31, Try.ntmps31
  go_wp2_with (go_at_call 77; refine (wrap_iface _ _ _ _).mono ?_; rintro e w' ⟨rfl, rfl⟩)
  go_ret2
  exact ⟨rfl, rfl⟩
/-- What a new cell leaves: in plain parts. -/
def Laid (W w' : World) (b : Nat) (v : Value) (ys : List Value) (n : Nat) (st x : Int) : Prop :=
  ∃ v', w'.heap[b]? = some (.cells #[v', .int .i64 st] 135 (0, 0)) ∧ w'.ownsRow 0 2 1 v' (n + 1) (ys ++ [Value.int .i64 x]) ∧ Frm (fun k => k = b ∨ v.ownBlock = some k) W w' ∧ (v'.ownBlock = v.ownBlock ∨ ∀ g, v'.ownBlock = some g → W.heap.size ≤ g)
theorem alloc_end {W w' : World} {b : Nat} {v v' : Value} {ys : List Value} {st x : Int} {n : Nat} (h : W.heap[b]? = some (.cells #[v, .int .i64 st] 135 (0, 0))) (ho : W.ownsRow 0 2 1 v n ys)
    (hown : w'.ownsRow 0 2 1 v' (n + 1) (ys ++ [Value.int .i64 x])) (hf : Frm (fun k => v.ownBlock = some k) (W.alloc (.cells #[.int .i64 x] 2)) w') (hv : v'.ownBlock = v.ownBlock ∨ ∀ g, v'.ownBlock = some g → (W.alloc (.cells #[.int .i64 x] 2)).heap.size ≤ g) :
    Laid W (w'.setCell ⟨b, 0, none⟩ v') b v ys n st x := by
  have hob : w'.heap[b]? = some (.cells #[v, .int .i64 st] 135 (0, 0)) := hf.obj (obj_old _ h) (row_ne ho h (by decide))
  have hb' : v'.ownBlock ≠ some b := row_ne hown hob (by decide)
  have h1 : Frm (fun k => k = b ∨ v.ownBlock = some k) W w' := ((Frm.refl _ W).alloc _).then hf fun k _ h => .inr h
  refine ⟨v', ?_, ownsRow_setCell_other hown (a := ⟨b, 0, none⟩) hb' v', h1.setCell (p := ⟨b, 0, none⟩) (.inl rfl) _, ?_⟩
  · exact obj_setCell _ hob
  · rcases hv with hv | hv
    · exact .inl hv
    · exact .inr fun g hg => by have := hv g hg; simp at this; omega
set_option maxRecDepth 100000 in
set_option maxHeartbeats 400000 in
theorem alloc_raw (x : Int) (W : World) (b : Nat) (v : Value) (n : Nat) (ys : List Value) (st : Int) (h : W.heap[b]? = some (.cells #[v, .int .i64 st] 135 (0, 0))) (ho : W.ownsRow 0 2 1 v n ys) (hl : (n : Int) < 2097152) :
    Calls Try.prog 31 #[.pointer (some ⟨b, 0, none⟩), .int .i64 x] W fun e w' => e = .returned (.tuple #[.int .i64 n, .nilIface]) ∧ Laid W w' b v ys n st x := by
  obtain ⟨i0, hi, hz0, hz1, hz2⟩ := info_parts infoI64
  have c0 : W.cell? ⟨b, 0, none⟩ = some v := by rw [obj_cell h]; rfl
  have HNE := Lib.hid (row_ne ho h (by decide))
  have H := Lib.hid h
  have HO := Lib.hid ho
  obtain ⟨p, c, rfl, hc⟩ := row_form ho
  clear hc
  have hB : decide ((2097152 : Int) ≤ (n : Int)) = false := by rw [decide_eq_false_iff_not]; omega
  have HB := Lib.hid hl
  clear h ho hl
  go_enter Try.func31, Try.ntmps31
  go_wp2_with (at_builtin; refine wpList_append_row rfl _ _ 38 rfl 2 i0 (.int .i64 0) 1 8 Try.underlying38 hi hz0 hz1 hz2 rfl (by decide) (.slice p n c) n _ rfl (HO.out.alloc _) ⟨W.heap.size, 0, none⟩ 1 1 [.int .i64 x] rfl rfl (one_cell _ _ _) (fun x hx => by simp at hx; subst hx; rfl) (by have := HB.out; unfold maxLen; omega) (by have := HB.out; omega) ?_; intro v' w3 hown3 hf3 hv3; have hob := hf3.obj (obj_old _ H.out) HNE.out; have hcc : w3.cell? ⟨b, 0, none⟩ = some (.slice p n c) := by { rw [obj_cell hob]; rfl }; have hff := obj_free hob 0; have HE := Lib.hid (alloc_end H.out HO.out hown3 hf3 hv3); obtain ⟨p', c', rfl, hc'⟩ := row_form hown3; clear hob hown3 hf3 hv3 hc')
  go_ret2
  exact ⟨rfl, HE.out⟩
theorem alloc_some (x : Int) (W : World) (b : Nat) (v : Value) (xs : List Int) (st : Int) (h : Ar W b v xs st) (hl : (xs.length : Int) < 2097152) :
    Calls Try.prog 31 #[.pointer (some ⟨b, 0, none⟩), .int .i64 x] W fun e w' => e = .returned (.tuple #[.int .i64 xs.length, .nilIface]) ∧ ArStep W w' b v (xs ++ [x]) st := by
  refine (alloc_raw x W b v xs.length _ st h.1 h.2 hl).mono ?_
  rintro e w' ⟨rfl, v', h1, h2, h3, h4⟩
  exact ⟨rfl, v', ⟨h1, by simpa using h2⟩, h3, h4⟩
end Go.Proofs.Yteinfkcnengmeaa
