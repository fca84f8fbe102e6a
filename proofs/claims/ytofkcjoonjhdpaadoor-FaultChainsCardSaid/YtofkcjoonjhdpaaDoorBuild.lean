/-
  The library's text builder, where package fault writes into it: contracts. Condition: what is written stays below 2^47 bytes.
-/
import Derived.Test.YtofkcjoonjhdpaaDoorFault2
import Derived.Test.YtofkcjoonjhdpaaDoorShelf
import Derived.Lib.AppendStr
import Derived.LaidEqlPtr
namespace Go.Proofs.YtofkcjoonjhdpaaDoor
open Go.RowKit Go.Extern.Stop Go.Stop Go.Extern

/-- Block b is a builder that holds so many bytes; all that it has lies from block B on. -/
def Bld (B b : Nat) (l : List UInt8) (w : World) : Prop := Lib.IsBuilder 67 5 B b (Lib.byteCells l) w

theorem builderAt_keep {B b : Nat} {p : Value} {bs : List Value} {w w' : World} (hb : Below w.heap.size w w') (h : Lib.BuilderAt 67 5 B b p bs w) : Lib.BuilderAt 67 5 B b p bs w' := by
  obtain ⟨h1, v, h2, h3, h4⟩ := h
  refine ⟨h1, v, (hb.block b (heap_lt h2)).trans h2, ⟨h3.1, ?_⟩, h4⟩
  rcases h3.2 with h5 | ⟨g, cap, cur, e1, e2, e3, e4⟩
  · exact Or.inl h5
  · exact Or.inr ⟨g, cap, cur, e1, e2, (hb.block g (heap_lt e3)).trans e3, e4⟩
theorem Bld.keep {B b : Nat} {l : List UInt8} {w w' : World} (hb : Below w.heap.size w w') (h : Bld B b l w) : Bld B b l w' :=
  Or.elim (show Lib.IsBuilder 67 5 B b (Lib.byteCells l) w from h) (fun x => Or.inl (builderAt_keep hb x)) (fun x => Or.inr (builderAt_keep hb x))

set_option maxRecDepth 100000 in
theorem copy_any (B b : Nat) (bs : List Value) (w : World) (h : Lib.IsBuilder 67 5 B b bs w) :
    Calls Tryd.prog 42 #[.pointer (some ⟨b, 0, none⟩)] w fun e w' => e = .returned (.tuple #[]) ∧ Lib.BuilderAt 67 5 B b (.pointer (some ⟨b, 0, none⟩)) bs w' ∧ Below B w w' := by
  obtain ⟨j, hj, hjs⟩ := Option.map_eq_some_iff.1 (show (Tryd.prog.info? 67).map (·.size) = some 2 by kernel_rfl)
  have hnq : ∀ w : World, (binOp .neq 64 (.pointer (some ⟨b, 0, none⟩)) (.pointer (some ⟨b, 0, none⟩))).run Tryd.prog w = .ok (.bool false) w := fun w => Lib.run_neq_ptr_same w _ Tryd.underlying64 hj
  rcases h with h | h
  · have h0 := h.cell0
    have hz := h.frozen0
    have hesc : ∀ w : World, (callFunc 50 #[.pointer (some ⟨b, 0, none⟩)]).run Tryd.prog w = .ok (Next.value (.pointer (some ⟨b, 0, none⟩))) w := fun _ => by kernel_rfl
    have hto := Lib.run_to_unsafe (P := Tryd.prog) w ⟨b, 0, none⟩ Tryd.underlying64 Tryd.underlying52 hj (by rw [hjs]; decide) h.shape (Nat.zero_lt_succ 1)
    have hfrom := Lib.run_from_unsafe (P := Tryd.prog) w ⟨b, 0, none⟩ Tryd.underlying52 Tryd.underlying64 hj h.shape (by kernel_rfl)
    have HH := Lib.hid h
    clear hj h
    go_enter Tryd.func42, Tryd.ntmps42
    go_wp2
    go_returns
    exact ⟨rfl, HH.out.used _, (Below.refl B w).setCell (p := ⟨b, 0, none⟩) HH.out.1 _⟩
  · have h0 := h.cell0
    have HH := Lib.hid h
    clear hj h
    go_enter Tryd.func42, Tryd.ntmps42
    go_wp2
    go_returns
    exact ⟨rfl, HH.out, Below.refl B _⟩

set_option maxHeartbeats 1000000 in
set_option maxRecDepth 100000 in
theorem write_any (B b : Nat) (l : List UInt8) (s : ByteArray) (w : World) (h : Bld B b l w) (hlen : l.length + s.size ≤ 140737488355328) (hBw : B ≤ w.heap.size) :
    Calls Tryd.prog 26 #[.pointer (some ⟨b, 0, none⟩), .string s] w fun e w' => e = .returned (.tuple #[.int .i64 s.size, .nilIface]) ∧ Bld B b (l ++ s.data.toList) w' ∧ Below B w w' := by
  obtain ⟨i0, hi, hz0, hz1, hz2⟩ := info_parts (show (Tryd.prog.info? 5).map (fun i => (i.zero, i.size, i.bytes)) = some (some (.int .u8 0), 1, 1) by kernel_rfl)
  have HH := Lib.hid h
  clear h
  go_enter Tryd.func26, Tryd.ntmps26
  go_wp2_with (go_at_call 42; refine (copy_any B b _ _ HH.out).mono ?_)
  rintro e w1 ⟨rfl, h1, hb1⟩
  obtain ⟨hB, v, hbk, hown, hne⟩ := h1
  have c0 : w1.cell? ⟨b, 0, none⟩ = some (.pointer (some ⟨b, 0, none⟩)) := heap_cell hbk 0
  have c1 : w1.cell? ⟨b, 1, none⟩ = some v := heap_cell hbk 1
  go_wp2_with (at_builtin; refine Lib.wpList_append_own_string _ rfl _ _ 65 9 rfl B 5 i0 Tryd.underlying65 Tryd.underlying9 hi hz0 hz1 hz2 _ _ _ rfl hown s rfl ?c3 ?c4 ?c5 ?_)
  case c3 => unfold maxLen; simp [Lib.byteCells]; omega
  case c4 => simp [Lib.byteCells]; omega
  case c5 => have := hb1.size; omega
  intro v' w2 hown' hgrow _
  have hb2 : w2.heap[b]? = some (.cells #[.pointer (some ⟨b, 0, none⟩), v] 67 (0, 0)) := by
    rw [hgrow.block b (heap_lt hbk) (fun e => hne e.symm)]
    exact hbk
  have d0 : w2.cell? ⟨b, 0, none⟩ = some (.pointer (some ⟨b, 0, none⟩)) := heap_cell hb2 0
  have d1 : w2.cell? ⟨b, 1, none⟩ = some v := heap_cell hb2 1
  have f1 : w2.frozen? ⟨b, 1, none⟩ = false := Lib.frozen_of_heap hb2 1
  obtain ⟨ao, n', cap, rfl⟩ : ∃ ao n' cap, v' = .slice ao n' cap := by
    rcases hown'.2 with ⟨hv, _⟩ | ⟨g, cap, cur, hv, _⟩
    · exact ⟨_, _, _, hv⟩
    · exact ⟨_, _, _, hv⟩
  have HO := Lib.hid hown
  have HO' := Lib.hid hown'
  clear hown hown'
  go_wp2
  go_ret2
  have hcells : Lib.byteCells (l ++ s.data.toList) = Lib.byteCells l ++ Lib.strCells s := by simp [Lib.byteCells, Lib.strCells]
  refine ⟨rfl, Or.inr ?_, ?_⟩
  · rw [hcells]
    exact Lib.BuilderAt.put (T := 67) (e := 5) hB hb2 (bs' := Lib.byteCells l ++ Lib.strCells s) (by have := HO'.out; simpa [Lib.strCells_length] using this) (by decide)
  · exact (hb1.grown hgrow (by have := hb1.size; omega) (fun k hk => (HO.out.lt k hk).1)).setCell (p := ⟨b, 1, none⟩) hB _
end Go.Proofs.YtofkcjoonjhdpaaDoor
