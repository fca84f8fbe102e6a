/-
  New, Size, Clone of package slots, by contract. Conditions: the ring is one that New made.
-/
import Derived.Test.YtnimmkgdgdhkfaaSlots3
namespace Go.Proofs.Ytnimmkgdgdhkfaa
open Go.RowKit

theorem size_nil (W : World) :
    Calls Try.prog 40 #[.pointer none] W fun e w' => e = .returned (.agg #[.int .u8 0]) ∧ Below W.heap.size W w' := by
  go_enter Try.func40, Try.ntmps40
  go_wp2
  go_returns
  exact ⟨rfl, by go_grown⟩

theorem size_some (W : World) (b g c k : Nat) (xs : List Ev) (h : Rg W b g c k xs) :
    Calls Try.prog 40 #[.pointer (some ⟨b, 0, none⟩)] W fun e w' => e = .returned (.agg #[.int .u8 k]) ∧ Below W.heap.size W w' := by
  have c0 := h.c0
  have hlt := h.lt.1
  clear h
  go_enter Try.func40, Try.ntmps40
  go_wp2
  go_returns
  exact ⟨rfl, by go_grown⟩

/-- A ring, new. -/
def RgNew (W w' : World) (k : Nat) (xs : List Ev) (e : Ending) : Prop :=
  ∃ b g c, e = .returned (.tuple #[.pointer (some ⟨b, 0, none⟩), .nilIface]) ∧ Rg w' b g c k xs ∧ Below W.heap.size W w' ∧ W.heap.size ≤ b ∧ W.heap.size ≤ g

theorem infoEv : (Try.prog.info? 67).map (fun i => (i.zero, i.size, i.bytes)) = some (some (.agg #[.int .i64 0, .int .i64 0]), 2, 16) := by kernel_rfl

theorem made_zero (n : Nat) : (madeCells (Value.agg #[.int .i64 0, .int .i64 0]).cells (n * 2)).toList = flat2 (List.replicate n (0, 0)) := by
  rw [flat2_replicate]
  apply List.ext_getElem
  · simp [size_madeCells]
  · intro i h1 h2
    simp only [madeCells, Value.cells, List.getElem_replicate]
    simp only [Array.getElem_toList, Array.getElem_map, Array.getElem_range]
    have : i % 2 = 0 ∨ i % 2 = 1 := by omega
    rcases this with e | e <;> simp [e]

theorem make_events (k n : Nat) (hk : k ≤ 20) (hn : (n : Int) = two k) (w : World) :
    (Instr.makeSlice 76 (.int .i64 (two k)) (.int .i64 (two k))).run Try.prog w = .ok (.slice (some ⟨w.heap.size, 0, none⟩) n n) (w.alloc (.cells (flat2 (List.replicate n (0, 0))).toArray 67)) := by
  obtain ⟨i0, hi, hz0, hz1, hz2⟩ := info_parts infoEv
  have h1 := two_le hk
  have h2 := two_pos k
  have := run_make (P := Try.prog) w 76 67 i0 _ Try.underlying76 hi hz0 .i64 .i64 (two k) (two k) (by omega) (Int.le_refl _) (by rw [hz2]; omega) (by omega)
  rw [this, ← hn]
  simp only [Int.toNat_natCast, hz1]
  rw [← made_zero]

theorem new_keep {W a w' : World} {b : Nat} {v : Value} (hb : Below a.heap.size a w') (h : a.cell? ⟨b, 0, none⟩ = some v ∧ Below W.heap.size W a) : w'.cell? ⟨b, 0, none⟩ = some v ∧ Below W.heap.size W w' := ⟨keepc hb h.1, bthen h.2 hb⟩
theorem new_alloc {W a : World} {b : Nat} {v : Value} (o : Obj) (h : a.cell? ⟨b, 0, none⟩ = some v ∧ Below W.heap.size W a) : (a.alloc o).cell? ⟨b, 0, none⟩ = some v ∧ Below W.heap.size W (a.alloc o) := new_keep ((Below.refl _ _).alloc (Nat.le_refl _) o) h

theorem rnew_end {W w : World} {k n : Nat} (hk : k ≤ 20) (hn : (n : Int) = two k) (hb : Below W.heap.size W w) :
    RgNew W ((w.alloc (.cells (flat2 (List.replicate n (0, 0))).toArray 67)).alloc (.cells #[.int .u8 k, .slice (some ⟨w.heap.size, 0, none⟩) n n] 112)) k (List.replicate n (0, 0)) (.returned (.tuple #[.pointer (some ⟨w.heap.size + 1, 0, none⟩), .nilIface])) := by
  have hs : (w.alloc (.cells (flat2 (List.replicate n (0, 0))).toArray 67)).heap.size = w.heap.size + 1 := by simp
  have hl : (List.replicate n ((0 : Int), (0 : Int))).length = n := by simp
  have h1 := two_le hk
  have ho : (w.alloc (.cells (flat2 (List.replicate n (0, 0))).toArray 67)).ownsRow 0 67 2 (.slice (some ⟨w.heap.size, 0, none⟩) n n) n (flat2 (List.replicate n (0, 0))) :=
    World.ownsRow_lit w _ n (Nat.zero_le _) (by unfold maxLen; omega) (by simp [flat2_len])
  refine ⟨_, w.heap.size, n, rfl, ⟨?_, ?_, ?_, hk⟩, balloc (balloc hb _) _, by have := hb.size; omega, hb.size⟩
  · rw [hl, ← hs]; exact obj_new _ _
  · rw [hl]; exact ho.alloc _
  · rw [hl]; exact hn

set_option maxRecDepth 100000 in
set_option maxHeartbeats 1000000 in
theorem rnew_ok (k n : Nat) (hk : k ≤ 20) (hn : (n : Int) = two k) (W : World) :
    Calls Try.prog 39 #[.int .i64 (two k)] W fun e w' => RgNew W w' k (List.replicate n (0, 0)) e := by
  have hmk := make_events k n hk hn
  have HE := Lib.hid (fun (w : World) (hb : Below W.heap.size W w) => rnew_end (W := W) (w := w) hk hn hb)
  clear hn
  generalize flat2 (List.replicate n (0, 0)) = row at *
  generalize List.replicate n ((0 : Int), (0 : Int)) = xs at *
  go_enter Try.func39, Try.ntmps39
  go_wp2_with (go_at_call 14; refine (of_yes k hk _).mono ?_; rintro e w1 ⟨rfl, hb1⟩; have HB1 := Lib.hid hb1; clear hb1)
  have hb2 := balloc HB1.out (.cells #[.int .u8 k] 23)
  have hc2 : (w1.alloc (.cells #[.int .u8 k] 23)).cell? ⟨w1.heap.size, 0, none⟩ = some (.int .u8 k) := (obj_cell (obj_new w1 _) 0).trans rfl
  clear HB1
  generalize w1.heap.size = ob at *
  generalize w1.alloc (.cells #[.int .u8 k] 23) = w2 at *
  go_region_held3 (fun w' => w'.cell? ⟨ob, 0, none⟩ = some (.int .u8 k) ∧ Below W.heap.size W w') (first
      | exact ⟨by assumption, by assumption⟩
      | exact ⟨by go_simp, Below.drew (by assumption)⟩
      | exact new_alloc _ (by assumption)
      | exact new_keep (by assumption) (by assumption)) (first
      | (go_at_call 18; refine (slots_any k hk _).mono ?_; rintro e w3 ⟨rfl, hw⟩; have hb3 := slots_below hw; clear hw))
  go_wp2
  go_ret2
  exact HE.out w3 (bthen hb2.drew hb3)

theorem wrap_end {W w w' : World} {op : ByteArray} {seq n : Int} {E : Value} {d : Nat} (hc : Chain w E d n) (hb : Below W.heap.size W w) (h : w.alloc (.cells #[.string op, .int .i64 seq, E] 123) = w') :
    Chain w' (.iface 121 (.pointer (some ⟨w.heap.size, 0, none⟩))) (d + 1) n ∧ Below W.heap.size W w' := by
  subst h
  exact ⟨.fault _ _ _ _ _ _ (obj_new _ _) (hc.keep ((Below.refl _ _).alloc (Nat.le_refl _) _)), balloc hb _⟩
theorem rnew_no (n : Int) (hw : -9223372036854775808 ≤ n) (hno : ∀ k, k ≤ 20 → n ≠ two k) (W : World) :
    Calls Try.prog 39 #[.int .i64 n] W fun e w' => ∃ E, e = .returned (.tuple #[.pointer none, E]) ∧ Chain w' E 2 7 ∧ Below W.heap.size W w' := by
  have HO : Hid (Calls Try.prog 14 #[.int .i64 n] W fun e w' => ∃ F, e = .returned (.tuple #[.agg #[.int .u8 0], F]) ∧ Chain w' F 1 7 ∧ Below W.heap.size W w') := by
    by_cases h : 1048576 < n
    · exact of_great n h W
    · exact of_other n hw (by omega) hno W
  clear hno
  go_enter Try.func39, Try.ntmps39
  go_wp2_with (first
    | (go_at_call 14; refine HO.out.mono ?_; rintro e w1 ⟨F, rfl, hc, hb⟩; obtain ⟨u, v, rfl⟩ := hc.iface; have HC := Lib.hid (hc.keep ((Below.refl _ _).alloc (Nat.le_refl _) (.cells #[.int .u8 0] 23))); have HB := Lib.hid (balloc hb (.cells #[.int .u8 0] 23)); clear hc hb)
    | (go_at_call 56; refine (wrap_iface _ _ _ _).mono ?_; rintro e w' ⟨rfl, hw⟩; have HE := Lib.hid (wrap_end HC.out HB.out hw); clear hw))
  go_ret2
  exact ⟨_, rfl, by have h := HE.out; simp only [World.size_alloc] at h; exact h⟩
end Go.Proofs.Ytnimmkgdgdhkfaa
