/-
  Span of package slots, by contract. Conditions: the ring is one that New made.
-/
import Derived.Test.YtnimmkgdgdhkfaaFill
namespace Go.Proofs.Ytnimmkgdgdhkfaa
open Go.RowKit

/-- What the slots from an index on have. -/
def spanL (xs : List Ev) (k : Nat) (lo : Int) (m : Nat) : List Ev := (List.range m).map fun (i : Nat) => xs.getD ((lo + i) % two k).toNat (0, 0)
theorem spanL_len (xs : List Ev) (k : Nat) (lo : Int) (m : Nat) : (spanL xs k lo m).length = m := by simp [spanL]
theorem spanL_succ (xs : List Ev) (k : Nat) (lo : Int) (m i : Nat) (a : Ev) (hi : (lo + m) % two k = i) (ha : xs[i]? = some a) : spanL xs k lo (m + 1) = spanL xs k lo m ++ [a] := by
  unfold spanL
  rw [List.range_succ, List.map_append, List.map_singleton, hi]
  simp [List.getD, ha]
theorem spanL_get (xs : List Ev) (k : Nat) (lo : Int) (m j : Nat) (a : Ev) (hj : j < m) (ha : xs[((lo + j) % two k).toNat]? = some a) : (spanL xs k lo m)[j]? = some a := by
  unfold spanL
  rw [List.getElem?_map, List.getElem?_range hj]
  simp [List.getD, ha]

theorem span_nil (lo hi : Int) (W : World) :
    Calls Try.prog 46 #[.pointer none, .int .i64 lo, .int .i64 hi] W fun e w' => ∃ E, e = .returned (.tuple #[.slice none 0 0, E]) ∧ Refused W w' E 2 := by
  go_enter Try.func46, Try.ntmps46
  go_wp2_with (go_at_call 64; refine (rcheck_nil _ _ _).mono ?_; rintro e w' ⟨E, rfl, q, rfl, hr1, hr2⟩; have HR := Lib.hid (show Refused W w' _ 2 from ⟨q, rfl, hr1, hr2⟩); clear hr1 hr2)
  go_ret2
  exact ⟨_, rfl, HR.out⟩
theorem span_bad (lo hi : Int) (W : World) (b g c k : Nat) (xs : List Ev) (h : Rg W b g c k xs) (hs : lo < 0 ∨ 4611686018427387904 < lo) :
    Calls Try.prog 46 #[.pointer (some ⟨b, 0, none⟩), .int .i64 lo, .int .i64 hi] W fun e w' => ∃ E, e = .returned (.tuple #[.slice none 0 0, E]) ∧ Refused W w' E 5 := by
  have H := Lib.hid h
  have HS := Lib.hid hs
  clear h hs
  go_enter Try.func46, Try.ntmps46
  go_wp2_with (go_at_call 64; refine (rcheck_bad _ _ _ b g c k xs H.out HS.out).mono ?_; rintro e w' ⟨E, rfl, q, rfl, hr1, hr2⟩; have HR := Lib.hid (show Refused W w' _ 5 from ⟨q, rfl, hr1, hr2⟩); clear hr1 hr2)
  go_ret2
  exact ⟨_, rfl, HR.out⟩

theorem span_arg (lo hi : Int) (W : World) (b g c k : Nat) (xs : List Ev) (h : Rg W b g c k xs) (h0 : 0 ≤ lo) (h1 : lo ≤ 4611686018427387904) (hw : -9223372036854775808 ≤ hi ∧ hi ≤ 9223372036854775807) (hs : hi < lo ∨ 4611686018427387904 < hi ∨ two k ≤ hi - lo) :
    Calls Try.prog 46 #[.pointer (some ⟨b, 0, none⟩), .int .i64 lo, .int .i64 hi] W fun e w' => ∃ E, e = .returned (.tuple #[.slice none 0 0, E]) ∧ Refused W w' E 1 := by
  have H := Lib.hid h
  have c0 := h.c0
  have hk := h.2.2.2
  obtain ⟨hw1, hw2⟩ := hw
  clear h
  by_cases g1 : hi < lo
  · clear hs
    go_enter Try.func46, Try.ntmps46
    go_wp2_with (first
      | (go_at_call 64; refine (rcheck_ok _ _ _ b g c k xs H.out h0 h1).mono ?_; rintro e w' ⟨rfl, rfl⟩)
      | (go_at_call 56; refine (wrap_iface _ _ _ _).mono ?_; rintro e w' ⟨rfl, hw⟩; have HR := Lib.hid (refused_of hw); clear hw))
    go_ret2
    exact ⟨_, rfl, HR.out⟩
  · by_cases g2 : two k ≤ hi - lo
    · clear hs
      go_enter Try.func46, Try.ntmps46
      go_wp2_with (first
        | (go_at_call 64; refine (rcheck_ok _ _ _ b g c k xs H.out h0 h1).mono ?_; rintro e w' ⟨rfl, rfl⟩)
        | (go_at_call 18; refine (slots_any k hk _).mono ?_; rintro e w3 ⟨rfl, hw⟩; have HB := Lib.hid (slots_below hw); clear hw)
        | (go_at_call 56; refine (wrap_iface _ _ _ _).mono ?_; rintro e w' ⟨rfl, hw⟩; have HR := Lib.hid ((refused_of hw).after HB.out); clear hw))
      go_ret2
      exact ⟨_, rfl, HR.out⟩
    · have g3 : 4611686018427387904 < hi := by omega
      clear hs
      go_enter Try.func46, Try.ntmps46
      go_wp2_with (first
        | (go_at_call 64; refine (rcheck_ok _ _ _ b g c k xs H.out h0 h1).mono ?_; rintro e w' ⟨rfl, rfl⟩)
        | (go_at_call 18; refine (slots_any k hk _).mono ?_; rintro e w3 ⟨rfl, hw⟩; have HB := Lib.hid (slots_below hw); clear hw)
        | (go_at_call 56; refine (wrap_iface _ _ _ _).mono ?_; rintro e w' ⟨rfl, hw⟩; have HR := Lib.hid ((refused_of hw).after HB.out); clear hw))
      go_ret2
      exact ⟨_, rfl, HR.out⟩

/-- A row of events that is new. -/
def Row2 (W w : World) (v : Value) (ys : List Ev) : Prop := w.ownsRow 0 67 2 v ys.length (flat2 ys) ∧ Below W.heap.size W w ∧ ∀ g, v.ownBlock = some g → W.heap.size ≤ g
theorem two_cell (w : World) (x y : Value) (t : TypeId) : ∀ j u, [x, y][j]? = some u → (w.alloc (.cells #[x, y] t)).cell? ((⟨w.heap.size, 0, none⟩ : Addr).add j) = some u := by
  intro j u hu
  rw [Addr.add_lit]
  rcases j with _ | _ | j
  · simp at hu; subst hu; rw [obj_cell (obj_new w _)]; rfl
  · simp at hu; subst hu; rw [obj_cell (obj_new w _)]; rfl
  · simp at hu
theorem row2_app {W w w2 w' : World} {v v' : Value} {ys : List Ev} {a : Ev} {o : Obj} (h : Row2 W w v ys) (hb : Below w.heap.size w w2)
    (hown : w'.ownsRow 0 67 2 v' (ys.length + 1) (flat2 ys ++ [.int .i64 a.1, .int .i64 a.2])) (hf : Frm (fun k => v.ownBlock = some k) (w2.alloc o) w') (hv : v'.ownBlock = v.ownBlock ∨ ∀ g, v'.ownBlock = some g → (w2.alloc o).heap.size ≤ g) :
    Row2 W w' v' (ys ++ [a]) := by
  obtain ⟨h1, h2, h3⟩ := h
  have hb2 : Below W.heap.size W (w2.alloc o) := balloc (bthen h2 hb) _
  refine ⟨?_, hb2.trans (hf.below hb2.size h3), ?_⟩
  · rw [flat2_append, flat2_one, List.length_append]; exact hown
  · intro g hg
    rcases hv with hv | hv
    · exact h3 g (hv ▸ hg)
    · exact Nat.le_trans hb2.size (hv g hg)

theorem row2_start {W w : World} (hb : Below W.heap.size W w) (m : Nat) (hm : (m : Int) ≤ 1048576) :
    Row2 W (w.alloc (.cells (madeCells (Value.agg #[.int .i64 0, .int .i64 0]).cells (m * 2)) 67)) (.slice (some ⟨w.heap.size, 0, none⟩) 0 m) [] :=
  ⟨⟨rfl, .inr ⟨w.heap.size, m, _, rfl, Nat.zero_le _, heap_alloc_new w _, Nat.zero_le _, by unfold maxLen; omega, size_madeCells _ _, by simp [flat2]⟩⟩, balloc hb _, fun g hg => by simp [Value.ownBlock] at hg; exact hg ▸ hb.size⟩
theorem make_span (m : Nat) (hm : (m : Int) ≤ 1048576) (w : World) :
    (Instr.makeSlice 76 (.int .i64 0) (.int .i64 m)).run Try.prog w = .ok (.slice (some ⟨w.heap.size, 0, none⟩) 0 m) (w.alloc (.cells (madeCells (Value.agg #[.int .i64 0, .int .i64 0]).cells (m * 2)) 67)) := by
  obtain ⟨i0, hi, hz0, hz1, hz2⟩ := info_parts infoEv
  have := run_make (P := Try.prog) w 76 67 i0 _ Try.underlying76 hi hz0 .i64 .i64 0 m (by omega) (by omega) (by rw [hz2]; omega) (by omega)
  rw [this]
  simp only [Int.toNat_natCast, hz1]
  rfl

set_option maxRecDepth 100000 in
set_option maxHeartbeats 2000000 in
theorem span_ok (lo hi : Int) (W : World) (b g c k : Nat) (xs : List Ev) (h : Rg W b g c k xs) (h0 : 0 ≤ lo) (h1 : lo ≤ hi) (h2 : hi ≤ 4611686018427387904) (h3 : hi - lo < two k) (m : Nat) (hm : hi - lo + 1 = m) :
    Calls Try.prog 46 #[.pointer (some ⟨b, 0, none⟩), .int .i64 lo, .int .i64 hi] W fun e w' => ∃ v, e = .returned (.tuple #[v, .nilIface]) ∧ Row2 W w' v (spanL xs k lo m) := by
  obtain ⟨i0, hi0, hz0, hz1, hz2⟩ := info_parts infoEv
  have H := Lib.hid h
  have c0 := h.c0
  have hk := h.2.2.2
  have ht := two_le hk
  have hmk : ∀ w, (Instr.makeSlice 76 (.int .i64 0) (.int .i64 (hi - lo + 1))).run Try.prog w = .ok (.slice (some ⟨w.heap.size, 0, none⟩) 0 m) (w.alloc (.cells (madeCells (Value.agg #[.int .i64 0, .int .i64 0]).cells (m * 2)) 67)) := by
    rw [hm]; exact make_span m (by omega)
  have HMM := Lib.hid hm
  have hmc : (m : Int) ≤ 1048576 := by omega
  have d1 : decide (two k ≤ hi - lo) = false := decide_eq_false (by omega)
  have d2 : decide (4611686018427387904 < hi) = false := decide_eq_false (by omega)
  have d3 : decide (hi < lo) = false := decide_eq_false (by omega)
  clear h hm
  go_enter Try.func46, Try.ntmps46
  go_wp2_with (first
    | (go_at_call 64; refine (rcheck_ok _ _ _ b g c k xs H.out h0 (by omega)).mono ?_; rintro e w' ⟨rfl, rfl⟩)
    | (go_at_call 18; refine (slots_any k hk _).mono ?_; rintro e w3 ⟨rfl, hw⟩; have HB := Lib.hid (slots_below hw); clear hw))
  have HR0 : Hid (Row2 W (w3.alloc (.cells (madeCells (Value.agg #[.int .i64 0, .int .i64 0]).cells (m * 2)) 67)) (.slice (some ⟨w3.heap.size, 0, none⟩) 0 m) (spanL xs k lo 0)) :=
    Lib.hid (row2_start HB.out m (by omega))
  clear HB
  go_loopw [9, 10] (fun v i wl => ∃ j : Nat, j ≤ m ∧ i = .int .i64 (lo + (j : Int)) ∧ Hid (Row2 W wl v (spanL xs k lo j))) (fun _ i _ => (hi + 1 - intOf i).toNat)
  case atStart => exact ⟨0, Nat.zero_le _, by simp, HR0⟩
  case round =>
    obtain ⟨j, hj, rfl, HJ⟩ := hrel
    by_cases hlt : j < m
    · obtain ⟨p, cp, rfl, hc⟩ := row_form HJ.out.1
      have hle : lo + (j : Int) ≤ hi := by have := HMM.out; omega
      have HRG := Lib.hid (H.out.keepB HJ.out.2.1)
      obtain ⟨i, hi, hil, _⟩ := H.out.slot (lo + j)
      obtain ⟨a, ha⟩ : ∃ a, xs[i]? = some a := ⟨_, List.getElem?_eq_getElem hil⟩
      have HI := Lib.hid (show (lo + j) % two k = i ∧ i < xs.length ∧ xs[i]? = some a from ⟨hi, hil, ha⟩)
      have HL := Lib.hid (spanL_len xs k lo j)
      clear hi hil ha hc
      go_wp2_with (first
        | (go_at_call 65; refine (rslot_some _ _ b g c k xs HRG.out i HI.out.1 HI.out.2.1).mono ?_; rintro e w5 ⟨rfl, hb5⟩; obtain ⟨k0, k1⟩ := (HRG.out.keepB hb5).at HI.out.2.2; have HB5 := Lib.hid hb5; clear hb5)
        | (at_builtin; refine wpList_append_row rfl _ _ 76 rfl 67 i0 (.agg #[.int .i64 0, .int .i64 0]) 2 16 Try.underlying76 hi0 hz0 hz1 hz2 rfl (by decide) (.slice p (spanL xs k lo j).length cp) (spanL xs k lo j).length _ rfl ((Frm.of_below (balloc HB5.out _) fun _ => False).row HJ.out.1 fun _ _ => id) ⟨w5.heap.size, 0, none⟩ 1 1 [.int .i64 a.1, .int .i64 a.2] rfl rfl (two_cell _ _ _ _) (fun x hx => by simp at hx; rcases hx with rfl | rfl <;> rfl) (by have := HL.out; unfold maxLen; omega) (by have := HL.out; omega) ?_; intro v' w6 hown6 hf6 hv6; have HE := Lib.hid (row2_app HJ.out HB5.out hown6 hf6 hv6); clear hown6 hf6 hv6))
      have HX := Lib.hid (spanL_succ xs k lo j i a HI.out.1 HI.out.2.2)
      refine ⟨⟨j + 1, by omega, by go_num, Lib.hid (HX.out ▸ HE.out)⟩, by simp [intOf]; omega⟩
    · obtain rfl : j = m := by omega
      have hgt : ¬ lo + (j : Int) ≤ hi := by have := HMM.out; omega
      go_wp2
      go_ret2
      exact ⟨_, rfl, HJ.out⟩
end Go.Proofs.Ytnimmkgdgdhkfaa
