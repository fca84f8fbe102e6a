/-
  Load, Store, Swap and Add of a cell that there is, Len, Steps and New of package cells, by contract. Conditions: the arena's row is its own; fewer than 2^62 steps.
-/
import Derived.Test.YteinfkcnengmeaaCells2
namespace Go.Proofs.Yteinfkcnengmeaa
open Go.RowKit
/-- Behind the way to a cell: where it lies, what it has, and that the step was counted. -/
def Way (W w' : World) (b : Nat) (v : Value) (xs : List Int) (st : Int) (g i : Nat) (x : Int) : Prop :=
  w'.cell? ⟨g, i, none⟩ = some (.int .i64 x) ∧ w'.frozen? ⟨g, i, none⟩ = false ∧ Ar w' b v xs (st + 1) ∧ Frm (fun k => k = b) W w' ∧ v.ownBlock = some g ∧ ∃ cap, v = .slice (some ⟨g, 0, none⟩) xs.length cap
theorem step_way (op : ByteArray) (i : Nat) (W : World) (b : Nat) (v : Value) (xs : List Int) (st x : Int) (h : Ar W b v xs st) (hx : xs[i]? = some x) (h0 : 0 ≤ st) (h1 : st < 4611686018427387904) :
    ∃ g, Calls Try.prog 86 #[.pointer (some ⟨b, 0, none⟩), .string op, .int .i64 i] W fun e w' => e = .returned (.tuple #[.pointer (some ⟨g, i, none⟩), .nilIface]) ∧ Way W w' b v xs st g i x := by
  have hi : i < xs.length := by
    rcases Nat.lt_or_ge i xs.length with k | k
    · exact k
    · simp [List.getElem?_eq_none k] at hx
  obtain ⟨g, cap, rfl, hn, hm⟩ := row_some h.2 (by omega)
  have hgb : g ≠ b := fun e => h.ne (by simp [Value.ownBlock, e])
  refine ⟨g, (step_some op i W b g xs.length cap st h.c0 h.c1 (h.f 1) h0 h1 hi (by simp only [maxLen] at hm; omega)).mono ?_⟩
  rintro e w' ⟨rfl, rfl⟩
  have hf : Frm (fun k => k = b) W (W.setCell ⟨b, 1, none⟩ (.int .i64 (st + 1))) := (Frm.refl (fun k => k = b) W).setCell (p := ⟨b, 1, none⟩) rfl _
  have hr : (W.setCell ⟨b, 1, none⟩ (.int .i64 (st + 1))).ownsRow 0 2 1 (.slice (some ⟨g, 0, none⟩) xs.length cap) xs.length (xs.map (Value.int .i64)) := hf.row h.2 fun g' hg' => by simp [Value.ownBlock] at hg'; omega
  refine ⟨rfl, ?_, hr.frozenAt i, ⟨?_, hr⟩, hf, rfl, cap, rfl⟩
  · rw [hr.cellAt i (by omega)]; simp [hx]
  · exact obj_setCell _ h.1
theorem Way.read {W w' : World} {b : Nat} {v : Value} {xs : List Int} {st : Int} {g i : Nat} {x : Int} (h : Way W w' b v xs st g i x) : ArStep W w' b v xs (st + 1) :=
  ⟨v, h.2.2.1, h.2.2.2.1.mono fun _ _ h => .inl h, .inl rfl⟩
theorem Way.write {W w' : World} {b : Nat} {v : Value} {xs : List Int} {st : Int} {g i : Nat} {x : Int} (h : Way W w' b v xs st g i x) (y : Int) : ArStep W (w'.setCell ⟨g, i, none⟩ (.int .i64 y)) b v (xs.set i y) (st + 1) := by
  obtain ⟨_, _, ⟨ho, hr⟩, hf, hg, cap, rfl⟩ := h
  have hgb : g ≠ b := fun e => row_ne hr ho (by decide) (by simp [Value.ownBlock, e])
  obtain ⟨s1, s2⟩ := hr.stored i (.int .i64 y)
  refine ⟨_, ⟨(Frm.of_grown s2).obj ho (by simp; omega), ?_⟩, (hf.mono fun _ _ h => .inl h).setCell (.inr rfl) _, .inl rfl⟩
  rw [List.map_set, List.length_set]
  exact s1
theorem load_some (i : Nat) (W : World) (b : Nat) (v : Value) (xs : List Int) (st x : Int) (h : Ar W b v xs st) (hx : xs[i]? = some x) (h0 : 0 ≤ st) (h1 : st < 4611686018427387904) :
    Calls Try.prog 29 #[.pointer (some ⟨b, 0, none⟩), .int .i64 i] W fun e w' => e = .returned (.tuple #[.int .i64 x, .nilIface]) ∧ ArStep W w' b v xs (st + 1) := by
  obtain ⟨g, hs⟩ := step_way ⟨#[108, 111, 97, 100]⟩ i W b v xs st x h hx h0 h1
  have HS := Lib.hid hs
  clear hs hx h
  go_enter Try.func29, Try.ntmps29
  go_wp2_with (go_at_call 86; refine HS.out.mono ?_; rintro e w1 ⟨rfl, hw⟩; have hc := hw.1; have HW := Lib.hid hw; clear hw)
  go_ret2
  exact ⟨rfl, HW.out.read⟩
theorem store_some (i : Nat) (y : Int) (W : World) (b : Nat) (v : Value) (xs : List Int) (st x : Int) (h : Ar W b v xs st) (hx : xs[i]? = some x) (h0 : 0 ≤ st) (h1 : st < 4611686018427387904) :
    Calls Try.prog 30 #[.pointer (some ⟨b, 0, none⟩), .int .i64 i, .int .i64 y] W fun e w' => e = .returned .nilIface ∧ ArStep W w' b v (xs.set i y) (st + 1) := by
  obtain ⟨g, hs⟩ := step_way ⟨#[115, 116, 111, 114, 101]⟩ i W b v xs st x h hx h0 h1
  have HS := Lib.hid hs
  clear hs hx h
  go_enter Try.func30, Try.ntmps30
  go_wp2_with (go_at_call 86; refine HS.out.mono ?_; rintro e w1 ⟨rfl, hw⟩; have hc := hw.1; have hfr := hw.2.1; have HW := Lib.hid hw; clear hw)
  go_ret
  exact ⟨rfl, HW.out.write y⟩
theorem swap_yes (i : Nat) (y : Int) (W : World) (b : Nat) (v : Value) (xs : List Int) (st x : Int) (h : Ar W b v xs st) (hx : xs[i]? = some x) (h0 : 0 ≤ st) (h1 : st < 4611686018427387904) :
    Calls Try.prog 32 #[.pointer (some ⟨b, 0, none⟩), .int .i64 i, .int .i64 x, .int .i64 y] W fun e w' => e = .returned (.tuple #[.bool true, .nilIface]) ∧ ArStep W w' b v (xs.set i y) (st + 1) := by
  obtain ⟨g, hs⟩ := step_way ⟨#[115, 119, 97, 112]⟩ i W b v xs st x h hx h0 h1
  have HS := Lib.hid hs
  clear hs hx h
  go_enter Try.func32, Try.ntmps32
  go_wp2_with (go_at_call 86; refine HS.out.mono ?_; rintro e w1 ⟨rfl, hw⟩; have hc := hw.1; have hfr := hw.2.1; have HW := Lib.hid hw; clear hw)
  go_ret2
  exact ⟨rfl, HW.out.write y⟩
theorem swap_no (i : Nat) (o y : Int) (W : World) (b : Nat) (v : Value) (xs : List Int) (st x : Int) (h : Ar W b v xs st) (hx : xs[i]? = some x) (ho : (x == o) = false) (h0 : 0 ≤ st) (h1 : st < 4611686018427387904) :
    Calls Try.prog 32 #[.pointer (some ⟨b, 0, none⟩), .int .i64 i, .int .i64 o, .int .i64 y] W fun e w' => e = .returned (.tuple #[.bool false, .nilIface]) ∧ ArStep W w' b v xs (st + 1) := by
  obtain ⟨g, hs⟩ := step_way ⟨#[115, 119, 97, 112]⟩ i W b v xs st x h hx h0 h1
  have HS := Lib.hid hs
  have ho' : (x != o) = true := by simpa using ho
  clear hs hx h
  go_enter Try.func32, Try.ntmps32
  go_wp2_with (go_at_call 86; refine HS.out.mono ?_; rintro e w1 ⟨rfl, hw⟩; have hc := hw.1; have HW := Lib.hid hw; clear hw)
  go_ret2
  exact ⟨rfl, HW.out.read⟩
/-- Whether the sum of two numbers is one. -/
def sumIn (x d : Int) : Bool := decide (-9223372036854775808 ≤ x + d ∧ x + d ≤ 9223372036854775807)
theorem add_yes (i : Nat) (d : Int) (W : World) (b : Nat) (v : Value) (xs : List Int) (st x : Int) (h : Ar W b v xs st) (hx : xs[i]? = some x) (hd1 : -9223372036854775808 ≤ d) (hd2 : d ≤ 9223372036854775807) (_hx1 : -9223372036854775808 ≤ x) (_hx2 : x ≤ 9223372036854775807) (hs1 : -9223372036854775808 ≤ x + d) (hs2 : x + d ≤ 9223372036854775807) (h0 : 0 ≤ st) (h1 : st < 4611686018427387904) :
    Calls Try.prog 33 #[.pointer (some ⟨b, 0, none⟩), .int .i64 i, .int .i64 d] W fun e w' => e = .returned (.tuple #[.int .i64 (x + d), .nilIface]) ∧ ArStep W w' b v (xs.set i (x + d)) (st + 1) := by
  obtain ⟨g, hs⟩ := step_way ⟨#[97, 100, 100]⟩ i W b v xs st x h hx h0 h1
  have HS := Lib.hid hs
  clear hs hx h
  by_cases p : 0 < d
  · have p' : ¬ d < 0 := by omega
    go_enter Try.func33, Try.ntmps33
    go_wp2_with (go_at_call 86; refine HS.out.mono ?_; rintro e w1 ⟨rfl, hw⟩; have hc := hw.1; have hfr := hw.2.1; have HW := Lib.hid hw; clear hw)
    go_ret2
    exact ⟨rfl, HW.out.write (x + d)⟩
  · by_cases q : d < 0
    · go_enter Try.func33, Try.ntmps33
      go_wp2_with (go_at_call 86; refine HS.out.mono ?_; rintro e w1 ⟨rfl, hw⟩; have hc := hw.1; have hfr := hw.2.1; have HW := Lib.hid hw; clear hw)
      go_ret2
      exact ⟨rfl, HW.out.write (x + d)⟩
    · go_enter Try.func33, Try.ntmps33
      go_wp2_with (go_at_call 86; refine HS.out.mono ?_; rintro e w1 ⟨rfl, hw⟩; have hc := hw.1; have hfr := hw.2.1; have HW := Lib.hid hw; clear hw)
      go_ret2
      exact ⟨rfl, HW.out.write (x + d)⟩
/-- A step that ends in an error: a new fault around a number. -/
def ArFail (W w' : World) (b : Nat) (v : Value) (xs : List Int) (st : Int) (E : Value) (n : Int) : Prop := ArStep W w' b v xs st ∧ Chain w' E 1 n
theorem add_no (i : Nat) (d : Int) (W : World) (b : Nat) (v : Value) (xs : List Int) (st x : Int) (h : Ar W b v xs st) (hx : xs[i]? = some x) (hd1 : -9223372036854775808 ≤ d) (hd2 : d ≤ 9223372036854775807) (hx1 : -9223372036854775808 ≤ x) (hx2 : x ≤ 9223372036854775807) (hs : x + d < -9223372036854775808 ∨ 9223372036854775807 < x + d) (h0 : 0 ≤ st) (h1 : st < 4611686018427387904) :
    Calls Try.prog 33 #[.pointer (some ⟨b, 0, none⟩), .int .i64 i, .int .i64 d] W fun e w' => ∃ E, e = .returned (.tuple #[.int .i64 0, E]) ∧ ArFail W w' b v xs (st + 1) E 5 := by
  obtain ⟨g, hs1⟩ := step_way ⟨#[97, 100, 100]⟩ i W b v xs st x h hx h0 h1
  have HS := Lib.hid hs1
  clear hs1 hx h
  have fin : ∀ w1 : World, Way W w1 b v xs st g i x → ArFail W (w1.alloc (.cells #[.string ⟨#[97, 100, 100]⟩, .int .i64 i, .iface 130 (.int .i64 5)] 166)) b v xs (st + 1) (.iface 164 (.pointer (some ⟨w1.heap.size, 0, none⟩))) 5 := by
    intro w1 hw
    obtain ⟨v', ha, hf, hv⟩ := hw.read
    exact ⟨⟨v', ha.keepB ((Below.refl _ _).alloc (Nat.le_refl _) _), hf.alloc _, hv⟩, .fault _ _ _ _ _ _ (obj_new _ _) (.num 5)⟩
  have FIN := Lib.hid fin
  clear fin
  rcases hs with q | q
  · have p : ¬ 0 < d := by omega
    have r : d < 0 := by omega
    go_enter Try.func33, Try.ntmps33
    go_wp2_with (first
      | (go_at_call 86; refine HS.out.mono ?_; rintro e w1 ⟨rfl, hw⟩; have hc := hw.1; have HW := Lib.hid hw; clear hw)
      | (go_at_call 77; refine (wrap_iface _ _ _ _).mono ?_; rintro e w' ⟨rfl, rfl⟩))
    go_ret2
    exact ⟨_, rfl, FIN.out _ HW.out⟩
  · have p : 0 < d := by omega
    go_enter Try.func33, Try.ntmps33
    go_wp2_with (first
      | (go_at_call 86; refine HS.out.mono ?_; rintro e w1 ⟨rfl, hw⟩; have hc := hw.1; have HW := Lib.hid hw; clear hw)
      | (go_at_call 77; refine (wrap_iface _ _ _ _).mono ?_; rintro e w' ⟨rfl, rfl⟩))
    go_ret2
    exact ⟨_, rfl, FIN.out _ HW.out⟩
end Go.Proofs.Yteinfkcnengmeaa
