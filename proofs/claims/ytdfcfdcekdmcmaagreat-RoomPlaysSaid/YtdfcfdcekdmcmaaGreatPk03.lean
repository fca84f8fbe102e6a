/-
  The arena of package cells, by contract: each call's answer, and what becomes of the arena's block and its row. Conditions: the arena is one whose row is its own; fewer than 2^62 steps; for Alloc fewer than 2097152 cells.
  Load, Store, Swap and Add of package cells where there is no arena, or no such cell: the error, and nothing is changed. No condition but that the arena's row is its own.
  Load, Store, Swap and Add of a cell that there is, Len, Steps and New of package cells, by contract. Conditions: the arena's row is its own; fewer than 2^62 steps.
  New, Alloc, Len, Steps and Clone of package cells, by contract. Conditions: the arena's row is its own; for Alloc fewer than 2097152 cells, for Clone at most as many.
  New, Len, Steps and Clone of package cells, and the statements' own example, by contract. Conditions: the arena's row is its own; for Clone at most 2097152 cells.
  An arena that a call made itself: each call of package cells keeps it one; the statements' own example of package cells; by contract. Conditions: fewer than 2^62 steps; for Alloc fewer than 2097152 cells.
-/
import Derived.Test.YtdfcfdcekdmcmaaGreatPk02
import Derived.Test.YtdfcfdcekdmcmaaGreatPk01
import Derived.Deep.QuietTactic
import Derived.BigQuiet
import Derived.Deep.RegionHeld3
import Derived.StillTailTactics
import Derived.Outline
import Derived.WalkSpells
import Derived.OwnWalk
set_option linter.unusedVariables false
set_option linter.unusedSimpArgs false
namespace Go.Proofs.YtdfcfdcekdmcmaaGreat
open Go.RowKit
def Ar (W : World) (b : Nat) (v : Value) (xs : List Int) (st : Int) : Prop :=
  W.heap[b]? = some (.cells #[v, .int .i64 st] 171 (0, 0)) ∧ W.ownsRow 0 2 1 v xs.length (xs.map (Value.int .i64))
theorem Ar.c0 {W : World} {b : Nat} {v : Value} {xs : List Int} {st : Int} (h : Ar W b v xs st) : W.cell? ⟨b, 0, none⟩ = some v := by rw [obj_cell h.1]; rfl
theorem Ar.c1 {W : World} {b : Nat} {v : Value} {xs : List Int} {st : Int} (h : Ar W b v xs st) : W.cell? ⟨b, 1, none⟩ = some (.int .i64 st) := by rw [obj_cell h.1]; rfl
theorem Ar.f {W : World} {b : Nat} {v : Value} {xs : List Int} {st : Int} (h : Ar W b v xs st) (i : Nat) : W.frozen? ⟨b, i, none⟩ = false := obj_free h.1 i
theorem Ar.lt {W : World} {b : Nat} {v : Value} {xs : List Int} {st : Int} (h : Ar W b v xs st) : b < W.heap.size := lt_of_block h.1
theorem Ar.ne {W : World} {b : Nat} {v : Value} {xs : List Int} {st : Int} (h : Ar W b v xs st) : v.ownBlock ≠ some b := row_ne h.2 h.1 (by decide)
theorem Ar.keep {S : Nat → Prop} {W w' : World} {b : Nat} {v : Value} {xs : List Int} {st : Int} (h : Ar W b v xs st) (hf : Frm S W w') (hb : ¬ S b) (hr : ∀ g, v.ownBlock = some g → ¬ S g) : Ar w' b v xs st :=
  ⟨hf.obj h.1 hb, hf.row h.2 hr⟩
theorem Ar.keepB {W w' : World} {b : Nat} {v : Value} {xs : List Int} {st : Int} (h : Ar W b v xs st) (hf : Below W.heap.size W w') : Ar w' b v xs st :=
  h.keep (Frm.of_below hf fun _ => False) id fun _ _ => id
def ArStep (W w' : World) (b : Nat) (v : Value) (xs : List Int) (st : Int) : Prop :=
  ∃ v', Ar w' b v' xs st ∧ Frm (fun k => k = b ∨ v.ownBlock = some k) W w' ∧ (v'.ownBlock = v.ownBlock ∨ ∀ g, v'.ownBlock = some g → W.heap.size ≤ g)
theorem step_nil (op : ByteArray) (id : Int) (W : World) :
    Calls Tryz.prog 94 #[.pointer none, .string op, .int .i64 id] W fun e w' => e = .returned (.tuple #[.pointer none, .iface 200 (.pointer (some ⟨W.heap.size, 0, none⟩))]) ∧ W.alloc (.cells #[.string op, .int .i64 id, .iface 156 (.int .i64 2)] 202) = w' := by
  go_enter Tryz.func94, Tryz.ntmps94
  go_wp2_with (go_at_call 75; refine (wrap_iface _ _ _ _).mono ?_; rintro e w' ⟨rfl, rfl⟩)
  go_ret2
  exact ⟨rfl, rfl⟩
theorem step_some (op : ByteArray) (i : Nat) (W : World) (b g n c : Nat) (st : Int) (c0 : W.cell? ⟨b, 0, none⟩ = some (.slice (some ⟨g, 0, none⟩) n c)) (c1 : W.cell? ⟨b, 1, none⟩ = some (.int .i64 st)) (f1 : W.frozen? ⟨b, 1, none⟩ = false)
    (h0 : 0 ≤ st) (h1 : st < 4611686018427387904) (hi : i < n) (_hn : n ≤ 9223372036854775807) :
    Calls Tryz.prog 94 #[.pointer (some ⟨b, 0, none⟩), .string op, .int .i64 i] W fun e w' => e = .returned (.tuple #[.pointer (some ⟨g, i, none⟩), .nilIface]) ∧ W.setCell ⟨b, 1, none⟩ (.int .i64 (st + 1)) = w' := by
  go_enter Tryz.func94, Tryz.ntmps94
  go_wp2
  go_ret2
  exact ⟨by simp, rfl⟩
end Go.Proofs.YtdfcfdcekdmcmaaGreat
namespace Go.Proofs.YtdfcfdcekdmcmaaGreat
open Go.RowKit
end Go.Proofs.YtdfcfdcekdmcmaaGreat
namespace Go.Proofs.YtdfcfdcekdmcmaaGreat
open Go.RowKit
def Way (W w' : World) (b : Nat) (v : Value) (xs : List Int) (st : Int) (g i : Nat) (x : Int) : Prop :=
  w'.cell? ⟨g, i, none⟩ = some (.int .i64 x) ∧ w'.frozen? ⟨g, i, none⟩ = false ∧ Ar w' b v xs (st + 1) ∧ Frm (fun k => k = b) W w' ∧ v.ownBlock = some g ∧ ∃ cap, v = .slice (some ⟨g, 0, none⟩) xs.length cap
theorem step_way (op : ByteArray) (i : Nat) (W : World) (b : Nat) (v : Value) (xs : List Int) (st x : Int) (h : Ar W b v xs st) (hx : xs[i]? = some x) (h0 : 0 ≤ st) (h1 : st < 4611686018427387904) :
    ∃ g, Calls Tryz.prog 94 #[.pointer (some ⟨b, 0, none⟩), .string op, .int .i64 i] W fun e w' => e = .returned (.tuple #[.pointer (some ⟨g, i, none⟩), .nilIface]) ∧ Way W w' b v xs st g i x := by
  have hi : i < xs.length := by
    rcases Nat.lt_or_ge i xs.length with k | k
    · exact k
    · simp [List.getElem?_eq_none k] at hx
  obtain ⟨g, cap, rfl, hn, hm⟩ := row_some h.2 (by omega)
  have hgb : g ≠ b := fun e => h.ne (by simp [Value.ownBlock, e])
  refine ⟨g, (step_some op i W b g xs.length cap st h.c0 h.c1 (h.f 1) h0 h1 hi (by simp only [maxLen] at hm; omega)).mono ?_⟩
  rintro e w' ⟨rfl, rfl⟩
  have hf : Frm (fun k => k = b) W (W.setCell ⟨b, 1, none⟩ (.int .i64 (st + 1))) := (Frm.refl (fun k => k = b) W).setCell (p := ⟨b, 1, none⟩) rfl _
  have hr : (W.setCell ⟨b, 1, none⟩ (.int .i64 (st + 1))).ownsRow 0 2 1 (.slice (some ⟨g, 0, none⟩) xs.length cap) xs.length (xs.map (Value.int .i64)) := hf.row h.2 fun g' hg' => by simp [Value.ownBlock] at hg'; omega
  refine ⟨rfl, ?_, hr.frozenAt i, ⟨?_, hr⟩, hf, rfl, cap, rfl⟩
  · rw [hr.cellAt i (by omega)]; simp [hx]
  · exact obj_setCell _ h.1
theorem Way.read {W w' : World} {b : Nat} {v : Value} {xs : List Int} {st : Int} {g i : Nat} {x : Int} (h : Way W w' b v xs st g i x) : ArStep W w' b v xs (st + 1) :=
  ⟨v, h.2.2.1, h.2.2.2.1.mono fun _ _ h => .inl h, .inl rfl⟩
theorem Way.write {W w' : World} {b : Nat} {v : Value} {xs : List Int} {st : Int} {g i : Nat} {x : Int} (h : Way W w' b v xs st g i x) (y : Int) : ArStep W (w'.setCell ⟨g, i, none⟩ (.int .i64 y)) b v (xs.set i y) (st + 1) := by
  obtain ⟨_, _, ⟨ho, hr⟩, hf, hg, cap, rfl⟩ := h
  have hgb : g ≠ b := fun e => row_ne hr ho (by decide) (by simp [Value.ownBlock, e])
  obtain ⟨s1, s2⟩ := hr.stored i (.int .i64 y)
  refine ⟨_, ⟨(Frm.of_grown s2).obj ho (by simp; omega), ?_⟩, (hf.mono fun _ _ h => .inl h).setCell (.inr rfl) _, .inl rfl⟩
  rw [List.map_set, List.length_set]
  exact s1
theorem load_some (i : Nat) (W : World) (b : Nat) (v : Value) (xs : List Int) (st x : Int) (h : Ar W b v xs st) (hx : xs[i]? = some x) (h0 : 0 ≤ st) (h1 : st < 4611686018427387904) :
    Calls Tryz.prog 35 #[.pointer (some ⟨b, 0, none⟩), .int .i64 i] W fun e w' => e = .returned (.tuple #[.int .i64 x, .nilIface]) ∧ ArStep W w' b v xs (st + 1) := by
  obtain ⟨g, hs⟩ := step_way ⟨#[108, 111, 97, 100]⟩ i W b v xs st x h hx h0 h1
  have HS := Lib.hid hs
  clear hs hx h
  go_enter Tryz.func35, Tryz.ntmps35
  go_wp2_with (go_at_call 94; refine HS.out.mono ?_; rintro e w1 ⟨rfl, hw⟩; have hc := hw.1; have HW := Lib.hid hw; clear hw)
  go_ret2
  exact ⟨rfl, HW.out.read⟩
theorem store_some (i : Nat) (y : Int) (W : World) (b : Nat) (v : Value) (xs : List Int) (st x : Int) (h : Ar W b v xs st) (hx : xs[i]? = some x) (h0 : 0 ≤ st) (h1 : st < 4611686018427387904) :
    Calls Tryz.prog 167 #[.pointer (some ⟨b, 0, none⟩), .int .i64 i, .int .i64 y] W fun e w' => e = .returned .nilIface ∧ ArStep W w' b v (xs.set i y) (st + 1) := by
  obtain ⟨g, hs⟩ := step_way ⟨#[115, 116, 111, 114, 101]⟩ i W b v xs st x h hx h0 h1
  have HS := Lib.hid hs
  clear hs hx h
  go_enter Tryz.func167, Tryz.ntmps167
  go_wp2_with (go_at_call 94; refine HS.out.mono ?_; rintro e w1 ⟨rfl, hw⟩; have hc := hw.1; have hfr := hw.2.1; have HW := Lib.hid hw; clear hw)
  go_ret
  exact ⟨rfl, HW.out.write y⟩
theorem swap_yes (i : Nat) (y : Int) (W : World) (b : Nat) (v : Value) (xs : List Int) (st x : Int) (h : Ar W b v xs st) (hx : xs[i]? = some x) (h0 : 0 ≤ st) (h1 : st < 4611686018427387904) :
    Calls Tryz.prog 168 #[.pointer (some ⟨b, 0, none⟩), .int .i64 i, .int .i64 x, .int .i64 y] W fun e w' => e = .returned (.tuple #[.bool true, .nilIface]) ∧ ArStep W w' b v (xs.set i y) (st + 1) := by
  obtain ⟨g, hs⟩ := step_way ⟨#[115, 119, 97, 112]⟩ i W b v xs st x h hx h0 h1
  have HS := Lib.hid hs
  clear hs hx h
  go_enter Tryz.func168, Tryz.ntmps168
  go_wp2_with (go_at_call 94; refine HS.out.mono ?_; rintro e w1 ⟨rfl, hw⟩; have hc := hw.1; have hfr := hw.2.1; have HW := Lib.hid hw; clear hw)
  go_ret2
  exact ⟨rfl, HW.out.write y⟩
theorem swap_no (i : Nat) (o y : Int) (W : World) (b : Nat) (v : Value) (xs : List Int) (st x : Int) (h : Ar W b v xs st) (hx : xs[i]? = some x) (ho : (x == o) = false) (h0 : 0 ≤ st) (h1 : st < 4611686018427387904) :
    Calls Tryz.prog 168 #[.pointer (some ⟨b, 0, none⟩), .int .i64 i, .int .i64 o, .int .i64 y] W fun e w' => e = .returned (.tuple #[.bool false, .nilIface]) ∧ ArStep W w' b v xs (st + 1) := by
  obtain ⟨g, hs⟩ := step_way ⟨#[115, 119, 97, 112]⟩ i W b v xs st x h hx h0 h1
  have HS := Lib.hid hs
  have ho' : (x != o) = true := by simpa using ho
  clear hs hx h
  go_enter Tryz.func168, Tryz.ntmps168
  go_wp2_with (go_at_call 94; refine HS.out.mono ?_; rintro e w1 ⟨rfl, hw⟩; have hc := hw.1; have HW := Lib.hid hw; clear hw)
  go_ret2
  exact ⟨rfl, HW.out.read⟩
end Go.Proofs.YtdfcfdcekdmcmaaGreat
namespace Go.Proofs.YtdfcfdcekdmcmaaGreat
open Go.RowKit
theorem one_cell (w : World) (x : Value) (t : TypeId) : ∀ j u, [x][j]? = some u → (w.alloc (.cells #[x] t)).cell? ((⟨w.heap.size, 0, none⟩ : Addr).add j) = some u := by
  intro j u hu
  rcases j with _ | j
  · simp at hu
    subst hu
    show (w.alloc _).cell? ⟨w.heap.size, 0, none⟩ = _
    rw [obj_cell (obj_new w _)]
    rfl
  · simp at hu
theorem infoI64 : (Tryz.prog.info? 2).map (fun i => (i.zero, i.size, i.bytes)) = some (some (.int .i64 0), 1, 8) := by kernel_rfl
def Laid (W w' : World) (b : Nat) (v : Value) (ys : List Value) (n : Nat) (st x : Int) : Prop :=
  ∃ v', w'.heap[b]? = some (.cells #[v', .int .i64 st] 171 (0, 0)) ∧ w'.ownsRow 0 2 1 v' (n + 1) (ys ++ [Value.int .i64 x]) ∧ Frm (fun k => k = b ∨ v.ownBlock = some k) W w' ∧ (v'.ownBlock = v.ownBlock ∨ ∀ g, v'.ownBlock = some g → W.heap.size ≤ g)
theorem alloc_end {W w' : World} {b : Nat} {v v' : Value} {ys : List Value} {st x : Int} {n : Nat} (h : W.heap[b]? = some (.cells #[v, .int .i64 st] 171 (0, 0))) (ho : W.ownsRow 0 2 1 v n ys)
    (hown : w'.ownsRow 0 2 1 v' (n + 1) (ys ++ [Value.int .i64 x])) (hf : Frm (fun k => v.ownBlock = some k) (W.alloc (.cells #[.int .i64 x] 2)) w') (hv : v'.ownBlock = v.ownBlock ∨ ∀ g, v'.ownBlock = some g → (W.alloc (.cells #[.int .i64 x] 2)).heap.size ≤ g) :
    Laid W (w'.setCell ⟨b, 0, none⟩ v') b v ys n st x := by
  have hob : w'.heap[b]? = some (.cells #[v, .int .i64 st] 171 (0, 0)) := hf.obj (obj_old _ h) (row_ne ho h (by decide))
  have hb' : v'.ownBlock ≠ some b := row_ne hown hob (by decide)
  have h1 : Frm (fun k => k = b ∨ v.ownBlock = some k) W w' := ((Frm.refl _ W).alloc _).then hf fun k _ h => .inr h
  refine ⟨v', ?_, ownsRow_setCell_other hown (a := ⟨b, 0, none⟩) hb' v', h1.setCell (p := ⟨b, 0, none⟩) (.inl rfl) _, ?_⟩
  · exact obj_setCell _ hob
  · rcases hv with hv | hv
    · exact .inl hv
    · exact .inr fun g hg => by have := hv g hg; simp at this; omega
set_option maxRecDepth 100000 in
set_option maxHeartbeats 400000 in
theorem alloc_raw (x : Int) (W : World) (b : Nat) (v : Value) (n : Nat) (ys : List Value) (st : Int) (h : W.heap[b]? = some (.cells #[v, .int .i64 st] 171 (0, 0))) (ho : W.ownsRow 0 2 1 v n ys) (hl : (n : Int) < 2097152) :
    Calls Tryz.prog 34 #[.pointer (some ⟨b, 0, none⟩), .int .i64 x] W fun e w' => e = .returned (.tuple #[.int .i64 n, .nilIface]) ∧ Laid W w' b v ys n st x := by
  obtain ⟨i0, hi, hz0, hz1, hz2⟩ := info_parts infoI64
  have c0 : W.cell? ⟨b, 0, none⟩ = some v := by rw [obj_cell h]; rfl
  have HNE := Lib.hid (row_ne ho h (by decide))
  have H := Lib.hid h
  have HO := Lib.hid ho
  obtain ⟨p, c, rfl, hc⟩ := row_form ho
  clear hc
  have hB : decide ((2097152 : Int) ≤ (n : Int)) = false := by rw [decide_eq_false_iff_not]; omega
  have HB := Lib.hid hl
  clear h ho hl
  go_enter Tryz.func34, Tryz.ntmps34
  go_wp2_with (at_builtin; refine wpList_append_row rfl _ _ 117 rfl 2 i0 (.int .i64 0) 1 8 Tryz.underlying117 hi hz0 hz1 hz2 rfl (by decide) (.slice p n c) n _ rfl (HO.out.alloc _) ⟨W.heap.size, 0, none⟩ 1 1 [.int .i64 x] rfl rfl (one_cell _ _ _) (fun x hx => by simp at hx; subst hx; rfl) (by have := HB.out; unfold maxLen; omega) (by have := HB.out; omega) ?_; intro v' w3 hown3 hf3 hv3; have hob := hf3.obj (obj_old _ H.out) HNE.out; have hcc : w3.cell? ⟨b, 0, none⟩ = some (.slice p n c) := by { rw [obj_cell hob]; rfl }; have hff := obj_free hob 0; have HE := Lib.hid (alloc_end H.out HO.out hown3 hf3 hv3); obtain ⟨p', c', rfl, hc'⟩ := row_form hown3; clear hob hown3 hf3 hv3 hc')
  go_ret2
  exact ⟨rfl, HE.out⟩
theorem alloc_some (x : Int) (W : World) (b : Nat) (v : Value) (xs : List Int) (st : Int) (h : Ar W b v xs st) (hl : (xs.length : Int) < 2097152) :
    Calls Tryz.prog 34 #[.pointer (some ⟨b, 0, none⟩), .int .i64 x] W fun e w' => e = .returned (.tuple #[.int .i64 xs.length, .nilIface]) ∧ ArStep W w' b v (xs ++ [x]) st := by
  refine (alloc_raw x W b v xs.length _ st h.1 h.2 hl).mono ?_
  rintro e w' ⟨rfl, v', h1, h2, h3, h4⟩
  exact ⟨rfl, v', ⟨h1, by simpa using h2⟩, h3, h4⟩
end Go.Proofs.YtdfcfdcekdmcmaaGreat
namespace Go.Proofs.YtdfcfdcekdmcmaaGreat
open Go.RowKit
theorem new_any (W : World) :
    Calls Tryz.prog 53 #[] W fun e w' => e = .returned (.pointer (some ⟨W.heap.size, 0, none⟩)) ∧ Ar w' W.heap.size (.slice none 0 0) [] 0 ∧ Below W.heap.size W w' := by
  go_enter Tryz.func53, Tryz.ntmps53
  go_wp2
  go_ret
  exact ⟨rfl, ⟨obj_new _ _, World.ownsRow_nil _ _ _ _⟩, by go_grown⟩
theorem len_some (W : World) (b : Nat) (v : Value) (xs : List Int) (st : Int) (h : Ar W b v xs st) : Calls Tryz.prog 46 #[.pointer (some ⟨b, 0, none⟩)] W fun e w' => e = .returned (.int .i64 xs.length) ∧ W = w' := by
  have c0 := h.c0
  obtain ⟨p, c, rfl, hc⟩ := row_form h.2
  clear h hc
  go_enter Tryz.func46, Tryz.ntmps46
  go_wp2
  go_ret
  exact ⟨rfl, rfl⟩
def Fresh (W w' : World) (n : Nat) (ys : List Value) (e : Ending) : Prop :=
  ∃ v', e = .returned v' ∧ w'.ownsRow 0 2 1 v' n ys ∧ Below W.heap.size W w' ∧ ∀ g, v'.ownBlock = some g → W.heap.size ≤ g
theorem fresh_end {W w' : World} {v' : Value} {n : Nat} {ys : List Value} (T : TypeId) (hown : w'.ownsRow 0 2 1 v' n ys) (hf : Frm (fun k => (Value.slice (some ⟨W.heap.size, 0, none⟩) 0 0).ownBlock = some k) (W.alloc (.cells #[] T)) w')
    (hv : v'.ownBlock = (Value.slice (some ⟨W.heap.size, 0, none⟩) 0 0).ownBlock ∨ ∀ g, v'.ownBlock = some g → (W.alloc (.cells #[] T)).heap.size ≤ g) : Fresh W w' n ys (.returned v') := by
  refine ⟨v', rfl, hown, ?_, ?_⟩
  · have h : Frm (fun k => W.heap.size ≤ k) W w' := ((Frm.refl _ W).alloc _).then hf fun k hk he => by simp [Value.ownBlock] at he; omega
    exact h.below (Nat.le_refl _) fun _ h => h
  · intro g hg
    rcases hv with hv | hv
    · rw [hv] at hg; simp [Value.ownBlock] at hg; omega
    · have := hv g hg; simp at this; omega
set_option maxRecDepth 100000 in
theorem sclone_any (W : World) (v : Value) (n : Nat) (ys : List Value) (ho : W.ownsRow 0 2 1 v n ys) (hy : ∀ u ∈ ys, u.oneCell' = true) (hl : (n : Int) ≤ 2097152) :
    Calls Tryz.prog 176 #[v] W fun e w' => Fresh W w' n ys e := by
  obtain ⟨i0, hi, hz0, hz1, hz2⟩ := info_parts infoI64
  have HO := Lib.hid ho
  have HB := Lib.hid hl
  have HY := Lib.hid hy
  rcases ho.2 with ⟨rfl, rfl⟩ | ⟨g, cap, cur, rfl, _, hg, hnc, hcm, hcs, htake⟩
  · have hy0 : ys = [] := List.eq_nil_of_length_eq_zero (by simpa using ho.1)
    subst hy0
    clear ho hl hy
    have keq := fun w : World => Lib.run_eql_slice_nil (P := Tryz.prog) w 117 2 none 0 0 0 0 Tryz.underlying117
    go_enter Tryz.func176, Tryz.ntmps176
    go_wp2
    go_ret
    exact ⟨_, rfl, World.ownsRow_nil _ _ _ _, Below.refl _ _, by simp [Value.ownBlock]⟩
  · have hnews : ∀ w' : World, Frm (fun _ => False) W w' → ∀ j u, ys[j]? = some u → w'.cell? ((⟨g, 0, none⟩ : Addr).add j) = some u := fun w' hf => (hf.row ho fun _ _ => id).cells (g := g) rfl
    have HN := Lib.hid hnews
    have HM := Lib.hid ho.1
    clear ho hl hy hg hnc hcm hcs htake hnews
    have keq := fun w : World => Lib.run_eql_slice_nil (P := Tryz.prog) w 117 2 (some ⟨g, 0, none⟩) n cap 0 0 Tryz.underlying117
    go_enter Tryz.func176, Tryz.ntmps176
    go_wp2_with (at_builtin; refine wpList_append_row rfl _ _ 117 rfl 2 i0 (.int .i64 0) 1 8 Tryz.underlying117 hi hz0 hz1 hz2 rfl (by decide) (.slice (some ⟨W.heap.size, 0, none⟩) 0 0) 0 [] rfl (World.ownsRow_lit W #[] 0 (Nat.zero_le _) (Nat.zero_le _) rfl) ⟨g, 0, none⟩ n cap ys rfl HM.out (HN.out _ ((Frm.refl _ _).alloc _)) HY.out (by have := HB.out; unfold maxLen; omega) (by have := HB.out; omega) ?_; intro v' w3 hown3 hf3 hv3; simp only [Nat.zero_add, List.nil_append] at hown3; obtain ⟨p', c', rfl, hc'⟩ := row_form hown3; have HE := Lib.hid (fresh_end _ hown3 hf3 hv3); clear hown3 hf3 hv3 hc')
    go_ret
    exact HE.out
def Cloned (W w' : World) (xs : List Int) (st : Int) (e : Ending) : Prop :=
  ∃ b v', e = .returned (.pointer (some ⟨b, 0, none⟩)) ∧ Ar w' b v' xs st ∧ Below W.heap.size W w' ∧ W.heap.size ≤ b ∧ ∀ g, v'.ownBlock = some g → W.heap.size ≤ g
theorem clone_end {W w2 : World} {v' : Value} {xs : List Int} {st : Int} (hb : Below W.heap.size W w2) (ho : w2.ownsRow 0 2 1 v' xs.length (xs.map (Value.int .i64))) (hg : ∀ g, v'.ownBlock = some g → W.heap.size ≤ g) :
    Cloned W (w2.alloc (.cells #[v', .int .i64 st] 171)) xs st (.returned (.pointer (some ⟨w2.heap.size, 0, none⟩))) :=
  ⟨_, v', rfl, ⟨obj_new _ _, ho.alloc _⟩, balloc hb _, hb.size, hg⟩
theorem cl_row {W a : World} {b n : Nat} {v x u : Value} {ys : List Value} (h : a.cell? ⟨b, 0, none⟩ = some v ∧ a.cell? ⟨b, 1, none⟩ = some x ∧ Below W.heap.size W a) (ho : W.ownsRow 0 2 1 u n ys) : a.ownsRow 0 2 1 u n ys :=
  (Frm.of_below h.2.2 fun _ => False).row ho fun _ _ => id
set_option maxRecDepth 100000 in
set_option maxHeartbeats 1000000 in
theorem clone_some (W : World) (b : Nat) (v : Value) (xs : List Int) (st : Int) (h : Ar W b v xs st) (hl : (xs.length : Int) ≤ 2097152) :
    Calls Tryz.prog 169 #[.pointer (some ⟨b, 0, none⟩)] W fun e w' => Cloned W w' xs st e := by
  have c0 := h.c0
  have c1 := h.c1
  have HR := Lib.hid h.2
  have HB := Lib.hid hl
  obtain ⟨p, c, rfl, hc⟩ := row_form h.2
  clear h hl hc
  go_enter Tryz.func169, Tryz.ntmps169
  go_wp2_with fail
  go_region_held3 (fun w' => w'.cell? ⟨b, 0, none⟩ = some (.slice p xs.length c) ∧ w'.cell? ⟨b, 1, none⟩ = some (.int .i64 st) ∧ Below W.heap.size W w') (first
      | exact ⟨by assumption, by assumption, by assumption⟩
      | exact ⟨by go_simp, by go_simp, Below.drew (by assumption)⟩
      | exact ⟨by go_simp, by go_simp, (Below.refl _ _).drew⟩
      | exact cl_alloc _ (by assumption)
      | exact cl_keep (by assumption) (by assumption)) (first
      | (go_at_call 176; refine (sclone_any _ _ _ _ (cl_row (by assumption) HR.out) (fun u hu => by simp at hu; obtain ⟨x, _, rfl⟩ := hu; rfl) HB.out).mono ?_; rintro e w3 ⟨v', rfl, ho3, hb3, hg3⟩; obtain ⟨p', c', rfl, hc'⟩ := row_form ho3; have HO3 := Lib.hid ho3; have HG3 := Lib.hid hg3; clear ho3 hg3 hc'))
  go_wp2
  go_ret
  exact clone_end (bthen (Below.drew (Below.refl _ _)) hb3) HO3.out HG3.out
end Go.Proofs.YtdfcfdcekdmcmaaGreat
namespace Go.Proofs.YtdfcfdcekdmcmaaGreat
open Go.RowKit
end Go.Proofs.YtdfcfdcekdmcmaaGreat
