/-
  A table of actors xs a row of three cells each; its stores; New, Add, live and look by contract. Conditions: the table's row is its own.
  live, look, Len, Park, Wake, Clear, Halt, State, Token, Wakes of package actor by contract. Conditions: the table's row is its own; for Wake fewer than 2^62 wakes.
  look, State, Token, Wakes, Runnable and Legal of package actor by contract. Conditions: the table's row is its own; at most 1048576 actors.
  The document's table of actors: three rows; Wrong, Add, Park, Wake, Runnable by contract. Conditions: its rows are its own; at most 1048576 actors; for Wake fewer than 2^62 wakes.
-/
import Derived.Test.YtdfcfdcekdmcmaaGreatPk02
import Derived.Test.YtdfcfdcekdmcmaaGreatPk01
import Derived.OwnWalk
import Derived.Outline
set_option linter.unusedVariables false
set_option linter.unusedSimpArgs false
namespace Go.Proofs.YtdfcfdcekdmcmaaGreat
open Go.RowKit
abbrev Ac := Int × Bool × Int
def flat3 (xs : List Ac) : List Value := xs.flatMap fun a => [.int .i64 a.1, .bool a.2.1, .int .i64 a.2.2]
theorem flat3_len (xs : List Ac) : (flat3 xs).length = xs.length * 3 := by
  unfold flat3
  induction xs with
  | nil => rfl
  | cons t l ih => simp only [List.flatMap_cons, List.length_append, ih, List.length_cons, List.length_nil]; omega
theorem flat3_append (a b : List Ac) : flat3 (a ++ b) = flat3 a ++ flat3 b := by unfold flat3; rw [List.flatMap_append]
theorem flat3_one (a : Ac) : flat3 [a] = [.int .i64 a.1, .bool a.2.1, .int .i64 a.2.2] := rfl
theorem flat3_cons (a : Ac) (l : List Ac) : flat3 (a :: l) = .int .i64 a.1 :: .bool a.2.1 :: .int .i64 a.2.2 :: flat3 l := rfl
theorem flat3_split {xs : List Ac} {k : Nat} {a : Ac} (h : xs[k]? = some a) : flat3 xs = flat3 (xs.take k) ++ (.int .i64 a.1 :: .bool a.2.1 :: .int .i64 a.2.2 :: flat3 (xs.drop (k + 1))) ∧ (flat3 (xs.take k)).length = k * 3 ∧ k < xs.length := by
  obtain ⟨hk, rfl⟩ := List.getElem?_eq_some_iff.1 h
  refine ⟨?_, by rw [flat3_len, List.length_take]; omega, hk⟩
  rw [← flat3_cons, ← flat3_append, ← List.drop_eq_getElem_cons hk, List.take_append_drop]
theorem flat3_get {xs : List Ac} {k : Nat} {a : Ac} (h : xs[k]? = some a) : (flat3 xs)[k * 3]? = some (.int .i64 a.1) ∧ (flat3 xs)[k * 3 + 1]? = some (.bool a.2.1) ∧ (flat3 xs)[k * 3 + 2]? = some (.int .i64 a.2.2) := by
  obtain ⟨h1, h2, h3⟩ := flat3_split h
  rw [h1]
  refine ⟨?_, ?_, ?_⟩ <;> (rw [List.getElem?_append_right (by omega), h2]; simp)
theorem set_split {xs : List Ac} {k : Nat} (h : k < xs.length) (b : Ac) : flat3 (xs.set k b) = flat3 (xs.take k) ++ (.int .i64 b.1 :: .bool b.2.1 :: .int .i64 b.2.2 :: flat3 (xs.drop (k + 1))) := by
  rw [List.set_eq_take_append_cons_drop, if_pos h, flat3_append, flat3_cons]
theorem flat3_set0 {xs : List Ac} {k : Nat} {a : Ac} (h : xs[k]? = some a) (x : Int) : (flat3 xs).set (k * 3) (.int .i64 x) = flat3 (xs.set k (x, a.2.1, a.2.2)) := by
  obtain ⟨h1, h2, h3⟩ := flat3_split h
  rw [set_split h3, h1, List.set_append_right _ _ (by omega), h2]
  simp
theorem flat3_set1 {xs : List Ac} {k : Nat} {a : Ac} (h : xs[k]? = some a) (x : Bool) : (flat3 xs).set (k * 3 + 1) (.bool x) = flat3 (xs.set k (a.1, x, a.2.2)) := by
  obtain ⟨h1, h2, h3⟩ := flat3_split h
  rw [set_split h3, h1, List.set_append_right _ _ (by omega), h2]
  simp
theorem flat3_set2 {xs : List Ac} {k : Nat} {a : Ac} (h : xs[k]? = some a) (x : Int) : (flat3 xs).set (k * 3 + 2) (.int .i64 x) = flat3 (xs.set k (a.1, a.2.1, x)) := by
  obtain ⟨h1, h2, h3⟩ := flat3_split h
  rw [set_split h3, h1, List.set_append_right _ _ (by omega), h2]
  simp
def Tb (W : World) (b : Nat) (v : Value) (xs : List Ac) : Prop :=
  W.heap[b]? = some (.cells #[v] 142 (0, 0)) ∧ W.ownsRow 0 153 3 v xs.length (flat3 xs)
theorem Tb.c0 {W : World} {b : Nat} {v : Value} {xs : List Ac} (h : Tb W b v xs) : W.cell? ⟨b, 0, none⟩ = some v := (obj_cell h.1 0).trans rfl
theorem Tb.ne {W : World} {b : Nat} {v : Value} {xs : List Ac} (h : Tb W b v xs) : v.ownBlock ≠ some b := row_ne h.2 h.1 (by decide)
theorem Tb.keep {S : Nat → Prop} {W w' : World} {b : Nat} {v : Value} {xs : List Ac} (h : Tb W b v xs) (hf : Frm S W w') (hb : ¬ S b) (hr : ∀ g, v.ownBlock = some g → ¬ S g) : Tb w' b v xs :=
  ⟨hf.obj h.1 hb, hf.row h.2 hr⟩
theorem Tb.keepB {W w' : World} {b : Nat} {v : Value} {xs : List Ac} (h : Tb W b v xs) (hf : Below W.heap.size W w') : Tb w' b v xs :=
  h.keep (Frm.of_below hf fun _ => False) id fun _ _ => id
theorem Tb.at {W : World} {b : Nat} {v : Value} {xs : List Ac} (h : Tb W b v xs) {i : Nat} {a : Ac} (hi : xs[i]? = some a) :
    ∃ g c, v = .slice (some ⟨g, 0, none⟩) xs.length c ∧ xs.length ≤ c ∧ c ≤ maxLen ∧ i < xs.length ∧ W.cell? ⟨g, i * 3, none⟩ = some (.int .i64 a.1) ∧ W.cell? ⟨g, i * 3 + 1, none⟩ = some (.bool a.2.1) ∧ W.cell? ⟨g, i * 3 + 2, none⟩ = some (.int .i64 a.2.2) ∧ ∀ j, W.frozen? ⟨g, j, none⟩ = false := by
  have hlt : i < xs.length := (List.getElem?_eq_some_iff.1 hi).1
  obtain ⟨f0, f1, f2⟩ := flat3_get hi
  rcases h.2.2 with ⟨_, h0⟩ | ⟨g, cap, cur, rfl, _, _, hc, hcm, _⟩
  · omega
  · exact ⟨g, cap, rfl, hc, hcm, hlt, (h.2.cellAt (i * 3) (by omega)).trans f0, (h.2.cellAt (i * 3 + 1) (by omega)).trans f1, (h.2.cellAt (i * 3 + 2) (by omega)).trans f2, fun j => h.2.frozenAt j⟩
def TbSet (W w' : World) (b : Nat) (v : Value) (xs : List Ac) : Prop := Tb w' b v xs ∧ Frm (fun k => v.ownBlock = some k) W w'
theorem TbSet.refl {W : World} {b : Nat} {v : Value} {xs : List Ac} (h : Tb W b v xs) : TbSet W W b v xs := ⟨h, Frm.refl _ _⟩
theorem TbSet.raw {W w : World} {b : Nat} {g n c : Nat} {xs xs' : List Ac} (h : TbSet W w b (.slice (some ⟨g, 0, none⟩) n c) xs) (hl : xs'.length = xs.length) (j : Nat) (u : Value) (he : (flat3 xs).set j u = flat3 xs') :
    TbSet W (w.setCell ⟨g, j, none⟩ u) b (.slice (some ⟨g, 0, none⟩) n c) xs' := by
  obtain ⟨⟨h1, h2⟩, h3⟩ := h
  have hn : n = xs.length := by
    rcases h2.2 with ⟨h', _⟩ | ⟨g', cap', cur, h', _⟩
    · simp at h'
    · simp only [Value.slice.injEq] at h'; exact h'.2.1
  subst hn
  have hgb : g ≠ b := fun e => row_ne h2 h1 (by decide) (by simp [Value.ownBlock, e])
  obtain ⟨s1, s2⟩ := h2.stored j u
  refine ⟨⟨(Frm.of_grown s2).obj h1 (by simp; omega), ?_⟩, h3.setCell (p := ⟨g, j, none⟩) rfl _⟩
  rw [he] at s1
  rw [hl]
  exact s1
theorem TbSet.s0 {W w : World} {b g n c : Nat} {xs : List Ac} (h : TbSet W w b (.slice (some ⟨g, 0, none⟩) n c) xs) {i : Nat} {a : Ac} (hi : xs[i]? = some a) (x : Int) :
    TbSet W (w.setCell ⟨g, i * 3, none⟩ (.int .i64 x)) b (.slice (some ⟨g, 0, none⟩) n c) (xs.set i (x, a.2.1, a.2.2)) := h.raw (by simp) _ _ (flat3_set0 hi x)
theorem TbSet.s1 {W w : World} {b g n c : Nat} {xs : List Ac} (h : TbSet W w b (.slice (some ⟨g, 0, none⟩) n c) xs) {i : Nat} {a : Ac} (hi : xs[i]? = some a) (x : Bool) :
    TbSet W (w.setCell ⟨g, i * 3 + 1, none⟩ (.bool x)) b (.slice (some ⟨g, 0, none⟩) n c) (xs.set i (a.1, x, a.2.2)) := h.raw (by simp) _ _ (flat3_set1 hi x)
theorem TbSet.s2 {W w : World} {b g n c : Nat} {xs : List Ac} (h : TbSet W w b (.slice (some ⟨g, 0, none⟩) n c) xs) {i : Nat} {a : Ac} (hi : xs[i]? = some a) (x : Int) :
    TbSet W (w.setCell ⟨g, i * 3 + 2, none⟩ (.int .i64 x)) b (.slice (some ⟨g, 0, none⟩) n c) (xs.set i (a.1, a.2.1, x)) := h.raw (by simp) _ _ (flat3_set2 hi x)
theorem ferr {W w' : World} {op id : Value} {n : Int} (h : W.alloc (.cells #[op, id, .iface 156 (.int .i64 n)] 202) = w') (hop : ∃ s, op = .string s := by exact ⟨_, rfl⟩) (hid : ∃ i, id = .int .i64 i := by exact ⟨_, rfl⟩) :
    Chain w' (.iface 200 (.pointer (some ⟨W.heap.size, 0, none⟩))) 1 n ∧ Below W.heap.size W w' := by
  obtain ⟨s, rfl⟩ := hop
  obtain ⟨i, rfl⟩ := hid
  subst h
  exact ⟨.fault _ _ _ _ _ _ (obj_new _ _) (.num n), (Below.refl _ _).alloc (Nat.le_refl _) _⟩
theorem tnew (W : World) : Calls Tryz.prog 54 #[] W fun e w' => e = .returned (.pointer (some ⟨W.heap.size, 0, none⟩)) ∧ W.alloc (.cells #[.slice none 0 0] 142) = w' := by
  go_enter Tryz.func54, Tryz.ntmps54
  go_wp2
  go_ret
  exact ⟨rfl, rfl⟩
theorem three_cell (w : World) (x y z : Value) (t : TypeId) : ∀ j u, [x, y, z][j]? = some u → (w.alloc (.cells #[x, y, z] t)).cell? ((⟨w.heap.size, 0, none⟩ : Addr).add j) = some u := by
  intro j u hu
  rw [Addr.add_lit]
  rcases j with _ | _ | _ | j
  · simp at hu; subst hu; rw [obj_cell (obj_new w _)]; rfl
  · simp at hu; subst hu; rw [obj_cell (obj_new w _)]; rfl
  · simp at hu; subst hu; rw [obj_cell (obj_new w _)]; rfl
  · simp at hu
theorem infoAc : (Tryz.prog.info? 153).map (fun i => (i.zero, i.size, i.bytes)) = some (some (.agg #[.int .i64 0, .bool false, .int .i64 0]), 3, 24) := by kernel_rfl
theorem infoAI : (Tryz.prog.info? 3).map (fun i => (i.zero, i.size, i.bytes)) = some (some (.int .i64 0), 1, 8) := by kernel_rfl
theorem infoAB : (Tryz.prog.info? 4).map (fun i => (i.zero, i.size, i.bytes)) = some (some (.bool false), 1, 1) := by kernel_rfl
def TbStep (W w' : World) (b : Nat) (v : Value) (xs : List Ac) : Prop :=
  ∃ v', Tb w' b v' xs ∧ Frm (fun k => k = b ∨ v.ownBlock = some k) W w' ∧ (v'.ownBlock = v.ownBlock ∨ ∀ g, v'.ownBlock = some g → W.heap.size ≤ g)
theorem TbSet.step {W w' : World} {b : Nat} {v : Value} {xs : List Ac} (h : TbSet W w' b v xs) : TbStep W w' b v xs := ⟨v, h.1, h.2.mono fun _ _ => .inr, .inl rfl⟩
theorem tadd_end {W w' : World} {b : Nat} {v v' : Value} {xs : List Ac} {o : Obj} (h : Tb W b v xs)
    (hown : w'.ownsRow 0 153 3 v' (xs.length + 1) (flat3 xs ++ [.int .i64 0, .bool false, .int .i64 0])) (hf : Frm (fun k => v.ownBlock = some k) (W.alloc o) w') (hv : v'.ownBlock = v.ownBlock ∨ ∀ g, v'.ownBlock = some g → (W.alloc o).heap.size ≤ g) :
    TbStep W (w'.setCell ⟨b, 0, none⟩ v') b v (xs ++ [(0, false, 0)]) := by
  have hob : w'.heap[b]? = some (.cells #[v] 142 (0, 0)) := hf.obj (obj_old _ h.1) h.ne
  have hb' : v'.ownBlock ≠ some b := row_ne hown hob (by decide)
  have h1 : Frm (fun k => k = b ∨ v.ownBlock = some k) W w' := ((Frm.refl _ W).alloc _).then hf fun k _ h => .inr h
  refine ⟨v', ⟨obj_setCell _ hob, ?_⟩, h1.setCell (p := ⟨b, 0, none⟩) (.inl rfl) _, ?_⟩
  · rw [flat3_append, flat3_one, List.length_append]
    exact ownsRow_setCell_other hown (a := ⟨b, 0, none⟩) hb' v'
  · rcases hv with hv | hv
    · exact .inl hv
    · exact .inr fun g hg => by have := hv g hg; simp at this; omega
set_option maxRecDepth 100000 in
set_option maxHeartbeats 400000 in
theorem tadd_some (W : World) (b : Nat) (v : Value) (xs : List Ac) (h : Tb W b v xs) (hl : (xs.length : Int) < 64) :
    Calls Tryz.prog 52 #[.pointer (some ⟨b, 0, none⟩)] W fun e w' => e = .returned (.tuple #[.int .i64 xs.length, .nilIface]) ∧ TbStep W w' b v (xs ++ [(0, false, 0)]) := by
  obtain ⟨i0, hi, hz0, hz1, hz2⟩ := info_parts infoAc
  have c0 := h.c0
  have H := Lib.hid h
  obtain ⟨p, c, rfl, hc⟩ := row_form h.2
  clear hc
  have hB : decide ((64 : Int) ≤ (xs.length : Int)) = false := by rw [decide_eq_false_iff_not]; omega
  have HB := Lib.hid hl
  clear h hl
  go_enter Tryz.func52, Tryz.ntmps52
  go_wp2_with (at_builtin; refine wpList_append_row rfl _ _ 140 rfl 153 i0 (.agg #[.int .i64 0, .bool false, .int .i64 0]) 3 24 Tryz.underlying140 hi hz0 hz1 hz2 rfl (by decide) (.slice p xs.length c) xs.length _ rfl (H.out.2.alloc _) ⟨W.heap.size, 0, none⟩ 1 1 [.int .i64 0, .bool false, .int .i64 0] rfl rfl (three_cell _ _ _ _ _) (fun x hx => by simp at hx; rcases hx with rfl | rfl | rfl <;> rfl) (by have := HB.out; unfold maxLen; omega) (by have := HB.out; omega) ?_; intro v' w3 hown3 hf3 hv3; have hob := hf3.obj (obj_old _ H.out.1) H.out.ne; have hcc : w3.cell? ⟨b, 0, none⟩ = some (.slice p xs.length c) := by { rw [obj_cell hob]; rfl }; have hff := obj_free hob 0; have HE := Lib.hid (tadd_end H.out hown3 hf3 hv3); obtain ⟨p', c', rfl, hc'⟩ := row_form hown3; clear hob hown3 hf3 hv3 hc')
  go_ret2
  exact ⟨rfl, HE.out⟩
theorem tadd_many (W : World) (b : Nat) (v : Value) (xs : List Ac) (h : Tb W b v xs) (hl : 64 ≤ (xs.length : Int)) :
    Calls Tryz.prog 52 #[.pointer (some ⟨b, 0, none⟩)] W fun e w' => ∃ q, e = .returned (.tuple #[.int .i64 0, .iface 200 (.pointer (some ⟨q, 0, none⟩))]) ∧ Chain w' (.iface 200 (.pointer (some ⟨q, 0, none⟩))) 1 8 ∧ Below W.heap.size W w' := by
  have c0 := h.c0
  obtain ⟨p, c, rfl, hc⟩ := row_form h.2
  clear hc h
  have hB : decide ((64 : Int) ≤ (xs.length : Int)) = true := decide_eq_true hl
  go_enter Tryz.func52, Tryz.ntmps52
  go_wp2_with (go_at_call 75; refine (wrap_iface _ _ _ _).mono ?_; rintro e w' ⟨rfl, hw⟩; obtain ⟨hch, hbb⟩ := ferr hw; clear hw)
  go_ret2
  exact ⟨_, rfl, hch, hbb⟩
end Go.Proofs.YtdfcfdcekdmcmaaGreat
namespace Go.Proofs.YtdfcfdcekdmcmaaGreat
open Go.RowKit
def Wr (xs : List Ac) (id n : Int) : Prop := (n = 3 ∧ (id < 0 ∨ (xs.length : Int) ≤ id)) ∨ (n = 17 ∧ ∃ (i : Nat) (a : Ac), id = i ∧ xs[i]? = some a ∧ a.1 = 2)
theorem wr_or (xs : List Ac) (id : Int) : (∃ n, n ≠ 0 ∧ Wr xs id n) ∨ ∃ (i : Nat) (a : Ac), id = i ∧ xs[i]? = some a ∧ a.1 ≠ 2 := by
  by_cases h : id < 0 ∨ (xs.length : Int) ≤ id
  · exact .inl ⟨3, by decide, .inl ⟨rfl, h⟩⟩
  · obtain ⟨i, rfl⟩ : ∃ i : Nat, id = i := ⟨id.toNat, by omega⟩
    have hi : i < xs.length := by omega
    by_cases h2 : xs[i].1 = 2
    · exact .inl ⟨17, by decide, .inr ⟨rfl, i, _, rfl, List.getElem?_eq_getElem hi, h2⟩⟩
    · exact .inr ⟨i, _, rfl, List.getElem?_eq_getElem hi, h2⟩
abbrev Flt (q : Nat) : Value := .iface 200 (.pointer (some ⟨q, 0, none⟩))
theorem live_bad (op : ByteArray) (W : World) (b : Nat) (v : Value) (xs : List Ac) (id n : Int) (h : Tb W b v xs) (hw : Wr xs id n) :
    Calls Tryz.prog 114 #[.pointer (some ⟨b, 0, none⟩), .string op, .int .i64 id] W fun e w' => ∃ q, e = .returned (.tuple #[.pointer none, Flt q]) ∧ Chain w' (Flt q) 1 n ∧ Below W.heap.size W w' := by
  have c0 := h.c0
  rcases hw with ⟨rfl, hw⟩ | ⟨rfl, i, a, rfl, hi, ha⟩
  · obtain ⟨p, c, rfl, hc⟩ := row_form h.2
    clear hc h
    by_cases h1 : id < 0
    · clear hw
      have d1 : decide (id < 0) = true := decide_eq_true h1
      go_enter Tryz.func114, Tryz.ntmps114
      go_wp2_with (go_at_call 75; refine (wrap_iface _ _ _ _).mono ?_; rintro e w' ⟨rfl, hw⟩; obtain ⟨hch, hbb⟩ := ferr hw; clear hw)
      go_ret2
      exact ⟨_, rfl, hch, hbb⟩
    · have h2 := hw.resolve_left h1
      clear hw
      have d1 : decide (id < 0) = false := decide_eq_false h1
      have d2 : decide ((xs.length : Int) ≤ id) = true := decide_eq_true h2
      go_enter Tryz.func114, Tryz.ntmps114
      go_wp2_with (go_at_call 75; refine (wrap_iface _ _ _ _).mono ?_; rintro e w' ⟨rfl, hw⟩; obtain ⟨hch, hbb⟩ := ferr hw; clear hw)
      go_ret2
      exact ⟨_, rfl, hch, hbb⟩
  · obtain ⟨g, c, rfl, hc, hcm, hlt, k0, _, _, _⟩ := h.at hi
    obtain ⟨st, tok, wk⟩ := a
    obtain rfl : st = 2 := ha
    simp only at k0
    clear h hi hc
    have hcm' : c ≤ 9223372036854775807 := by unfold maxLen at hcm; omega
    have d1 : decide ((i : Int) < 0) = false := decide_eq_false (by omega)
    have d2 : decide ((xs.length : Int) ≤ (i : Int)) = false := decide_eq_false (by omega)
    go_enter Tryz.func114, Tryz.ntmps114
    go_wp2_with (go_at_call 75; refine (wrap_iface _ _ _ _).mono ?_; rintro e w' ⟨rfl, hw⟩; obtain ⟨hch, hbb⟩ := ferr hw; clear hw)
    go_ret2
    exact ⟨_, rfl, hch, hbb⟩
theorem live_raw (op : ByteArray) (W : World) (b g n c i : Nat) (st : Int) (c0 : W.cell? ⟨b, 0, none⟩ = some (.slice (some ⟨g, 0, none⟩) n c)) (k0 : W.cell? ⟨g, i * 3, none⟩ = some (.int .i64 st)) (hi : i < n) (_hn : n ≤ 9223372036854775807) (hs : st ≠ 2) :
    Calls Tryz.prog 114 #[.pointer (some ⟨b, 0, none⟩), .string op, .int .i64 i] W fun e w' => e = .returned (.tuple #[.pointer (some ⟨g, i * 3, none⟩), .nilIface]) ∧ W = w' := by
  have d1 : decide ((i : Int) < 0) = false := decide_eq_false (by omega)
  have d2 : decide ((n : Int) ≤ (i : Int)) = false := decide_eq_false (by omega)
  have d3 : (st == 2) = false := by simp [hs]
  go_enter Tryz.func114, Tryz.ntmps114
  go_wp2
  go_ret2
  exact ⟨by simp, rfl⟩
theorem live_ok {W : World} {b : Nat} {v : Value} {xs : List Ac} (h : Tb W b v xs) {i : Nat} {a : Ac} (hi : xs[i]? = some a) (hs : a.1 ≠ 2) :
    ∃ g c, v = .slice (some ⟨g, 0, none⟩) xs.length c ∧ W.cell? ⟨g, i * 3, none⟩ = some (.int .i64 a.1) ∧ W.cell? ⟨g, i * 3 + 1, none⟩ = some (.bool a.2.1) ∧ W.cell? ⟨g, i * 3 + 2, none⟩ = some (.int .i64 a.2.2) ∧ (∀ j, W.frozen? ⟨g, j, none⟩ = false) ∧
      ∀ op, Calls Tryz.prog 114 #[.pointer (some ⟨b, 0, none⟩), .string op, .int .i64 i] W fun e w' => e = .returned (.tuple #[.pointer (some ⟨g, i * 3, none⟩), .nilIface]) ∧ W = w' := by
  obtain ⟨g, c, rfl, hc, hcm, hlt, k0, k1, k2, kf⟩ := h.at hi
  exact ⟨g, c, rfl, k0, k1, k2, kf, fun op => live_raw op W b g xs.length c i a.1 h.c0 k0 hlt (by unfold maxLen at hcm; omega) hs⟩
def parkS (a : Ac) : Ac := if a.2.1 then (a.1, false, a.2.2) else (1, a.2.1, a.2.2)
def wakeS (a : Ac) : Ac := if a.1 = 1 then (0, a.2.1, a.2.2 + 1) else (a.1, true, a.2.2 + 1)
def haltS (a : Ac) : Ac := (2, false, a.2.2)
theorem wake_bad (W : World) (b : Nat) (v : Value) (xs : List Ac) (id n : Int) (h : Tb W b v xs) (hw : Wr xs id n) :
    Calls Tryz.prog 99 #[.pointer (some ⟨b, 0, none⟩), .int .i64 id] W fun e w' => ∃ q, e = .returned (.tuple #[.bool false, Flt q]) ∧ Chain w' (Flt q) 1 n ∧ Below W.heap.size W w' := by
  go_enter Tryz.func99, Tryz.ntmps99
  go_wp2_with (go_at_call 114; refine (live_bad _ _ _ _ _ _ n h hw).mono ?_; rintro e w' ⟨q, rfl, hch, hbb⟩)
  go_ret2
  exact ⟨_, rfl, hch, hbb⟩
theorem halt_bad (W : World) (b : Nat) (v : Value) (xs : List Ac) (id n : Int) (h : Tb W b v xs) (hw : Wr xs id n) :
    Calls Tryz.prog 102 #[.pointer (some ⟨b, 0, none⟩), .int .i64 id] W fun e w' => ∃ q, e = .returned (Flt q) ∧ Chain w' (Flt q) 1 n ∧ Below W.heap.size W w' := by
  go_enter Tryz.func102, Tryz.ntmps102
  go_wp2_with (go_at_call 114; refine (live_bad _ _ _ _ _ _ n h hw).mono ?_; rintro e w' ⟨q, rfl, hch, hbb⟩)
  go_ret
  exact ⟨_, rfl, hch, hbb⟩
theorem park_ok (W : World) (b : Nat) (v : Value) (xs : List Ac) (i : Nat) (a : Ac) (h : Tb W b v xs) (hi : xs[i]? = some a) (hs : a.1 ≠ 2) :
    Calls Tryz.prog 76 #[.pointer (some ⟨b, 0, none⟩), .int .i64 i] W fun e w' => e = .returned (.tuple #[.bool (!a.2.1), .nilIface]) ∧ TbSet W w' b v (xs.set i (parkS a)) := by
  obtain ⟨g, c, rfl, k0, k1, k2, kf, hl⟩ := live_ok h hi hs
  have f0 := kf (i * 3)
  have f1 := kf (i * 3 + 1)
  have HR := Lib.hid (TbSet.refl h)
  have HL := Lib.hid hl
  have HI := Lib.hid hi
  obtain ⟨st, tok, wk⟩ := a
  simp only at k0 k1 k2
  clear h hl kf hi hs
  cases tok
  · go_enter Tryz.func76, Tryz.ntmps76
    go_wp2_with (go_at_call 114; refine (HL.out _).mono ?_; rintro e w' ⟨rfl, rfl⟩)
    go_ret2
    exact ⟨rfl, HR.out.s0 HI.out 1⟩
  · go_enter Tryz.func76, Tryz.ntmps76
    go_wp2_with (go_at_call 114; refine (HL.out _).mono ?_; rintro e w' ⟨rfl, rfl⟩)
    go_ret2
    exact ⟨rfl, HR.out.s1 HI.out false⟩
theorem set_at {xs : List Ac} {i : Nat} {a y : Ac} (h : xs[i]? = some a) : (xs.set i y)[i]? = some y := by
  have hlt : i < xs.length := (List.getElem?_eq_some_iff.1 h).1
  rw [List.getElem?_set_self hlt]
theorem wake_ok (W : World) (b : Nat) (v : Value) (xs : List Ac) (i : Nat) (a : Ac) (h : Tb W b v xs) (hi : xs[i]? = some a) (hs : a.1 ≠ 2) (h0 : 0 ≤ a.2.2) (h1 : a.2.2 < 4611686018427387904) :
    Calls Tryz.prog 99 #[.pointer (some ⟨b, 0, none⟩), .int .i64 i] W fun e w' => e = .returned (.tuple #[.bool (a.1 == 1), .nilIface]) ∧ TbSet W w' b v (xs.set i (wakeS a)) := by
  obtain ⟨g, c, rfl, k0, k1, k2, kf, hl⟩ := live_ok h hi hs
  have f0 := kf (i * 3)
  have f1 := kf (i * 3 + 1)
  have f2 := kf (i * 3 + 2)
  have HR := Lib.hid (TbSet.refl h)
  have HL := Lib.hid hl
  have HI := Lib.hid hi
  obtain ⟨st, tok, wk⟩ := a
  simp only at k0 k1 k2 h0 h1
  clear h hl kf hi hs
  by_cases h2 : st = 1
  · subst h2
    go_enter Tryz.func99, Tryz.ntmps99
    go_wp2_with (go_at_call 114; refine (HL.out _).mono ?_; rintro e w' ⟨rfl, rfl⟩)
    go_ret2
    refine ⟨rfl, ?_⟩
    have := (HR.out.s2 HI.out (wk + 1)).s0 (set_at HI.out) 0
    rw [List.set_set] at this
    exact this
  · have d2 : (st == 1) = false := by simp [h2]
    go_enter Tryz.func99, Tryz.ntmps99
    go_wp2_with (go_at_call 114; refine (HL.out _).mono ?_; rintro e w' ⟨rfl, rfl⟩)
    go_ret2
    refine ⟨by simp [d2], ?_⟩
    have := (HR.out.s2 HI.out (wk + 1)).s1 (set_at HI.out) true
    rw [List.set_set] at this
    have e : wakeS (st, tok, wk) = (st, true, wk + 1) := by unfold wakeS; rw [if_neg h2]
    rw [e]
    exact this
theorem halt_ok (W : World) (b : Nat) (v : Value) (xs : List Ac) (i : Nat) (a : Ac) (h : Tb W b v xs) (hi : xs[i]? = some a) (hs : a.1 ≠ 2) :
    Calls Tryz.prog 102 #[.pointer (some ⟨b, 0, none⟩), .int .i64 i] W fun e w' => e = .returned .nilIface ∧ TbSet W w' b v (xs.set i (haltS a)) := by
  obtain ⟨g, c, rfl, k0, k1, k2, kf, hl⟩ := live_ok h hi hs
  have f0 := kf (i * 3)
  have f1 := kf (i * 3 + 1)
  have HR := Lib.hid (TbSet.refl h)
  have HL := Lib.hid hl
  have HI := Lib.hid hi
  obtain ⟨st, tok, wk⟩ := a
  simp only at k0 k1 k2
  clear h hl kf hi hs
  go_enter Tryz.func102, Tryz.ntmps102
  go_wp2_with (go_at_call 114; refine (HL.out _).mono ?_; rintro e w' ⟨rfl, rfl⟩)
  go_ret
  refine ⟨rfl, ?_⟩
  have := (HR.out.s0 HI.out 2).s1 (set_at HI.out) false
  rw [List.set_set] at this
  exact this
theorem tlen (W : World) (b : Nat) (v : Value) (xs : List Ac) (h : Tb W b v xs) :
    Calls Tryz.prog 15 #[.pointer (some ⟨b, 0, none⟩)] W fun e w' => e = .returned (.int .i64 xs.length) ∧ W = w' := by
  have c0 := h.c0
  obtain ⟨p, c, rfl, hc⟩ := row_form h.2
  clear hc h
  go_enter Tryz.func15, Tryz.ntmps15
  go_wp2
  go_ret
  exact ⟨rfl, rfl⟩
end Go.Proofs.YtdfcfdcekdmcmaaGreat
namespace Go.Proofs.YtdfcfdcekdmcmaaGreat
open Go.RowKit
set_option maxRecDepth 100000 in
theorem look_in (W : World) (b : Nat) (v : Value) (xs : List Ac) (i : Nat) (a : Ac) (h : Tb W b v xs) (hi : xs[i]? = some a) :
    Calls Tryz.prog 74 #[.pointer (some ⟨b, 0, none⟩), .int .i64 i] W fun e w' => e = .returned (.agg #[.int .i64 a.1, .bool a.2.1, .int .i64 a.2.2]) ∧ Below W.heap.size W w' := by
  have HK := Lib.hid (h.keepB (balloc (Below.refl _ _) (.cells #[.int .i64 0, .bool false, .int .i64 0] 153)))
  obtain ⟨g, c, rfl, hc, hcm, hlt, k0, k1, k2, kf⟩ := HK.out.at hi
  have c0 := HK.out.c0
  have d1 : decide ((i : Int) < 0) = false := decide_eq_false (by omega)
  have d2 : decide ((xs.length : Int) ≤ (i : Int)) = false := decide_eq_false (by omega)
  have hcm' : c ≤ 9223372036854775807 := by unfold maxLen at hcm; omega
  clear h hi kf hcm
  go_enter Tryz.func74, Tryz.ntmps74
  go_wp2_with (go_at_call 15; refine (tlen _ _ _ xs HK.out).mono ?_; rintro e w' ⟨rfl, rfl⟩)
  refine bodyPost_ret (v := .agg #[.int .i64 a.1, .bool a.2.1, .int .i64 a.2.2]) ?_ rfl ⟨rfl, ?_⟩
  · simp [results, Tryz.results74, go_sem]
  · first
      | exact balloc (Below.refl _ _) _
      | exact (((Frm.refl (fun k => W.heap.size ≤ k) (W.alloc (.cells #[.int .i64 0, .bool false, .int .i64 0] 153))).setCell (p := ⟨W.heap.size, 0, none⟩) (Nat.le_refl _) _).setCell (p := ⟨W.heap.size, 1, none⟩) (Nat.le_refl _) _ |>.setCell (p := ⟨W.heap.size, 2, none⟩) (Nat.le_refl _) _).below (by simp) (fun _ h => h) |> (balloc (Below.refl _ _) _).trans
theorem fld0 (x y z : Value) (w : World) : (Instr.field 153 (.agg #[x, y, z]) 0).run Tryz.prog w = .ok x w := by kernel_rfl
theorem fld1 (x y z : Value) (w : World) : (Instr.field 153 (.agg #[x, y, z]) 1).run Tryz.prog w = .ok y w := by kernel_rfl
set_option maxRecDepth 100000 in
theorem tstate_in (W : World) (b : Nat) (v : Value) (xs : List Ac) (i : Nat) (a : Ac) (h : Tb W b v xs) (hi : xs[i]? = some a) :
    Calls Tryz.prog 19 #[.pointer (some ⟨b, 0, none⟩), .int .i64 i] W fun e w' => e = .returned (.int .i64 a.1) ∧ Below W.heap.size W w' := by
  have hfl := fld0
  go_enter Tryz.func19, Tryz.ntmps19
  go_wp2_with (go_at_call 74; refine (look_in _ _ _ xs _ a h hi).mono ?_; rintro e w' ⟨rfl, hb⟩)
  go_ret
  exact ⟨rfl, hb⟩
set_option maxRecDepth 100000 in
theorem ttoken_in (W : World) (b : Nat) (v : Value) (xs : List Ac) (i : Nat) (a : Ac) (h : Tb W b v xs) (hi : xs[i]? = some a) :
    Calls Tryz.prog 21 #[.pointer (some ⟨b, 0, none⟩), .int .i64 i] W fun e w' => e = .returned (.bool a.2.1) ∧ Below W.heap.size W w' := by
  have hfl := fld1
  go_enter Tryz.func21, Tryz.ntmps21
  go_wp2_with (go_at_call 74; refine (look_in _ _ _ xs _ a h hi).mono ?_; rintro e w' ⟨rfl, hb⟩)
  go_ret
  exact ⟨rfl, hb⟩
theorem one_cellA (w : World) (x : Value) (t : TypeId) : ∀ j u, [x][j]? = some u → (w.alloc (.cells #[x] t)).cell? ((⟨w.heap.size, 0, none⟩ : Addr).add j) = some u := by
  intro j u hu
  rcases j with _ | j
  · simp at hu
    subst hu
    show (w.alloc _).cell? ⟨w.heap.size, 0, none⟩ = _
    rw [obj_cell (obj_new w _)]
    rfl
  · simp at hu
end Go.Proofs.YtdfcfdcekdmcmaaGreat
namespace Go.Proofs.YtdfcfdcekdmcmaaGreat
open Go.RowKit
theorem rows_neA {w : World} {b1 b2 s1 s2 n1 n2 : Nat} {e1 e2 : TypeId} {v1 v2 : Value} {x1 x2 : List Value} (h1 : w.ownsRow b1 e1 s1 v1 n1 x1) (h2 : w.ownsRow b2 e2 s2 v2 n2 x2) (hne : e1 ≠ e2) {g : Nat} (hg : v2.ownBlock = some g) : v1.ownBlock ≠ some g := by
  obtain ⟨cur, hc⟩ := ownsRow_obj h2 hg
  exact row_ne h1 hc hne
def sts (xs : List Ac) : List Value := xs.map fun a => .int .i64 a.1
def tks (xs : List Ac) : List Value := xs.map fun a => .bool a.2.1
def wks5 (xs : List Ac) : List Value := xs.map fun a => .int .i64 a.2.2
def Rgt (w : World) (M : Nat) (v1 v2 v3 : Value) (n1 n2 n3 : Nat) (x1 x2 x3 : List Value) : Prop :=
  w.heap[M]? = some (.cells #[v1, v2, v3] 113 (0, 0)) ∧ w.ownsRow 0 3 1 v1 n1 x1 ∧ w.ownsRow 0 4 1 v2 n2 x2 ∧ w.ownsRow 0 3 1 v3 n3 x3 ∧ ∀ g, v1.ownBlock = some g → v3.ownBlock ≠ some g
def Rt (w : World) (M : Nat) (v1 v2 v3 : Value) (xs : List Ac) : Prop := Rgt w M v1 v2 v3 xs.length xs.length xs.length (sts xs) (tks xs) (wks5 xs)
theorem Rgt.c {W : World} {M : Nat} {v1 v2 v3 : Value} {n1 n2 n3 : Nat} {x1 x2 x3 : List Value} (h : Rgt W M v1 v2 v3 n1 n2 n3 x1 x2 x3) : W.cell? ⟨M, 0, none⟩ = some v1 ∧ W.cell? ⟨M, 1, none⟩ = some v2 ∧ W.cell? ⟨M, 2, none⟩ = some v3 ∧ W.frozen? ⟨M, 0, none⟩ = false ∧ W.frozen? ⟨M, 1, none⟩ = false ∧ W.frozen? ⟨M, 2, none⟩ = false :=
  ⟨(obj_cell h.1 0).trans rfl, (obj_cell h.1 1).trans rfl, (obj_cell h.1 2).trans rfl, obj_free h.1 0, obj_free h.1 1, obj_free h.1 2⟩
theorem Rgt.ne1 {W : World} {M : Nat} {v1 v2 v3 : Value} {n1 n2 n3 : Nat} {x1 x2 x3 : List Value} (h : Rgt W M v1 v2 v3 n1 n2 n3 x1 x2 x3) : v1.ownBlock ≠ some M := row_ne h.2.1 h.1 (by decide)
theorem Rgt.ne2 {W : World} {M : Nat} {v1 v2 v3 : Value} {n1 n2 n3 : Nat} {x1 x2 x3 : List Value} (h : Rgt W M v1 v2 v3 n1 n2 n3 x1 x2 x3) : v2.ownBlock ≠ some M := row_ne h.2.2.1 h.1 (by decide)
theorem Rgt.ne3 {W : World} {M : Nat} {v1 v2 v3 : Value} {n1 n2 n3 : Nat} {x1 x2 x3 : List Value} (h : Rgt W M v1 v2 v3 n1 n2 n3 x1 x2 x3) : v3.ownBlock ≠ some M := row_ne h.2.2.2.1 h.1 (by decide)
theorem Rt.at {W : World} {M : Nat} {v1 v2 v3 : Value} {xs : List Ac} (h : Rt W M v1 v2 v3 xs) {i : Nat} {a : Ac} (hi : xs[i]? = some a) :
    ∃ g1 c1 g2 c2 g3 c3, v1 = .slice (some ⟨g1, 0, none⟩) xs.length c1 ∧ v2 = .slice (some ⟨g2, 0, none⟩) xs.length c2 ∧ v3 = .slice (some ⟨g3, 0, none⟩) xs.length c3 ∧ i < xs.length ∧ xs.length ≤ 9223372036854775807 ∧
      W.cell? ⟨g1, i, none⟩ = some (.int .i64 a.1) ∧ W.cell? ⟨g2, i, none⟩ = some (.bool a.2.1) ∧ W.cell? ⟨g3, i, none⟩ = some (.int .i64 a.2.2) ∧ W.frozen? ⟨g1, i, none⟩ = false ∧ W.frozen? ⟨g2, i, none⟩ = false ∧ W.frozen? ⟨g3, i, none⟩ = false := by
  have hlt : i < xs.length := (List.getElem?_eq_some_iff.1 hi).1
  obtain ⟨_, r1, r2, r3, _⟩ := h
  obtain ⟨g1, c1, rfl, hc1, hm⟩ := row_some r1 (by omega)
  obtain ⟨g2, c2, rfl, _, _⟩ := row_some r2 (by omega)
  obtain ⟨g3, c3, rfl, _, _⟩ := row_some r3 (by omega)
  refine ⟨g1, c1, g2, c2, g3, c3, rfl, rfl, rfl, hlt, by unfold maxLen at hm; omega, (r1.cellAt i (by omega)).trans ?_, (r2.cellAt i (by omega)).trans ?_, (r3.cellAt i (by omega)).trans ?_, r1.frozenAt i, r2.frozenAt i, r3.frozenAt i⟩
  · unfold sts; rw [List.getElem?_map, hi]; rfl
  · unfold tks; rw [List.getElem?_map, hi]; rfl
  · unfold wks5; rw [List.getElem?_map, hi]; rfl
theorem map_set_same {α : Type} (f : Ac → α) {xs : List Ac} {i : Nat} {a y : Ac} (hi : xs[i]? = some a) (h : f y = f a) : (xs.set i y).map f = xs.map f := by
  rw [List.map_set, h]
  apply List.ext_getElem?
  intro j
  rw [List.getElem?_set]
  by_cases hj : i = j
  · subst hj
    have hlt : i < xs.length := (List.getElem?_eq_some_iff.1 hi).1
    rw [if_pos rfl, if_pos (by simpa using hlt), List.getElem?_map, hi]
    rfl
  · rw [if_neg hj]
def RtSet (W w' : World) (M : Nat) (v1 v2 v3 : Value) (xs : List Ac) : Prop := Rt w' M v1 v2 v3 xs ∧ Frm (fun k => v1.ownBlock = some k ∨ v2.ownBlock = some k ∨ v3.ownBlock = some k) W w'
theorem RtSet.refl {W : World} {M : Nat} {v1 v2 v3 : Value} {xs : List Ac} (h : Rt W M v1 v2 v3 xs) : RtSet W W M v1 v2 v3 xs := ⟨h, Frm.refl _ _⟩
theorem RtSet.s0 {W w : World} {M g n c : Nat} {v2 v3 : Value} {xs : List Ac} (h : RtSet W w M (.slice (some ⟨g, 0, none⟩) n c) v2 v3 xs) {i : Nat} {a : Ac} (hi : xs[i]? = some a) (x : Int) :
    RtSet W (w.setCell ⟨g, i, none⟩ (.int .i64 x)) M (.slice (some ⟨g, 0, none⟩) n c) v2 v3 (xs.set i (x, a.2.1, a.2.2)) := by
  obtain ⟨⟨h0, r1, r2, r3, hd⟩, hf⟩ := h
  obtain rfl : n = xs.length := by
    rcases r1.2 with ⟨h', _⟩ | ⟨g', cap', cur, h', _⟩
    · simp at h'
    · simp only [Value.slice.injEq] at h'; exact h'.2.1
  obtain ⟨s1, s2⟩ := r1.stored i (.int .i64 x)
  have hF := Frm.of_grown s2
  have hgM : g ≠ M := fun e => row_ne r1 h0 (by decide) (by simp [Value.ownBlock, e])
  refine ⟨⟨hF.obj h0 (by simp; omega), ?_, ?_, ?_, hd⟩, hf.setCell (p := ⟨g, i, none⟩) (.inl rfl) _⟩
  · rw [List.length_set]; unfold sts; rw [List.map_set]; exact s1
  · rw [List.length_set]
    have : tks (xs.set i (x, a.2.1, a.2.2)) = tks xs := map_set_same _ hi rfl
    rw [this]
    exact hF.row r2 fun k hk e => by simp at e; subst e; exact rows_neA r1 r2 (by decide) hk rfl
  · rw [List.length_set]
    have : wks5 (xs.set i (x, a.2.1, a.2.2)) = wks5 xs := map_set_same _ hi rfl
    rw [this]
    exact hF.row r3 fun k hk e => by simp at e; subst e; exact hd g rfl hk
theorem RtSet.s1 {W w : World} {M g n c : Nat} {v1 v3 : Value} {xs : List Ac} (h : RtSet W w M v1 (.slice (some ⟨g, 0, none⟩) n c) v3 xs) {i : Nat} {a : Ac} (hi : xs[i]? = some a) (x : Bool) :
    RtSet W (w.setCell ⟨g, i, none⟩ (.bool x)) M v1 (.slice (some ⟨g, 0, none⟩) n c) v3 (xs.set i (a.1, x, a.2.2)) := by
  obtain ⟨⟨h0, r1, r2, r3, hd⟩, hf⟩ := h
  obtain rfl : n = xs.length := by
    rcases r2.2 with ⟨h', _⟩ | ⟨g', cap', cur, h', _⟩
    · simp at h'
    · simp only [Value.slice.injEq] at h'; exact h'.2.1
  obtain ⟨s1, s2⟩ := r2.stored i (.bool x)
  have hF := Frm.of_grown s2
  have hgM : g ≠ M := fun e => row_ne r2 h0 (by decide) (by simp [Value.ownBlock, e])
  refine ⟨⟨hF.obj h0 (by simp; omega), ?_, ?_, ?_, hd⟩, hf.setCell (p := ⟨g, i, none⟩) (.inr (.inl rfl)) _⟩
  · rw [List.length_set]
    have : sts (xs.set i (a.1, x, a.2.2)) = sts xs := map_set_same _ hi rfl
    rw [this]
    exact hF.row r1 fun k hk e => by simp at e; subst e; exact rows_neA r2 r1 (by decide) hk rfl
  · rw [List.length_set]; unfold tks; rw [List.map_set]; exact s1
  · rw [List.length_set]
    have : wks5 (xs.set i (a.1, x, a.2.2)) = wks5 xs := map_set_same _ hi rfl
    rw [this]
    exact hF.row r3 fun k hk e => by simp at e; subst e; exact rows_neA r2 r3 (by decide) hk rfl
theorem RtSet.s2 {W w : World} {M g n c : Nat} {v1 v2 : Value} {xs : List Ac} (h : RtSet W w M v1 v2 (.slice (some ⟨g, 0, none⟩) n c) xs) {i : Nat} {a : Ac} (hi : xs[i]? = some a) (x : Int) :
    RtSet W (w.setCell ⟨g, i, none⟩ (.int .i64 x)) M v1 v2 (.slice (some ⟨g, 0, none⟩) n c) (xs.set i (a.1, a.2.1, x)) := by
  obtain ⟨⟨h0, r1, r2, r3, hd⟩, hf⟩ := h
  obtain rfl : n = xs.length := by
    rcases r3.2 with ⟨h', _⟩ | ⟨g', cap', cur, h', _⟩
    · simp at h'
    · simp only [Value.slice.injEq] at h'; exact h'.2.1
  obtain ⟨s1, s2⟩ := r3.stored i (.int .i64 x)
  have hF := Frm.of_grown s2
  have hgM : g ≠ M := fun e => row_ne r3 h0 (by decide) (by simp [Value.ownBlock, e])
  refine ⟨⟨hF.obj h0 (by simp; omega), ?_, ?_, ?_, hd⟩, hf.setCell (p := ⟨g, i, none⟩) (.inr (.inr rfl)) _⟩
  · rw [List.length_set]
    have : sts (xs.set i (a.1, a.2.1, x)) = sts xs := map_set_same _ hi rfl
    rw [this]
    exact hF.row r1 fun k hk e => by simp at e; subst e; exact hd g hk rfl
  · rw [List.length_set]
    have : tks (xs.set i (a.1, a.2.1, x)) = tks xs := map_set_same _ hi rfl
    rw [this]
    exact hF.row r2 fun k hk e => by simp at e; subst e; exact rows_neA r3 r2 (by decide) hk rfl
  · rw [List.length_set]; unfold wks5; rw [List.map_set]; exact s1
theorem r5wrong_bad (W : World) (M : Nat) (v1 v2 v3 : Value) (xs : List Ac) (id n : Int) (h : Rt W M v1 v2 v3 xs) (hw : Wr xs id n) :
    Calls Tryz.prog 140 #[.pointer (some ⟨M, 0, none⟩), .int .i64 id] W fun e w' => e = .returned (.int .i64 n) ∧ W = w' := by
  have c0 := h.c.1
  rcases hw with ⟨rfl, hw⟩ | ⟨rfl, i, a, rfl, hi, ha⟩
  · obtain ⟨p, c, rfl, hc⟩ := row_form h.2.1
    clear hc h
    by_cases h1 : id < 0
    · clear hw
      have d1 : decide (id < 0) = true := decide_eq_true h1
      go_enter Tryz.func140, Tryz.ntmps140
      go_wp2
      go_ret
      exact ⟨rfl, rfl⟩
    · have h2 := hw.resolve_left h1
      clear hw
      have d1 : decide (id < 0) = false := decide_eq_false h1
      have d2 : decide ((xs.length : Int) ≤ id) = true := decide_eq_true h2
      go_enter Tryz.func140, Tryz.ntmps140
      go_wp2
      go_ret
      exact ⟨rfl, rfl⟩
  · obtain ⟨g1, c1, g2, c2, g3, c3, rfl, rfl, rfl, hlt, hm, k1, k2, k3, f1, f2, f3⟩ := h.at hi
    obtain ⟨st, tok, wk⟩ := a
    obtain rfl : st = 2 := ha
    simp only at k1
    clear h hi k2 k3 f1 f2 f3
    have d1 : decide ((i : Int) < 0) = false := decide_eq_false (by omega)
    have d2 : decide ((xs.length : Int) ≤ (i : Int)) = false := decide_eq_false (by omega)
    go_enter Tryz.func140, Tryz.ntmps140
    go_wp2
    go_ret
    exact ⟨rfl, rfl⟩
theorem r5wrong_ok (W : World) (M : Nat) (v1 v2 v3 : Value) (xs : List Ac) (i : Nat) (a : Ac) (h : Rt W M v1 v2 v3 xs) (hi : xs[i]? = some a) (hs : a.1 ≠ 2) :
    Calls Tryz.prog 140 #[.pointer (some ⟨M, 0, none⟩), .int .i64 i] W fun e w' => e = .returned (.int .i64 0) ∧ W = w' := by
  have c0 := h.c.1
  obtain ⟨g1, c1, g2, c2, g3, c3, rfl, rfl, rfl, hlt, hm, k1, k2, k3, f1, f2, f3⟩ := h.at hi
  obtain ⟨st, tok, wk⟩ := a
  simp only at k1 hs
  clear h hi k2 k3 f1 f2 f3
  have d1 : decide ((i : Int) < 0) = false := decide_eq_false (by omega)
  have d2 : decide ((xs.length : Int) ≤ (i : Int)) = false := decide_eq_false (by omega)
  have d3 : (st == 2) = false := by simp [hs]
  go_enter Tryz.func140, Tryz.ntmps140
  go_wp2
  go_ret
  exact ⟨rfl, rfl⟩
theorem r5wake_bad (W : World) (M : Nat) (v1 v2 v3 : Value) (xs : List Ac) (id n : Int) (h : Rt W M v1 v2 v3 xs) (hw : Wr xs id n) (hn : n ≠ 0) :
    Calls Tryz.prog 108 #[.pointer (some ⟨M, 0, none⟩), .int .i64 id] W fun e w' => e = .returned (.tuple #[.bool false, .int .i64 n]) ∧ W = w' := by
  have d : (n == 0) = false := by simp [hn]
  go_enter Tryz.func108, Tryz.ntmps108
  go_wp2_with (go_at_call 140; refine (r5wrong_bad _ _ _ _ _ _ _ n h hw).mono ?_; rintro e w' ⟨rfl, rfl⟩)
  go_ret2
  exact ⟨rfl, rfl⟩
theorem r5park_ok (W : World) (M : Nat) (v1 v2 v3 : Value) (xs : List Ac) (i : Nat) (a : Ac) (h : Rt W M v1 v2 v3 xs) (hi : xs[i]? = some a) (hs : a.1 ≠ 2) :
    Calls Tryz.prog 105 #[.pointer (some ⟨M, 0, none⟩), .int .i64 i] W fun e w' => e = .returned (.tuple #[.bool (!a.2.1), .int .i64 0]) ∧ RtSet W w' M v1 v2 v3 (xs.set i (parkS a)) := by
  have HR := Lib.hid (RtSet.refl h)
  have HH := Lib.hid h
  have HI := Lib.hid hi
  have HS := Lib.hid hs
  obtain ⟨m0, m1, m2, e0, e1, e2⟩ := h.c
  obtain ⟨g1, c1, g2, c2, g3, c3, rfl, rfl, rfl, hlt, hm, k1, k2, k3, f1, f2, f3⟩ := h.at hi
  obtain ⟨st, tok, wk⟩ := a
  simp only at k1 k2 k3
  clear h hi hs
  cases tok
  · go_enter Tryz.func105, Tryz.ntmps105
    go_wp2_with (go_at_call 140; refine (r5wrong_ok _ _ _ _ _ _ _ _ HH.out HI.out HS.out).mono ?_; rintro e w' ⟨rfl, rfl⟩)
    go_ret2
    exact ⟨rfl, HR.out.s0 HI.out 1⟩
  · go_enter Tryz.func105, Tryz.ntmps105
    go_wp2_with (go_at_call 140; refine (r5wrong_ok _ _ _ _ _ _ _ _ HH.out HI.out HS.out).mono ?_; rintro e w' ⟨rfl, rfl⟩)
    go_ret2
    exact ⟨rfl, HR.out.s1 HI.out false⟩
theorem Rt.ne {W : World} {M : Nat} {g1 n1 c1 g2 n2 c2 g3 n3 c3 : Nat} {xs : List Ac} (h : Rt W M (.slice (some ⟨g1, 0, none⟩) n1 c1) (.slice (some ⟨g2, 0, none⟩) n2 c2) (.slice (some ⟨g3, 0, none⟩) n3 c3) xs) :
    g1 ≠ g2 ∧ g1 ≠ g3 ∧ g2 ≠ g3 ∧ g1 ≠ M ∧ g2 ≠ M ∧ g3 ≠ M :=
  ⟨fun e => rows_neA h.2.1 h.2.2.1 (by decide) (g := g2) rfl (by simp [Value.ownBlock, e]), fun e => h.2.2.2.2 g1 rfl (by simp [Value.ownBlock, e]), fun e => rows_neA h.2.2.1 h.2.2.2.1 (by decide) (g := g3) rfl (by simp [Value.ownBlock, e]),
    fun e => h.ne1 (by simp [Value.ownBlock, e]), fun e => h.ne2 (by simp [Value.ownBlock, e]), fun e => h.ne3 (by simp [Value.ownBlock, e])⟩
theorem r5wake_ok (W : World) (M : Nat) (v1 v2 v3 : Value) (xs : List Ac) (i : Nat) (a : Ac) (h : Rt W M v1 v2 v3 xs) (hi : xs[i]? = some a) (hs : a.1 ≠ 2) (h0 : 0 ≤ a.2.2) (h1 : a.2.2 < 4611686018427387904) :
    Calls Tryz.prog 108 #[.pointer (some ⟨M, 0, none⟩), .int .i64 i] W fun e w' => e = .returned (.tuple #[.bool (a.1 == 1), .int .i64 0]) ∧ RtSet W w' M v1 v2 v3 (xs.set i (wakeS a)) := by
  have HR := Lib.hid (RtSet.refl h)
  have HH := Lib.hid h
  have HI := Lib.hid hi
  have HS := Lib.hid hs
  obtain ⟨m0, m1, m2, e0, e1, e2⟩ := h.c
  obtain ⟨g1, c1, g2, c2, g3, c3, rfl, rfl, rfl, hlt, hm, k1, k2, k3, f1, f2, f3⟩ := h.at hi
  obtain ⟨n12, n13, n23, nM1, nM2, nM3⟩ := Rt.ne h
  obtain ⟨st, tok, wk⟩ := a
  simp only at k1 k2 k3 h0 h1
  clear h hi hs
  by_cases h2 : st = 1
  · subst h2
    go_enter Tryz.func108, Tryz.ntmps108
    go_wp2_with (go_at_call 140; refine (r5wrong_ok _ _ _ _ _ _ _ _ HH.out HI.out HS.out).mono ?_; rintro e w' ⟨rfl, rfl⟩)
    go_ret2
    refine ⟨rfl, ?_⟩
    have := (HR.out.s2 HI.out (wk + 1)).s0 (set_at HI.out) 0
    rw [List.set_set] at this
    exact this
  · have d2 : (st == 1) = false := by simp [h2]
    go_enter Tryz.func108, Tryz.ntmps108
    go_wp2_with (go_at_call 140; refine (r5wrong_ok _ _ _ _ _ _ _ _ HH.out HI.out HS.out).mono ?_; rintro e w' ⟨rfl, rfl⟩)
    go_ret2
    refine ⟨by simp [d2], ?_⟩
    have := (HR.out.s2 HI.out (wk + 1)).s1 (set_at HI.out) true
    rw [List.set_set] at this
    have e : wakeS (st, tok, wk) = (st, true, wk + 1) := by unfold wakeS; rw [if_neg h2]
    rw [e]
    exact this
end Go.Proofs.YtdfcfdcekdmcmaaGreat
