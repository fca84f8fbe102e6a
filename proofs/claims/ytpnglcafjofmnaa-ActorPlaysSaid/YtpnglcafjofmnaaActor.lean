/-
  A table of actors xs a row of three cells each; its stores; New, Add, live and look by contract. Conditions: the table's row is its own.
-/
import Derived.Test.YtpnglcafjofmnaaErr
import Derived.Test.YtpnglcafjofmnaaMem2
import Derived.OwnWalk
import Derived.Outline
namespace Go.Proofs.Ytpnglcafjofmnaa
open Go.RowKit

abbrev Ac := Int × Bool × Int
/-- Actors xs cells. -/
def flat3 (xs : List Ac) : List Value := xs.flatMap fun a => [.int .i64 a.1, .bool a.2.1, .int .i64 a.2.2]
theorem flat3_len (xs : List Ac) : (flat3 xs).length = xs.length * 3 := by
  unfold flat3
  induction xs with
  | nil => rfl
  | cons t l ih => simp only [List.flatMap_cons, List.length_append, ih, List.length_cons, List.length_nil]; omega
theorem flat3_append (a b : List Ac) : flat3 (a ++ b) = flat3 a ++ flat3 b := by unfold flat3; rw [List.flatMap_append]
theorem flat3_one (a : Ac) : flat3 [a] = [.int .i64 a.1, .bool a.2.1, .int .i64 a.2.2] := rfl
theorem flat3_cons (a : Ac) (l : List Ac) : flat3 (a :: l) = .int .i64 a.1 :: .bool a.2.1 :: .int .i64 a.2.2 :: flat3 l := rfl
theorem flat3_split {xs : List Ac} {k : Nat} {a : Ac} (h : xs[k]? = some a) : flat3 xs = flat3 (xs.take k) ++ (.int .i64 a.1 :: .bool a.2.1 :: .int .i64 a.2.2 :: flat3 (xs.drop (k + 1))) ∧ (flat3 (xs.take k)).length = k * 3 ∧ k < xs.length := by
  obtain ⟨hk, rfl⟩ := List.getElem?_eq_some_iff.1 h
  refine ⟨?_, by rw [flat3_len, List.length_take]; omega, hk⟩
  rw [← flat3_cons, ← flat3_append, ← List.drop_eq_getElem_cons hk, List.take_append_drop]
theorem flat3_get {xs : List Ac} {k : Nat} {a : Ac} (h : xs[k]? = some a) : (flat3 xs)[k * 3]? = some (.int .i64 a.1) ∧ (flat3 xs)[k * 3 + 1]? = some (.bool a.2.1) ∧ (flat3 xs)[k * 3 + 2]? = some (.int .i64 a.2.2) := by
  obtain ⟨h1, h2, h3⟩ := flat3_split h
  rw [h1]
  refine ⟨?_, ?_, ?_⟩ <;> (rw [List.getElem?_append_right (by omega), h2]; simp)
theorem set_split {xs : List Ac} {k : Nat} (h : k < xs.length) (b : Ac) : flat3 (xs.set k b) = flat3 (xs.take k) ++ (.int .i64 b.1 :: .bool b.2.1 :: .int .i64 b.2.2 :: flat3 (xs.drop (k + 1))) := by
  rw [List.set_eq_take_append_cons_drop, if_pos h, flat3_append, flat3_cons]
theorem flat3_set0 {xs : List Ac} {k : Nat} {a : Ac} (h : xs[k]? = some a) (x : Int) : (flat3 xs).set (k * 3) (.int .i64 x) = flat3 (xs.set k (x, a.2.1, a.2.2)) := by
  obtain ⟨h1, h2, h3⟩ := flat3_split h
  rw [set_split h3, h1, List.set_append_right _ _ (by omega), h2]
  simp
theorem flat3_set1 {xs : List Ac} {k : Nat} {a : Ac} (h : xs[k]? = some a) (x : Bool) : (flat3 xs).set (k * 3 + 1) (.bool x) = flat3 (xs.set k (a.1, x, a.2.2)) := by
  obtain ⟨h1, h2, h3⟩ := flat3_split h
  rw [set_split h3, h1, List.set_append_right _ _ (by omega), h2]
  simp
theorem flat3_set2 {xs : List Ac} {k : Nat} {a : Ac} (h : xs[k]? = some a) (x : Int) : (flat3 xs).set (k * 3 + 2) (.int .i64 x) = flat3 (xs.set k (a.1, a.2.1, x)) := by
  obtain ⟨h1, h2, h3⟩ := flat3_split h
  rw [set_split h3, h1, List.set_append_right _ _ (by omega), h2]
  simp

/-- A table in a block. -/
def Tb (W : World) (b : Nat) (v : Value) (xs : List Ac) : Prop :=
  W.heap[b]? = some (.cells #[v] 124 (0, 0)) ∧ W.ownsRow 0 126 3 v xs.length (flat3 xs)
theorem Tb.c0 {W : World} {b : Nat} {v : Value} {xs : List Ac} (h : Tb W b v xs) : W.cell? ⟨b, 0, none⟩ = some v := (obj_cell h.1 0).trans rfl
theorem Tb.f {W : World} {b : Nat} {v : Value} {xs : List Ac} (h : Tb W b v xs) (i : Nat) : W.frozen? ⟨b, i, none⟩ = false := obj_free h.1 i
theorem Tb.ne {W : World} {b : Nat} {v : Value} {xs : List Ac} (h : Tb W b v xs) : v.ownBlock ≠ some b := row_ne h.2 h.1 (by decide)
theorem Tb.keep {S : Nat → Prop} {W w' : World} {b : Nat} {v : Value} {xs : List Ac} (h : Tb W b v xs) (hf : Frm S W w') (hb : ¬ S b) (hr : ∀ g, v.ownBlock = some g → ¬ S g) : Tb w' b v xs :=
  ⟨hf.obj h.1 hb, hf.row h.2 hr⟩
theorem Tb.keepB {W w' : World} {b : Nat} {v : Value} {xs : List Ac} (h : Tb W b v xs) (hf : Below W.heap.size W w') : Tb w' b v xs :=
  h.keep (Frm.of_below hf fun _ => False) id fun _ _ => id
theorem Tb.start (W : World) : Tb (W.alloc (.cells #[.slice none 0 0] 124)) W.heap.size (.slice none 0 0) [] := ⟨obj_new _ _, World.ownsRow_nil _ _ _ _⟩

/-- Where an actor's cells lie. -/
theorem Tb.at {W : World} {b : Nat} {v : Value} {xs : List Ac} (h : Tb W b v xs) {i : Nat} {a : Ac} (hi : xs[i]? = some a) :
    ∃ g c, v = .slice (some ⟨g, 0, none⟩) xs.length c ∧ xs.length ≤ c ∧ c ≤ maxLen ∧ i < xs.length ∧ W.cell? ⟨g, i * 3, none⟩ = some (.int .i64 a.1) ∧ W.cell? ⟨g, i * 3 + 1, none⟩ = some (.bool a.2.1) ∧ W.cell? ⟨g, i * 3 + 2, none⟩ = some (.int .i64 a.2.2) ∧ ∀ j, W.frozen? ⟨g, j, none⟩ = false := by
  have hlt : i < xs.length := (List.getElem?_eq_some_iff.1 hi).1
  obtain ⟨f0, f1, f2⟩ := flat3_get hi
  rcases h.2.2 with ⟨_, h0⟩ | ⟨g, cap, cur, rfl, _, _, hc, hcm, _⟩
  · omega
  · exact ⟨g, cap, rfl, hc, hcm, hlt, (h.2.cellAt (i * 3) (by omega)).trans f0, (h.2.cellAt (i * 3 + 1) (by omega)).trans f1, (h.2.cellAt (i * 3 + 2) (by omega)).trans f2, fun j => h.2.frozenAt j⟩

/-- The row's actors set, nothing else. -/
def TbSet (W w' : World) (b : Nat) (v : Value) (xs : List Ac) : Prop := Tb w' b v xs ∧ Frm (fun k => v.ownBlock = some k) W w'
theorem TbSet.refl {W : World} {b : Nat} {v : Value} {xs : List Ac} (h : Tb W b v xs) : TbSet W W b v xs := ⟨h, Frm.refl _ _⟩
theorem TbSet.raw {W w : World} {b : Nat} {g n c : Nat} {xs xs' : List Ac} (h : TbSet W w b (.slice (some ⟨g, 0, none⟩) n c) xs) (hl : xs'.length = xs.length) (j : Nat) (u : Value) (he : (flat3 xs).set j u = flat3 xs') :
    TbSet W (w.setCell ⟨g, j, none⟩ u) b (.slice (some ⟨g, 0, none⟩) n c) xs' := by
  obtain ⟨⟨h1, h2⟩, h3⟩ := h
  have hn : n = xs.length := by
    rcases h2.2 with ⟨h', _⟩ | ⟨g', cap', cur, h', _⟩
    · simp at h'
    · simp only [Value.slice.injEq] at h'; exact h'.2.1
  subst hn
  have hgb : g ≠ b := fun e => row_ne h2 h1 (by decide) (by simp [Value.ownBlock, e])
  obtain ⟨s1, s2⟩ := h2.stored j u
  refine ⟨⟨(Frm.of_grown s2).obj h1 (by simp; omega), ?_⟩, h3.setCell (p := ⟨g, j, none⟩) rfl _⟩
  rw [he] at s1
  rw [hl]
  exact s1
theorem TbSet.s0 {W w : World} {b g n c : Nat} {xs : List Ac} (h : TbSet W w b (.slice (some ⟨g, 0, none⟩) n c) xs) {i : Nat} {a : Ac} (hi : xs[i]? = some a) (x : Int) :
    TbSet W (w.setCell ⟨g, i * 3, none⟩ (.int .i64 x)) b (.slice (some ⟨g, 0, none⟩) n c) (xs.set i (x, a.2.1, a.2.2)) := h.raw (by simp) _ _ (flat3_set0 hi x)
theorem TbSet.s1 {W w : World} {b g n c : Nat} {xs : List Ac} (h : TbSet W w b (.slice (some ⟨g, 0, none⟩) n c) xs) {i : Nat} {a : Ac} (hi : xs[i]? = some a) (x : Bool) :
    TbSet W (w.setCell ⟨g, i * 3 + 1, none⟩ (.bool x)) b (.slice (some ⟨g, 0, none⟩) n c) (xs.set i (a.1, x, a.2.2)) := h.raw (by simp) _ _ (flat3_set1 hi x)
theorem TbSet.s2 {W w : World} {b g n c : Nat} {xs : List Ac} (h : TbSet W w b (.slice (some ⟨g, 0, none⟩) n c) xs) {i : Nat} {a : Ac} (hi : xs[i]? = some a) (x : Int) :
    TbSet W (w.setCell ⟨g, i * 3 + 2, none⟩ (.int .i64 x)) b (.slice (some ⟨g, 0, none⟩) n c) (xs.set i (a.1, a.2.1, x)) := h.raw (by simp) _ _ (flat3_set2 hi x)

/-- A refusal. -/
theorem ferr {W w' : World} {op id : Value} {n : Int} (h : W.alloc (.cells #[op, id, .iface 113 (.int .i64 n)] 133) = w') (hop : ∃ s, op = .string s := by exact ⟨_, rfl⟩) (hid : ∃ i, id = .int .i64 i := by exact ⟨_, rfl⟩) :
    Chain w' (.iface 131 (.pointer (some ⟨W.heap.size, 0, none⟩))) 1 n ∧ Below W.heap.size W w' := by
  obtain ⟨s, rfl⟩ := hop
  obtain ⟨i, rfl⟩ := hid
  subst h
  exact ⟨.fault _ _ _ _ _ _ (obj_new _ _) (.num n), (Below.refl _ _).alloc (Nat.le_refl _) _⟩

theorem tnew (W : World) : Calls Try.prog 35 #[] W fun e w' => e = .returned (.pointer (some ⟨W.heap.size, 0, none⟩)) ∧ W.alloc (.cells #[.slice none 0 0] 124) = w' := by
  go_enter Try.func35, Try.ntmps35
  go_wp2
  go_ret
  exact ⟨rfl, rfl⟩

theorem three_cell (w : World) (x y z : Value) (t : TypeId) : ∀ j u, [x, y, z][j]? = some u → (w.alloc (.cells #[x, y, z] t)).cell? ((⟨w.heap.size, 0, none⟩ : Addr).add j) = some u := by
  intro j u hu
  rw [Addr.add_lit]
  rcases j with _ | _ | _ | j
  · simp at hu; subst hu; rw [obj_cell (obj_new w _)]; rfl
  · simp at hu; subst hu; rw [obj_cell (obj_new w _)]; rfl
  · simp at hu; subst hu; rw [obj_cell (obj_new w _)]; rfl
  · simp at hu
theorem infoAc : (Try.prog.info? 126).map (fun i => (i.zero, i.size, i.bytes)) = some (some (.agg #[.int .i64 0, .bool false, .int .i64 0]), 3, 24) := by kernel_rfl
theorem infoAI : (Try.prog.info? 3).map (fun i => (i.zero, i.size, i.bytes)) = some (some (.int .i64 0), 1, 8) := by kernel_rfl
theorem infoAB : (Try.prog.info? 4).map (fun i => (i.zero, i.size, i.bytes)) = some (some (.bool false), 1, 1) := by kernel_rfl

/-- A step of a table. -/
def TbStep (W w' : World) (b : Nat) (v : Value) (xs : List Ac) : Prop :=
  ∃ v', Tb w' b v' xs ∧ Frm (fun k => k = b ∨ v.ownBlock = some k) W w' ∧ (v'.ownBlock = v.ownBlock ∨ ∀ g, v'.ownBlock = some g → W.heap.size ≤ g)
theorem TbSet.step {W w' : World} {b : Nat} {v : Value} {xs : List Ac} (h : TbSet W w' b v xs) : TbStep W w' b v xs := ⟨v, h.1, h.2.mono fun _ _ => .inr, .inl rfl⟩

theorem tadd_end {W w' : World} {b : Nat} {v v' : Value} {xs : List Ac} {o : Obj} (h : Tb W b v xs)
    (hown : w'.ownsRow 0 126 3 v' (xs.length + 1) (flat3 xs ++ [.int .i64 0, .bool false, .int .i64 0])) (hf : Frm (fun k => v.ownBlock = some k) (W.alloc o) w') (hv : v'.ownBlock = v.ownBlock ∨ ∀ g, v'.ownBlock = some g → (W.alloc o).heap.size ≤ g) :
    TbStep W (w'.setCell ⟨b, 0, none⟩ v') b v (xs ++ [(0, false, 0)]) := by
  have hob : w'.heap[b]? = some (.cells #[v] 124 (0, 0)) := hf.obj (obj_old _ h.1) h.ne
  have hb' : v'.ownBlock ≠ some b := row_ne hown hob (by decide)
  have h1 : Frm (fun k => k = b ∨ v.ownBlock = some k) W w' := ((Frm.refl _ W).alloc _).then hf fun k _ h => .inr h
  refine ⟨v', ⟨obj_setCell _ hob, ?_⟩, h1.setCell (p := ⟨b, 0, none⟩) (.inl rfl) _, ?_⟩
  · rw [flat3_append, flat3_one, List.length_append]
    exact ownsRow_setCell_other hown (a := ⟨b, 0, none⟩) hb' v'
  · rcases hv with hv | hv
    · exact .inl hv
    · exact .inr fun g hg => by have := hv g hg; simp at this; omega

set_option maxRecDepth 100000 in
set_option maxHeartbeats 400000 in
theorem tadd_some (W : World) (b : Nat) (v : Value) (xs : List Ac) (h : Tb W b v xs) (hl : (xs.length : Int) < 64) :
    Calls Try.prog 36 #[.pointer (some ⟨b, 0, none⟩)] W fun e w' => e = .returned (.tuple #[.int .i64 xs.length, .nilIface]) ∧ TbStep W w' b v (xs ++ [(0, false, 0)]) := by
  obtain ⟨i0, hi, hz0, hz1, hz2⟩ := info_parts infoAc
  have c0 := h.c0
  have H := Lib.hid h
  obtain ⟨p, c, rfl, hc⟩ := row_form h.2
  clear hc
  have hB : decide ((64 : Int) ≤ (xs.length : Int)) = false := by rw [decide_eq_false_iff_not]; omega
  have HB := Lib.hid hl
  clear h hl
  go_enter Try.func36, Try.ntmps36
  go_wp2_with (at_builtin; refine wpList_append_row rfl _ _ 122 rfl 126 i0 (.agg #[.int .i64 0, .bool false, .int .i64 0]) 3 24 Try.underlying122 hi hz0 hz1 hz2 rfl (by decide) (.slice p xs.length c) xs.length _ rfl (H.out.2.alloc _) ⟨W.heap.size, 0, none⟩ 1 1 [.int .i64 0, .bool false, .int .i64 0] rfl rfl (three_cell _ _ _ _ _) (fun x hx => by simp at hx; rcases hx with rfl | rfl | rfl <;> rfl) (by have := HB.out; unfold maxLen; omega) (by have := HB.out; omega) ?_; intro v' w3 hown3 hf3 hv3; have hob := hf3.obj (obj_old _ H.out.1) H.out.ne; have hcc : w3.cell? ⟨b, 0, none⟩ = some (.slice p xs.length c) := by { rw [obj_cell hob]; rfl }; have hff := obj_free hob 0; have HE := Lib.hid (tadd_end H.out hown3 hf3 hv3); obtain ⟨p', c', rfl, hc'⟩ := row_form hown3; clear hob hown3 hf3 hv3 hc')
  go_ret2
  exact ⟨rfl, HE.out⟩

theorem tadd_many (W : World) (b : Nat) (v : Value) (xs : List Ac) (h : Tb W b v xs) (hl : 64 ≤ (xs.length : Int)) :
    Calls Try.prog 36 #[.pointer (some ⟨b, 0, none⟩)] W fun e w' => ∃ q, e = .returned (.tuple #[.int .i64 0, .iface 131 (.pointer (some ⟨q, 0, none⟩))]) ∧ Chain w' (.iface 131 (.pointer (some ⟨q, 0, none⟩))) 1 8 ∧ Below W.heap.size W w' := by
  have c0 := h.c0
  obtain ⟨p, c, rfl, hc⟩ := row_form h.2
  clear hc h
  have hB : decide ((64 : Int) ≤ (xs.length : Int)) = true := decide_eq_true hl
  go_enter Try.func36, Try.ntmps36
  go_wp2_with (go_at_call 57; refine (wrap_iface _ _ _ _).mono ?_; rintro e w' ⟨rfl, hw⟩; obtain ⟨hch, hbb⟩ := ferr hw; clear hw)
  go_ret2
  exact ⟨_, rfl, hch, hbb⟩
end Go.Proofs.Ytpnglcafjofmnaa
