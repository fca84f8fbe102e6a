/-
  A table of actors beside an arena; a room's Join by contract. Conditions: the cells are few.
-/
import Derived.Test.YtndmhnakfhofpaaRo5
import Derived.Test.YtndmhnakfhofpaaLongs
namespace Go.Proofs.Ytndmhnakfhofpaa
open Go.RowKit
set_option linter.unusedVariables false

/-- A table that isn't the rest's. -/
def Rest.tbl (R : Rest) (B t : Nat) (tv : Value) (acts : List Ac) : Rest :=
  ⟨fun k => R.prot k ∨ (k = t ∨ tv.ownBlock = some k), fun w => R.inv w ∧ Tb w t tv acts ∧ (B ≤ t ∧ ∀ g, tv.ownBlock = some g → B ≤ g) ∧ ∀ k, R.prot k → ¬ (k = t ∨ tv.ownBlock = some k), fun w w' h hk => by
    refine ⟨R.ok _ _ h.1 fun k h => hk k (.inl h), ⟨(hk t (.inr (.inl rfl))).trans h.2.1.1, ?_⟩, h.2.2⟩
    obtain ⟨h1, h2⟩ := h.2.1.2
    refine ⟨h1, ?_⟩
    rcases h2 with h2 | ⟨g, cap, cur, rfl, hg, hh, r⟩
    · exact .inl h2
    · exact .inr ⟨g, cap, cur, rfl, hg, (hk g (.inr (.inr (by simp [Value.ownBlock])))).trans hh, r⟩⟩
section
variable {R : Rest} {W0 W w : World} {b t : Nat} {cs : List Int} {st : Int} {tv : Value} {acts acts' : List Ac} {T U : TypeId} {z n m : Nat} {v u : Value} {xs ys : List Value}
theorem Mv.tbIs (h : Mv (R.tbl W0.heap.size t tv acts) W0 W b cs st) : Tb W t tv acts := h.inv.2.1
/-- The table does a step. -/
theorem Mv.tbStep (h : Mv (R.tbl W0.heap.size t tv acts) W0 W b cs st) (hs : TbStep W w t tv acts') : ∃ tv', Mv (R.tbl W0.heap.size t tv' acts') W0 w b cs st := by
  obtain ⟨tv', k1, k2, k3⟩ := hs
  obtain ⟨i1, i2, ⟨i3, i4⟩, i5⟩ := h.inv
  have h0 := h.below.size
  have hlow : ∀ g, tv'.ownBlock = some g → W0.heap.size ≤ g := fun g hg => by
    rcases k3 with k3 | k3
    · exact i4 g (k3 ▸ hg)
    · exact Nat.le_trans h0 (k3 g hg)
  refine ⟨tv', h.turn2 k2 (fun g hg => ⟨?_, .inr hg⟩) (fun g hg => ?_) ⟨R.ok _ _ i1 fun k hk => k2.block k (h.prot_lt (.inl hk)) (i5 k hk), k1, ⟨i3, hlow⟩, fun k hk e => ?_⟩⟩
  · rcases hg with rfl | hg
    · exact i3
    · exact i4 g hg
  · rcases hg with hg | rfl | hg
    · exact .inl (.inl hg)
    · exact .inl (.inr (.inl rfl))
    · rcases k3 with k3 | k3
      · exact .inl (.inr (.inr (k3 ▸ hg)))
      · exact .inr ⟨k3 g hg, row_lt k1.2 hg⟩
  · rcases e with e | e
    · exact i5 k hk (.inl e)
    · rcases k3 with k3 | k3
      · exact i5 k hk (.inr (k3 ▸ e))
      · have := k3 k e
        have := h.prot_lt (k := k) (.inl hk)
        omega
/-- The table and a row, the one or the other outmost. -/
theorem Mv.tbOut (h : Mv ((R.tbl W0.heap.size t tv acts).row W0.heap.size T z v n xs) W0 W b cs st) : Mv ((R.row W0.heap.size T z v n xs).tbl W0.heap.size t tv acts) W0 W b cs st := by
  obtain ⟨⟨i1, i2, i3, i4⟩, i5, i6⟩ := h.inv
  refine h.less (fun g hg => ?_) ⟨⟨i1, i5, fun k hk => i6 k (.inl hk)⟩, i2, i3, fun k hk e => ?_⟩
  · rcases hg with (hg | hg) | hg
    · exact .inl (.inl hg)
    · exact .inr hg
    · exact .inl (.inr hg)
  · rcases hk with hk | hk
    · exact i4 k hk e
    · exact i6 k (.inr e) hk
theorem Mv.tbIn (h : Mv ((R.row W0.heap.size T z v n xs).tbl W0.heap.size t tv acts) W0 W b cs st) : Mv ((R.tbl W0.heap.size t tv acts).row W0.heap.size T z v n xs) W0 W b cs st := by
  obtain ⟨⟨i1, i5, i6⟩, i2, i3, i4⟩ := h.inv
  refine h.less (fun g hg => ?_) ⟨⟨i1, i2, i3, fun k hk => i4 k (.inl hk)⟩, i5, fun k hk e => ?_⟩
  · rcases hg with (hg | hg) | hg
    · exact .inl (.inl hg)
    · exact .inr hg
    · exact .inl (.inr hg)
  · rcases hk with hk | hk
    · exact i6 k hk e
    · exact i4 k (.inr e) hk
/-- Two rows, the one or the other outmost. -/
theorem Mv.rowSwap (h : Mv ((R.row W0.heap.size T z v n xs).row W0.heap.size U z u m ys) W0 W b cs st) : Mv ((R.row W0.heap.size U z u m ys).row W0.heap.size T z v n xs) W0 W b cs st := by
  obtain ⟨⟨i1, i2, i3⟩, i4, i5⟩ := h.inv
  refine h.less (fun g hg => ?_) ⟨⟨i1, i4, fun k hk => i5 k (.inl hk)⟩, i2, fun k hk => ?_⟩
  · rcases hg with (hg | hg) | hg
    · exact .inl (.inl hg)
    · exact .inr hg
    · exact .inl (.inr hg)
  · rcases hk with hk | hk
    · exact i3 k hk
    · exact fun e => i5 k (.inr e) hk
end

/-- The numbers of new cells. -/
def idsF (c m : Nat) : List Int := (List.range m).map fun j => ((c + j : Nat) : Int)
theorem idsF_len (c m : Nat) : (idsF c m).length = m := by simp [idsF]
theorem idsF_succ (c m : Nat) : idsF c (m + 1) = idsF c m ++ [((c + m : Nat) : Int)] := by simp [idsF, List.range_succ]
/-- The numbers that a row has, up to a place. -/
def valF (z : Nat → Int) (m : Nat) : List Int := (List.range m).map z
theorem valF_len (z : Nat → Int) (m : Nat) : (valF z m).length = m := by simp [valF]
theorem valF_succ (z : Nat → Int) (m : Nat) : valF z (m + 1) = valF z m ++ [z m] := by simp [valF, List.range_succ]

section
variable {R : Rest} {W0 W w : World} {r a c t : Nat} {cs : List Int} {st : Int} {tv : Value} {acts : List Ac}
theorem alen_c {R' : Rest} (h : Mv R' W0 W a cs st) : Calls Try.prog 29 #[.pointer (some ⟨a, 0, none⟩)] W fun e w' => e = .returned (.int .i64 cs.length) ∧ W = w' := len_mv h

set_option maxHeartbeats 2000000 in
set_option maxRecDepth 100000 in
theorem rjoin_ok (hr : ∀ w, R.inv w → RmC w r a c t) (h : Mv (R.tbl W0.heap.size t tv acts) W0 W a cs st) (hl : (acts.length : Int) < 64) {v : Value} {m : Nat} {z : Nat → Int} (hv : LongsAt W0 v m z) (hm : m ≤ 20) (hc : (cs.length : Int) ≤ 100000) :
    Calls Try.prog 26 #[.pointer (some ⟨r, 0, none⟩), v] W fun e w' => ∃ p cap tv', e = .returned (.tuple #[.int .i64 acts.length, .slice p m cap, .nilIface]) ∧ Mv ((R.tbl W0.heap.size t tv' (acts ++ [(0, false, 0)])).row W0.heap.size 3 1 (.slice p m cap) m ((idsF cs.length m).map (Value.int .i64))) W0 w' a (cs ++ valF z m) st := by
  obtain ⟨i0, hi0, hz0, hz1, hz2⟩ := info_parts infoAI
  obtain ⟨pv, cv, rfl, hmx, hcell⟩ := hv
  have c0 := (hr _ h.inv.1).c0
  have c2 := (hr _ h.inv.1).c2
  have HR := Lib.hid hr
  have H := Lib.hid h
  have HC := Lib.hid hcell
  have HADD : Hid (Calls Try.prog 18 #[.pointer (some ⟨t, 0, none⟩)] W fun e w' => e = .returned (.tuple #[.int .i64 acts.length, .nilIface]) ∧ ∃ tv', Mv (R.tbl W0.heap.size t tv' (acts ++ [(0, false, 0)])) W0 w' a cs st) := Lib.hid ((tadd_some W t tv acts h.tbIs hl).mono fun e w' ⟨he, hs⟩ => ⟨he, h.tbStep hs⟩)
  have d1 : decide (2097152 - (cs.length : Int) < (m : Int)) = false := decide_eq_false (by omega)
  clear h hr hcell hmx
  generalize hcn : cs.length = cn at *
  have HCN := Lib.hid hcn
  clear hcn
  go_enter Try.func26, Try.ntmps26
  go_wp2_with (first
    | (go_at_call 29; refine (alen_c H.out).mono ?_; rintro e w1 ⟨rfl, rfl⟩; rw [HCN.out])
    | (go_at_call 18; refine HADD.out.mono ?_; rintro e w2 ⟨rfl, tv2, hh⟩; have H2 := Lib.hid hh; clear hh; obtain ⟨wm, hm1, hm2, hm3⟩ := run_make_own (P := Try.prog) w2 w2.heap.size 38 3 i0 (.int .i64 0) 1 Try.underlying38 hi0 hz0 hz1 .i64 .i64 m (by rw [hz2]; omega) (by unfold maxLen; omega) (Nat.le_refl _); have H3 := Lib.hid (H2.out.more ((Frm.of_grown hm3).below (Nat.le_refl _) fun k e => by simp at e) hm2); clear hm2 hm3))
  go_loopw [9, 48] (fun idv iv wl => ∃ k : Nat, k ≤ m ∧ iv = .int .i64 k ∧ Hid (Mv ((R.tbl W0.heap.size t tv2 (acts ++ [(0, false, 0)])).row W0.heap.size 3 1 idv k ((idsF cn k).map (Value.int .i64))) W0 wl a (cs ++ valF z k) st)) (fun _ i _ => m - (intOf i).toNat)
  case atStart => exact ⟨0, Nat.zero_le _, rfl, by simpa [idsF, valF] using H3⟩
  case round =>
    obtain ⟨k, hk, rfl, HK⟩ := hrel
    obtain ⟨pl, cl, rfl, _⟩ := row_form HK.out.rowIs
    by_cases hlt : k < m
    · obtain ⟨bb, off, rfl, hcell⟩ := HC.out.resolve_left (by omega)
      have q0 := keepc HK.out.below (hcell k hlt).1
      have HRI := HR.out _ HK.out.inv.1.1
      have q1 := HRI.c0
      have HAL : Hid (Calls Try.prog 78 #[.pointer (some ⟨a, 0, none⟩), .int .i64 (z k)] wr fun e w' => e = .returned (.tuple #[.int .i64 ((cn + k : Nat) : Int), .nilIface]) ∧ Mv ((R.tbl W0.heap.size t tv2 (acts ++ [(0, false, 0)])).row W0.heap.size 3 1 (.slice pl k cl) k ((idsF cn k).map (Value.int .i64))) W0 w' a (cs ++ valF z (k + 1)) st) := Lib.hid (by
        have := alloc_mv (z k) HK.out (by rw [List.length_append, valF_len, HCN.out]; omega)
        rw [List.length_append, valF_len, HCN.out, List.append_assoc, ← valF_succ] at this
        exact this)
      have HNX : Hid (∀ (w3 w4 : World) (v' : Value), Mv ((R.tbl W0.heap.size t tv2 (acts ++ [(0, false, 0)])).row W0.heap.size 3 1 (.slice pl k cl) k ((idsF cn k).map (Value.int .i64))) W0 w3 a (cs ++ valF z (k + 1)) st → w4.ownsRow 0 3 1 v' (k + 1) ((idsF cn k).map (Value.int .i64) ++ [.int .i64 ((cn + k : Nat) : Int)]) → Frm (fun q => (Value.slice pl k cl).ownBlock = some q) (w3.alloc (.cells #[.int .i64 ((cn + k : Nat) : Int)] 3)) w4 → (v'.ownBlock = (Value.slice pl k cl).ownBlock ∨ ∀ g, v'.ownBlock = some g → (w3.alloc (.cells #[.int .i64 ((cn + k : Nat) : Int)] 3)).heap.size ≤ g) → Mv ((R.tbl W0.heap.size t tv2 (acts ++ [(0, false, 0)])).row W0.heap.size 3 1 v' (k + 1) ((idsF cn (k + 1)).map (Value.int .i64))) W0 w4 a (cs ++ valF z (k + 1)) st) := Lib.hid fun w3 w4 v' hh ho hf hv' => by
        have := (hh.keep (balloc (Below.refl _ _) (.cells #[.int .i64 ((cn + k : Nat) : Int)] 3))).app ho hf hv'
        rw [show (idsF cn k).map (Value.int .i64) ++ [.int .i64 ((cn + k : Nat) : Int)] = (idsF cn (k + 1)).map (Value.int .i64) by rw [idsF_succ]; simp] at this
        exact this
      clear hcell HRI
      generalize hy : z k = y at *
      generalize hck : ((cn + k : Nat) : Int) = ck at *
      clear hy hck
      go_wp2_with (first
        | (go_at_call 78; refine HAL.out.mono ?_; rintro e w3 ⟨rfl, hh⟩; have H5 := Lib.hid hh; clear hh)
        | (at_builtin; refine wpList_append_row rfl _ _ 38 rfl 3 i0 (.int .i64 0) 1 8 Try.underlying38 hi0 hz0 hz1 hz2 rfl (by decide) (.slice pl k cl) k _ rfl ((row_base H5.out.rowIs (Nat.zero_le _)).alloc _) ⟨w3.heap.size, 0, none⟩ 1 1 [.int .i64 ck] rfl rfl (one_cellA _ _ _) (fun x hx => by simp at hx; subst hx; rfl) (by unfold maxLen; omega) (by omega) ?_; intro v' w4 hown4 hf4 hv4; have H6 := Lib.hid (HNX.out _ _ _ H5.out hown4 hf4 hv4); clear hown4 hf4 hv4))
      exact ⟨⟨k + 1, by omega, by go_num, H6⟩, by simp [intOf]; omega⟩
    · obtain rfl : k = m := by omega
      go_wp2
      go_returns
      exact ⟨_, _, tv2, rfl, HK.out⟩

set_option maxHeartbeats 1000000 in
set_option maxRecDepth 100000 in
theorem rjoin_full (hr : ∀ w, R.inv w → RmC w r a c t) (h : Mv (R.tbl W0.heap.size t tv acts) W0 W a cs st) (hl : 64 ≤ (acts.length : Int)) {p : Option Addr} {m cap : Nat} (hm : m ≤ 20) (hc : (cs.length : Int) ≤ 100000) :
    Calls Try.prog 26 #[.pointer (some ⟨r, 0, none⟩), .slice p m cap] W fun e w' => ∃ q, e = .returned (.tuple #[.int .i64 0, .slice none 0 0, Flt q]) ∧ Chain w' (Flt q) 2 8 ∧ Below W.heap.size W w' := by
  have c0 := (hr _ h.inv.1).c0
  have c2 := (hr _ h.inv.1).c2
  have H := Lib.hid h
  have HADD := Lib.hid (tadd_many W t tv acts h.tbIs hl)
  have d1 : decide (2097152 - (cs.length : Int) < (m : Int)) = false := decide_eq_false (by omega)
  clear h hr hl
  generalize hcn : cs.length = cn at *
  have HCN := Lib.hid hcn
  clear hcn
  go_enter Try.func26, Try.ntmps26
  go_wp2_with (first
    | (go_at_call 29; refine (alen_c H.out).mono ?_; rintro e w1 ⟨rfl, rfl⟩; rw [HCN.out])
    | (go_at_call 18; refine HADD.out.mono ?_; rintro e w2 ⟨q, rfl, hch, hb⟩; have HCH := Lib.hid hch; have HB := Lib.hid hb; clear hch hb)
    | (go_at_call 115; refine (wrap_deep _ _ HCH.out).mono ?_; rintro e w3 ⟨q3, rfl, hch, hb⟩; have HCH3 := Lib.hid hch; have HB3 := Lib.hid (bthen HB.out hb); clear hch hb))
  go_returns
  exact ⟨_, rfl, HCH3.out, HB3.out⟩
end

/-- Rows of numbers, as they are read. -/
def RowsAt (W : World) (v : Value) (n : Nat) (z : Nat → Value × Nat × (Nat → Int)) : Prop :=
  ∃ p cap, v = .slice p n cap ∧ n ≤ maxLen ∧ (n = 0 ∨ ∃ b off, p = some ⟨b, off, none⟩ ∧ ∀ j, j < n → W.cell? ⟨b, off + j, none⟩ = some (z j).1 ∧ LongsAt W (z j).1 (z j).2.1 (z j).2.2)

section
variable {R : Rest} {W0 W w : World} {b t : Nat} {cs : List Int} {st : Int} {tv : Value} {acts : List Ac} {n m : Nat} {v u : Value} {xs ys : List Value}
/-- The table, a new row and an elder one, changed round. -/
theorem Mv.joined (h : Mv (((R.row W0.heap.size 2 1 v n xs).tbl W0.heap.size t tv acts).row W0.heap.size 3 1 u m ys) W0 W b cs st) : Mv (((R.tbl W0.heap.size t tv acts).row W0.heap.size 3 1 u m ys).row W0.heap.size 2 1 v n xs) W0 W b cs st := by
  obtain ⟨⟨⟨i1, i2, i3⟩, i4, i5, i6⟩, i7, i8⟩ := h.inv
  refine h.less (fun g hg => ?_) ⟨⟨⟨i1, i4, i5, fun k hk => i6 k (.inl hk)⟩, i7, fun k hk => ?_⟩, i2, fun k hk e => ?_⟩
  · rcases hg with ((hg | hg) | hg) | hg
    · exact .inl (.inl (.inl hg))
    · exact .inl (.inr hg)
    · exact .inr hg
    · exact .inl (.inl (.inr hg))
  · rcases hk with hk | hk
    · exact i8 k (.inl (.inl hk))
    · exact i8 k (.inr hk)
  · rcases hk with (hk | hk) | hk
    · exact i3 k hk e
    · exact i6 k (.inr e) hk
    · exact i8 k (.inl (.inr e)) hk
theorem Mv.parted (h : Mv (((R.tbl W0.heap.size t tv acts).row W0.heap.size 3 1 u m ys).row W0.heap.size 2 1 v n xs) W0 W b cs st) : Mv ((R.row W0.heap.size 2 1 v n xs).tbl W0.heap.size t tv acts) W0 W b cs st := by
  obtain ⟨⟨⟨i1, i4, i5, i6⟩, i7, i8⟩, i2, i3⟩ := h.inv
  refine h.less (fun g hg => ?_) ⟨⟨i1, i2, fun k hk => i3 k (.inl (.inl hk))⟩, i4, i5, fun k hk e => ?_⟩
  · rcases hg with (hg | hg) | hg
    · exact .inl (.inl (.inl hg))
    · exact .inr hg
    · exact .inl (.inl (.inr hg))
  · rcases hk with hk | hk
    · exact i6 k hk e
    · exact i3 k (.inl (.inr e)) hk
end

/-- All numbers of those who joined. -/
def allF (z : Nat → Value × Nat × (Nat → Int)) : Nat → List Int
  | 0 => []
  | k + 1 => if k < 64 then allF z k ++ valF (z k).2.2 (z k).2.1 else allF z k
theorem allF_yes {z : Nat → Value × Nat × (Nat → Int)} {k : Nat} (h : k < 64) : allF z (k + 1) = allF z k ++ valF (z k).2.2 (z k).2.1 := by simp [allF, h]
theorem allF_no {z : Nat → Value × Nat × (Nat → Int)} {k : Nat} (h : ¬ k < 64) : allF z (k + 1) = allF z k := by simp [allF, h]
theorem allF_len {z : Nat → Value × Nat × (Nat → Int)} {k : Nat} (h : ∀ j, j < k → (z j).2.1 ≤ 20) : (allF z k).length ≤ 20 * k ∧ (64 ≤ k → (allF z k).length ≤ 1280) := by
  induction k with
  | zero => exact ⟨Nat.le_refl _, fun h => by omega⟩
  | succ k ih =>
    obtain ⟨h1, h2⟩ := ih fun j hj => h j (by omega)
    have h3 := h k (by omega)
    by_cases hk : k < 64
    · rw [allF_yes hk, List.length_append, valF_len]
      exact ⟨by omega, fun h => by omega⟩
    · rw [allF_no hk]
      exact ⟨by omega, fun _ => h2 (by omega)⟩
theorem allF_few {z : Nat → Value × Nat × (Nat → Int)} {k : Nat} (h : ∀ j, j < k → (z j).2.1 ≤ 20) : (allF z k).length ≤ 1280 := by
  have := allF_len h
  by_cases hk : 64 ≤ k
  · exact this.2 hk
  · omega
end Go.Proofs.Ytndmhnakfhofpaa
