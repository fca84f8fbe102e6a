/-
  Least and Who of package gate by contract. Conditions: at most 32 cells, numbers from nought; fewer than 2^61 steps.
-/
import Derived.Test.YtdbjeaploanalaaLoads
namespace Go.Proofs.Ytdbjeaploanalaa
open Go.RowKit

/-- What is refused by loads is refused by Least. -/
theorem gleast_no {G A : Value} (most : Int) {W : World} {n : Int} (hl : Calls Try.prog 74 #[G, .string ⟨#[108, 101, 97, 115, 116]⟩, A] W fun e w' => ∃ E, e = .returned (.tuple #[.slice none 0 0, E]) ∧ Refused W w' E n) :
    Calls Try.prog 46 #[G, A, .int .i64 most] W fun e w' => ∃ E, e = .returned (.tuple #[.int .i64 0, E]) ∧ Refused W w' E n := by
  have HL := Lib.hid hl
  clear hl
  go_enter Try.func46, Try.ntmps46
  go_wp2_with (first
    | (go_at_call 74; refine HL.out.mono ?_; rintro e w1 ⟨E, rfl, q, rfl, hr⟩; have HR := Lib.hid (show Refused _ _ _ _ from ⟨q, rfl, hr⟩); clear hr))
  go_returns
  exact ⟨_, rfl, HR.out⟩

/-- Behind Least: the arena's steps are counted, nothing else that was there has turned. -/
def Loaded (W w : World) (b : Nat) (v : Value) (xs : List Int) (st : Int) : Prop := Ar w b v xs st ∧ Frm (fun k => k = b) W w
theorem loaded_app {W w w' : World} {b r n c : Nat} {v : Value} {xs : List Int} {st : Int} {ys : List Value} {o : Obj} (ha : Ar W b v xs st) {st' : Int} (hr : w.ownsRow W.heap.size 2 1 (.slice (some ⟨r, 0, none⟩) n c) n ys) (h1 : Ar w b v xs st') (h2 : Frm (fun k => k = b) W w)
    (hf : Frm (fun k => (Value.slice (some ⟨r, 0, none⟩) n c).ownBlock = some k) (w.alloc o) w') : Loaded W w' b v xs st' := by
  have hlow := (hr.lt r rfl).1
  refine ⟨(h1.keepB ((Below.refl _ _).alloc (Nat.le_refl _) _)).keep hf ?_ ?_, (h2.alloc o).then hf ?_⟩
  · intro e
    simp [Value.ownBlock] at e
    have := ha.lt
    omega
  · intro g hg e
    simp [Value.ownBlock] at e
    have := row_lt ha.2 hg
    omega
  · intro k hk e
    simp [Value.ownBlock] at e
    omega

theorem smin_row {w : World} {B r n c : Nat} {zs : List Int} (hn : zs.length = n) (h0 : 0 < n) (hb : n ≤ 9223372036854775807) (h : w.ownsRow B 2 1 (.slice (some ⟨r, 0, none⟩) n c) n (zs.map (Value.int .i64))) :
    Calls Try.prog 75 #[.slice (some ⟨r, 0, none⟩) n c] w fun e w' => ∃ m, e = .returned (.int .i64 m) ∧ IsMin zs m ∧ w = w' := by
  subst hn
  refine smin_some r 0 c zs w h0 hb fun j hj => ?_
  rw [Nat.zero_add, h.cellAt j (by omega)]
  simp [List.getElem?_eq_getElem hj]

set_option maxHeartbeats 1000000 in
set_option maxRecDepth 100000 in
theorem gleast_ok {W : World} {g b : Nat} {ids xs : List Int} {v : Value} {st : Int} (most : Int) (h : Gr W g ids) (ha : Ar W b v xs st) (hin : ∀ j, j < ids.length → 0 ≤ ids.getD j 0 ∧ ids.getD j 0 < (xs.length : Int)) (h0 : 0 ≤ st) (h1 : st < 2305843009213693952) :
    Calls Try.prog 46 #[.pointer (some ⟨g, 0, none⟩), .pointer (some ⟨b, 0, none⟩), .int .i64 most] W fun e w' => ∃ m, e = .returned (.tuple #[.int .i64 m, .nilIface]) ∧ IsMin (valsOf xs ids ++ [most]) m ∧ Loaded W w' b v xs (st + ids.length) := by
  have HL := Lib.hid (loads_ok ⟨#[108, 101, 97, 115, 116]⟩ h ha hin h0 h1)
  have HA := Lib.hid ha
  have hvl : (valsOf xs ids).length = ids.length := by simp [valsOf]
  have hl := h.2
  generalize valsOf xs ids = ys at *
  have HVL := Lib.hid hvl
  generalize ids.length = n at *
  clear h ha hin hvl
  obtain ⟨i0, hi, hz0, hz1, hz2⟩ := info_parts infoI64
  go_enter Try.func46, Try.ntmps46
  go_wp2_with (first
    | (go_at_call 74; refine HL.out.mono ?_; rintro e w1 ⟨r, c, rfl, hr, ha1, hf1⟩; have HR := Lib.hid hr; have HA1 := Lib.hid ha1; have HF1 := Lib.hid hf1; clear hr ha1 hf1)
    | (at_builtin; refine wpList_append_row rfl _ _ 38 rfl 2 i0 (.int .i64 0) 1 8 Try.underlying38 hi hz0 hz1 hz2 rfl (by decide) (.slice (some ⟨r, 0, none⟩) n c) n _ rfl (row_base (HR.out.alloc _) (Nat.zero_le _)) ⟨w1.heap.size, 0, none⟩ 1 1 [.int .i64 most] rfl rfl (one_cell _ _ _) (fun x hx => by simp at hx; subst hx; rfl) (by unfold maxLen; omega) (by omega) ?_; intro v' w4 hown hf hv; have HE := Lib.hid (loaded_app HA.out HR.out HA1.out HF1.out hf); obtain ⟨r', c', rfl, _⟩ := row_some hown (by omega); have HO := Lib.hid hown; clear hown hf hv)
    | (go_at_call 75; refine (smin_row (zs := ys ++ [most]) (by simp [HVL.out]) (by omega) (by omega) (by rw [List.map_append]; exact HO.out)).mono ?_; rintro e w5 ⟨m, rfl, hm, rfl⟩; have HM := Lib.hid hm; clear hm))
  go_ret2
  exact ⟨m, rfl, HM.out, HE.out⟩

/-- What is refused by loads is refused by Who. -/
theorem gwho_no {G A : Value} {W : World} {n : Int} (hl : Calls Try.prog 74 #[G, .string ⟨#[119, 104, 111]⟩, A] W fun e w' => ∃ E, e = .returned (.tuple #[.slice none 0 0, E]) ∧ Refused W w' E n) :
    Calls Try.prog 48 #[G, A] W fun e w' => ∃ E, e = .returned (.tuple #[.slice none 0 0, E]) ∧ Refused W w' E n := by
  have HL := Lib.hid hl
  clear hl
  go_enter Try.func48, Try.ntmps48
  go_wp2_with (first
    | (go_at_call 74; refine HL.out.mono ?_; rintro e w1 ⟨E, rfl, q, rfl, hr⟩; have HR := Lib.hid (show Refused _ _ _ _ from ⟨q, rfl, hr⟩); clear hr))
  go_returns
  exact ⟨_, rfl, HR.out⟩

/-- Those of the numbers whose cells have m. -/
def whoOf (xs : List Int) (ids : List Int) (m : Int) : List Int := ids.filter fun i => xs.getD i.toNat 0 == m
theorem whoOf_yes {xs ids : List Int} {m : Int} {k : Nat} (hk : k < ids.length) (h : xs.getD (ids.getD k 0).toNat 0 = m) : whoOf xs (ids.take (k + 1)) m = whoOf xs (ids.take k) m ++ [ids.getD k 0] := by
  rw [take_snoc hk]
  simp only [whoOf, List.filter_append]
  congr 1
  have h' : (xs.getD (ids.getD k 0).toNat 0 == m) = true := by rw [h]; simp
  rw [List.filter_cons, h']
  simp
theorem whoOf_no {xs ids : List Int} {m : Int} {k : Nat} (hk : k < ids.length) (h : xs.getD (ids.getD k 0).toNat 0 ≠ m) : whoOf xs (ids.take (k + 1)) m = whoOf xs (ids.take k) m := by
  rw [take_snoc hk]
  simp only [whoOf, List.filter_append]
  have h' : (xs.getD (ids.getD k 0).toNat 0 == m) = false := by simpa using h
  rw [List.filter_cons, h']
  simp
theorem infoI : (Try.prog.info? 3).map (fun i => (i.zero, i.size, i.bytes)) = some (some (.int .i64 0), 1, 8) := by kernel_rfl
theorem rows_apart {w : World} {B B' n m : Nat} {s t : TypeId} {u v : Value} {xs ys : List Value} (h : w.ownsRow B s 1 u n xs) (k : w.ownsRow B' t 1 v m ys) (hne : s ≠ t) {g : Nat} (hg : u.ownBlock = some g) : v.ownBlock ≠ some g := by
  intro e
  obtain ⟨c1, h1⟩ := ownsRow_obj h hg
  obtain ⟨c2, h2⟩ := ownsRow_obj k e
  exact obj_ne h1 h2 hne rfl

/-- Who's loop: the loads' row, and those that were found. -/
structure WS (W w : World) (b : Nat) (v : Value) (xs : List Int) (st : Int) (l : Value) (ys : List Int) (lv : Value) (n : Nat) (is : List Int) : Prop where
  row : w.ownsRow W.heap.size 3 1 lv n (is.map (Value.int .i64))
  vals : w.ownsRow W.heap.size 2 1 l ys.length (ys.map (Value.int .i64))
  ld : Loaded W w b v xs st
theorem WS.app {W w w' : World} {b n : Nat} {v l : Value} {xs ys is : List Int} {st x : Int} {lv lv' : Value} {o : Obj} (hlt : b < W.heap.size) (hvlt : ∀ g, v.ownBlock = some g → g < W.heap.size)
    (h : WS W w b v xs st l ys lv n is) (hown : w'.ownsRow 0 3 1 lv' (n + 1) (is.map (Value.int .i64) ++ [Value.int .i64 x])) (hf : Frm (fun k => lv.ownBlock = some k) (w.alloc o) w') (hv : lv'.ownBlock = lv.ownBlock ∨ ∀ g, lv'.ownBlock = some g → (w.alloc o).heap.size ≤ g) :
    WS W w' b v xs st l ys lv' (n + 1) (is ++ [x]) := by
  obtain ⟨h1, h2, h3, h4⟩ := h
  have hlow : ∀ g, lv.ownBlock = some g → W.heap.size ≤ g := fun g hg => (h1.lt g hg).1
  have hup : ∀ g, lv'.ownBlock = some g → W.heap.size ≤ g := by
    intro g hg
    rcases hv with hv | hv
    · exact hlow g (hv ▸ hg)
    · have := hv g hg
      have := h4.size
      simp at *
      omega
  refine ⟨?_, hf.row (h2.alloc o) ?_, (h3.keepB ((Below.refl _ _).alloc (Nat.le_refl _) _)).keep hf ?_ ?_, (h4.alloc o).then hf ?_⟩
  · have := row_up hown hup
    rwa [List.map_append]
  · intro g hg e
    exact rows_apart h2 h1 (by decide) hg e
  · intro e
    have := hlow _ e
    omega
  · intro g hg e
    have := hlow _ e
    have := hvlt g hg
    omega
  · intro k hk e
    have := hlow _ e
    omega

set_option maxHeartbeats 1000000 in
set_option maxRecDepth 100000 in
theorem gwho_ok {W : World} {g b : Nat} {ids xs : List Int} {v : Value} {st : Int} (h : Gr W g ids) (ha : Ar W b v xs st) (hin : ∀ j, j < ids.length → 0 ≤ ids.getD j 0 ∧ ids.getD j 0 < (xs.length : Int)) (h0 : 0 ≤ st) (h1 : st < 2305843009213693952) (hne : 0 < ids.length) :
    Calls Try.prog 48 #[.pointer (some ⟨g, 0, none⟩), .pointer (some ⟨b, 0, none⟩)] W fun e w' => ∃ m p k c, IsMin (valsOf xs ids) m ∧ e = .returned (.tuple #[.slice p k c, .nilIface]) ∧ w'.ownsRow W.heap.size 3 1 (.slice p k c) k ((whoOf xs ids m).map (Value.int .i64)) ∧ Loaded W w' b v xs (st + ids.length) := by
  have HL := Lib.hid (loads_ok ⟨#[119, 104, 111]⟩ h ha hin h0 h1)
  have HA := Lib.hid ha
  have H := Lib.hid h
  have HGV := Lib.hid (h.ne ha)
  have HVLT : Hid (∀ g, v.ownBlock = some g → g < W.heap.size) := fun g hg => row_lt ha.2 hg
  have hvl : (valsOf xs ids).length = ids.length := by simp [valsOf]
  have HY : Hid (∀ j, j < ids.length → (valsOf xs ids)[j]? = some (xs.getD (ids.getD j 0).toNat 0)) := fun j hj => by simp [valsOf, List.getElem?_eq_getElem hj]
  have hl := h.2
  generalize valsOf xs ids = ys at *
  have HVL := Lib.hid hvl
  generalize hn : ids.length = n at *
  have HN := Lib.hid hn
  clear h ha hin hvl hn
  obtain ⟨i0, hi, hz0, hz1, hz2⟩ := info_parts infoI
  go_enter Try.func48, Try.ntmps48
  go_wp2_with (first
    | (go_at_call 74; refine HL.out.mono ?_; rintro e w1 ⟨r, c, rfl, hr, ha1, hf1⟩; have HR := Lib.hid hr; have HA1 := Lib.hid ha1; have HF1 := Lib.hid hf1; clear hr ha1 hf1)
    | (go_at_call 75; refine (smin_row (zs := ys) HVL.out hne (by omega) HR.out).mono ?_; rintro e w5 ⟨m, rfl, hm, rfl⟩; have HM := Lib.hid hm; clear hm)
    | (go_at_call 69; refine (in_some (H.out.keep HF1.out HGV.out)).mono ?_; rintro e w2 ⟨rfl, hb⟩; rw [HN.out]; have HB := Lib.hid hb; clear hb))
  have HW0 : Hid (WS W w2 b v xs (st + n) (.slice (some ⟨r, 0, none⟩) n c) ys (.slice none 0 0) 0 (whoOf xs (ids.take 0) m)) :=
    ⟨World.ownsRow_nil _ _ _ _, by rw [HVL.out]; exact (Frm.of_below HB.out fun _ => False).row HR.out fun _ _ => id, HA1.out.keepB HB.out, HF1.out.then (Frm.of_below HB.out fun _ => False) fun _ _ h => h.elim⟩
  go_loopw [9, 31] (fun lv i wl => ∃ k q : Nat, k ≤ n ∧ q ≤ k ∧ i = .int .i64 k ∧ Hid (WS W wl b v xs (st + n) (.slice (some ⟨r, 0, none⟩) n c) ys lv q (whoOf xs (ids.take k) m))) (fun _ i _ => n - (intOf i).toNat)
  case atStart => exact ⟨0, 0, by omega, by omega, rfl, HW0⟩
  case round =>
    obtain ⟨k, q, hk, hq, rfl, HJ⟩ := hrel
    obtain ⟨pp, c2, rfl, _⟩ := row_form HJ.out.row
    by_cases hlt : k < n
    · have ck := (H.out.keep HJ.out.ld.2 HGV.out).at k (by omega)
      rw [padI_at (by rw [HN.out]; exact hlt)] at ck
      have cv : wr.cell? ⟨r, k, none⟩ = some (.int .i64 (xs.getD (ids.getD k 0).toNat 0)) := by
        have h1 := HJ.out.vals
        rw [HVL.out] at h1
        rw [h1.cellAt k (by omega), List.getElem?_map, HY.out k hlt]
        rfl
      by_cases hm : xs.getD (ids.getD k 0).toNat 0 = m
      · have HWY := Lib.hid (whoOf_yes (by rw [HN.out]; exact hlt) hm)
        rw [hm] at cv
        clear hm
        generalize ids.getD k 0 = z at *
        go_wp2_with (first
          | (at_builtin; refine wpList_append_row rfl _ _ 65 rfl 3 i0 (.int .i64 0) 1 8 Try.underlying65 hi hz0 hz1 hz2 rfl (by decide) (.slice pp q c2) q _ rfl (row_base (HJ.out.row.alloc _) (Nat.zero_le _)) ⟨wr.heap.size, 0, none⟩ 1 1 [.int .i64 z] rfl rfl (one_cell _ _ _) (fun x hx => by simp at hx; subst hx; rfl) (by unfold maxLen; omega) (by omega) ?_; intro v' w4 hown hf hv; have HE := Lib.hid (WS.app HA.out.lt HVLT.out HJ.out hown hf hv); rw [← HWY.out] at HE; obtain ⟨p', c', rfl, _⟩ := row_form hown; clear hown hf hv))
        exact ⟨⟨k + 1, q + 1, by omega, by omega, by go_num, HE⟩, by simp [intOf]; omega⟩
      · have HWN := Lib.hid (whoOf_no (by rw [HN.out]; exact hlt) hm)
        have hm' : (xs.getD (ids.getD k 0).toNat 0 == m) = false := by simpa using hm
        have HJ2 := HJ
        rw [← HWN.out] at HJ2
        clear hm
        generalize xs.getD (ids.getD k 0).toNat 0 = z1 at *
        generalize ids.getD k 0 = z at *
        go_wp2
        exact ⟨⟨k + 1, q, by omega, by omega, by go_num, HJ2⟩, by simp [intOf]; omega⟩
    · obtain rfl : k = n := by omega
      have HT : Hid (ids.take k = ids) := List.take_of_length_le (by have := HN.out; omega)
      rw [HT.out] at HJ
      go_wp2
      go_ret2
      exact ⟨m, pp, q, c2, HM.out, rfl, HJ.out.row, HJ.out.ld⟩
end Go.Proofs.Ytdbjeaploanalaa
