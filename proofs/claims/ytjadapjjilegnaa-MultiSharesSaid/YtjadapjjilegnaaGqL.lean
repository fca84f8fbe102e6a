/-
  Package gate's loads and Least by contract, of a group that lies anywhere in a block: what all of its cells have, each loaded once. Conditions: at most 32 cells, numbers from nought; fewer than 2^61 steps.
-/
import Derived.Test.YtjadapjjilegnaaMin
namespace Go.Proofs.Ytjadapjjilegnaa
open Go.RowKit

/-- What each of the numbers' cells has. -/
def valsOf (xs : List Int) (ids : List Int) : List Int := ids.map fun i => xs.getD i.toNat 0

theorem load_k (i : Nat) (W : World) (b : Nat) (v : Value) (xs : List Int) (st x : Int) (h : Ar W b v xs st) (hx : xs[i]? = some x) (h0 : 0 ≤ st) (h1 : st < 4611686018427387904) :
    Calls Try.prog 31 #[.pointer (some ⟨b, 0, none⟩), .int .i64 i] W fun e w' => e = .returned (.tuple #[.int .i64 x, .nilIface]) ∧ Ar w' b v xs (st + 1) ∧ Frm (fun k => k = b) W w' := by
  obtain ⟨g, hs⟩ := step_way ⟨#[108, 111, 97, 100]⟩ i W b v xs st x h hx h0 h1
  have HS := Lib.hid hs
  clear hs hx h
  go_enter Try.func31, Try.ntmps31
  go_wp2_with (go_at_call 119; refine HS.out.mono ?_; rintro e w1 ⟨rfl, hw⟩; have hc := hw.1; have HW := Lib.hid hw; clear hw)
  go_ret2
  exact ⟨rfl, HW.out.2.2.1, HW.out.2.2.2.1⟩

/-- Room for so many numbers and one. -/
def mk0 (n : Nat) : Array Value := madeCells (Value.int .i64 0).cells ((n + 1) * 1)
theorem mk0_size (n : Nat) : (mk0 n).size = n + 1 := by simp [mk0, size_madeCells]
theorem make_nums (n : Nat) (hn : n ≤ 32) (w : World) :
    (Instr.makeSlice 46 (.int .i64 0) (.int .i64 ((n : Int) + 1))).run Try.prog w = .ok (.slice (some ⟨w.heap.size, 0, none⟩) 0 (n + 1)) (w.alloc (.cells (mk0 n) 2)) := by
  obtain ⟨i0, hi, hz0, hz1, hz2⟩ := info_parts infoI64
  have := run_make (P := Try.prog) w 46 2 i0 _ Try.underlying46 hi hz0 .i64 .i64 0 ((n : Int) + 1) (by omega) (by omega) (by rw [hz2]; omega) (by omega)
  rw [this]
  have e : ((n : Int) + 1).toNat = n + 1 := by omega
  rw [e, hz1]
  rfl

theorem row_up {w : World} {B B' : Nat} {e : TypeId} {size : Nat} {v : Value} {n : Nat} {xs : List Value} (h : w.ownsRow B e size v n xs) (hb : ∀ g, v.ownBlock = some g → B' ≤ g) : w.ownsRow B' e size v n xs :=
  ⟨h.1, h.2.imp id fun ⟨g, cap, cur, hv, _, r⟩ => ⟨g, cap, cur, hv, hb g (by rw [hv]; rfl), r⟩⟩

/-- Some of the loads are done. -/
structure LS (W w : World) (b : Nat) (v : Value) (xs : List Int) (st : Int) (ids : List Int) (k : Nat) (lv : Value) : Prop where
  row : w.ownsRow W.heap.size 2 1 lv k ((valsOf xs (ids.take k)).map (Value.int .i64))
  ar : Ar w b v xs (st + k)
  frm : Frm (fun k => k = b) W w
  blk : ∃ r, lv.ownBlock = some r

theorem LS.load {W w w' : World} {b : Nat} {v : Value} {xs : List Int} {st : Int} {ids : List Int} {k : Nat} {lv : Value} (h : LS W w b v xs st ids k lv) (ha : Ar w' b v xs (st + k + 1)) (hf : Frm (fun k => k = b) w w') :
    w'.ownsRow W.heap.size 2 1 lv k ((valsOf xs (ids.take k)).map (Value.int .i64)) ∧ Ar w' b v xs (st + ((k + 1 : Nat) : Int)) ∧ Frm (fun k => k = b) W w' := by
  refine ⟨hf.row h.row ?_, by rw [show st + ((k + 1 : Nat) : Int) = st + k + 1 by omega]; exact ha, h.frm.trans hf⟩
  rintro g hg rfl
  exact row_ne h.row h.ar.1 (by decide) hg

theorem LS.app {W w w' : World} {b : Nat} {v : Value} {xs : List Int} {st : Int} {ids : List Int} {k : Nat} {lv lv' : Value} {o : Obj} (hlt : b < W.heap.size) (hvlt : ∀ g, v.ownBlock = some g → g < W.heap.size)
    (h : w.ownsRow W.heap.size 2 1 lv k ((valsOf xs (ids.take k)).map (Value.int .i64)) ∧ Ar w b v xs (st + ((k + 1 : Nat) : Int)) ∧ Frm (fun k => k = b) W w) (hk : k < ids.length)
    (hown : w'.ownsRow 0 2 1 lv' (k + 1) ((valsOf xs (ids.take k)).map (Value.int .i64) ++ [Value.int .i64 (xs.getD (ids.getD k 0).toNat 0)])) (hf : Frm (fun k => lv.ownBlock = some k) (w.alloc o) w') (hv : lv'.ownBlock = lv.ownBlock ∨ ∀ g, lv'.ownBlock = some g → (w.alloc o).heap.size ≤ g) :
    LS W w' b v xs st ids (k + 1) lv' := by
  obtain ⟨h1, h2, h3⟩ := h
  have hlow : ∀ g, lv.ownBlock = some g → W.heap.size ≤ g := fun g hg => (h1.lt g hg).1
  have hup : ∀ g, lv'.ownBlock = some g → W.heap.size ≤ g := by
    intro g hg
    rcases hv with hv | hv
    · exact hlow g (hv ▸ hg)
    · have := hv g hg
      have := h3.size
      simp at *
      omega
  obtain ⟨r, cap, hs, _⟩ := row_some hown (by omega)
  refine ⟨?_, (h2.keepB ((Below.refl _ _).alloc (Nat.le_refl _) _)).keep hf ?_ ?_, (h3.alloc o).then hf ?_, r, by rw [hs]; rfl⟩
  · have := row_up hown hup
    rw [take_snoc hk]
    simpa [valsOf] using this
  · intro e
    have := hlow _ e
    omega
  · intro g hg e
    have := hlow _ e
    have := hvlt g hg
    omega
  · intro k hk e
    have := hlow _ e
    omega

theorem LS.place {W w : World} {b : Nat} {v : Value} {xs : List Int} {st : Int} {ids : List Int} {k : Nat} {p : Option Addr} {n c : Nat} (h : LS W w b v xs st ids k (.slice p n c)) : ∃ r, p = some ⟨r, 0, none⟩ := by
  obtain ⟨r, hr⟩ := h.blk
  rcases h.row.2 with ⟨e, _⟩ | ⟨g, cap, cur, e, _⟩
  · rw [e] at hr; simp [Value.ownBlock] at hr
  · simp at e
    exact ⟨g, e.1⟩
theorem LS.start {W wr w2 : World} {b : Nat} {v : Value} {xs : List Int} {st : Int} {ids : List Int} {n : Nat} (hn : n ≤ 32) (hb : Below W.heap.size W wr) (ha : Ar W b v xs st) (hb2 : Below (wr.alloc (.cells (mk0 n) 2)).heap.size (wr.alloc (.cells (mk0 n) 2)) w2) :
    LS W w2 b v xs st ids 0 (.slice (some ⟨wr.heap.size, 0, none⟩) 0 (n + 1)) := by
  have hb3 : Below W.heap.size W w2 := bthen (balloc hb _) hb2
  refine ⟨?_, by simpa using ha.keepB hb3, Frm.of_below hb3 _, _, rfl⟩
  exact (Frm.of_below hb2 fun _ => False).row (World.ownsRow_made wr (mk0 n) (n + 1) hb.size (by simp only [maxLen]; omega) (by rw [mk0_size]; omega)) fun _ _ => id

set_option maxHeartbeats 1000000 in
set_option maxRecDepth 100000 in
theorem loads_q (op : ByteArray) {W : World} {g o b : Nat} {cs : Array Value} {T : TypeId} {ids xs : List Int} {v : Value} {st : Int} (h : Blk W g cs T) (hq : Gq cs o ids) (hT : T ≠ 194) (ha : Ar W b v xs st) (hin : ∀ j, j < ids.length → 0 ≤ ids.getD j 0 ∧ ids.getD j 0 < (xs.length : Int)) (h0 : 0 ≤ st) (h1 : st < 2305843009213693952) :
    Calls Try.prog 151 #[.pointer (some ⟨g, o, none⟩), .string op, .pointer (some ⟨b, 0, none⟩)] W fun e w' => ∃ r c, e = .returned (.tuple #[.slice (some ⟨r, 0, none⟩) ids.length c, .nilIface]) ∧ w'.ownsRow W.heap.size 2 1 (.slice (some ⟨r, 0, none⟩) ids.length c) ids.length ((valsOf xs ids).map (Value.int .i64)) ∧ Ar w' b v xs (st + ids.length) ∧ Frm (fun k => k = b) W w' := by
  have H := Lib.hid h
  have HQ := Lib.hid hq
  have HA := Lib.hid ha
  have HIN := Lib.hid hin
  have hl := hq.len
  have HVL : Hid (∀ g, v.ownBlock = some g → g < W.heap.size) := fun g hg => row_lt ha.2 hg
  have HGB := Lib.hid (obj_ne h ha.1 hT)
  clear h hq hT ha hin
  generalize hn : ids.length = n at *
  have HN := Lib.hid hn
  clear hn
  go_enter Try.func151, Try.ntmps151
  go_wp2_with (first
    | (go_at_call 146; refine (in_q H.out HQ.out).mono ?_; rintro e w1 ⟨rfl, hb⟩; rw [HN.out]; have HB := Lib.hid hb; clear hb))
  go_loopw [29] (fun i wl => ∃ k : Nat, k ≤ n ∧ i = .int .i64 k ∧ wl = w1) (fun i _ => n - (intOf i).toNat)
  case atStart => exact ⟨0, by omega, rfl, rfl⟩
  case round =>
    obtain ⟨k, hk, rfl, rfl⟩ := hrel
    by_cases hlt : k < n
    · have ck := HQ.out.cAt (blk_keep H.out HB.out) k (by omega)
      rw [padI_at (by rw [HN.out]; exact hlt)] at ck
      have hbk := (HIN.out k hlt).2
      generalize ids.getD k 0 = z at *
      generalize hxl : (xs.length : Int) = xl at *
      have HXL := Lib.hid hxl
      clear hxl
      go_wp2_with (first
        | (go_at_call 29; refine (len_some _ b v xs st (HA.out.keepB HB.out)).mono ?_; rintro e w3 ⟨rfl, rfl⟩; rw [HXL.out]))
      exact ⟨⟨k + 1, by omega, by go_num, trivial⟩, by simp [intOf]; omega⟩
    · obtain rfl : k = n := by omega
      have c32 := HQ.out.cN (blk_keep H.out HB.out)
      rw [HN.out] at c32
      have hmk := make_nums k hl
      clear hlt hk
      go_wp2_with (first
        | (go_at_call 146; refine (in_q (blk_keep H.out (balloc HB.out _)) HQ.out).mono ?_; rintro e w2 ⟨rfl, hb⟩; rw [HN.out]; have HB2 := Lib.hid hb; clear hb))
      have HL0 := Lib.hid (LS.start (ids := ids) hl HB.out HA.out HB2.out)
      generalize wr.heap.size = r0 at *
      obtain ⟨i0, hi, hz0, hz1, hz2⟩ := info_parts infoI64
      clear hmk c32
      go_loopw [10, 51] (fun lv i wl => ∃ j : Nat, j ≤ k ∧ i = .int .i64 j ∧ Hid (LS W wl b v xs st ids j lv)) (fun _ i _ => k - (intOf i).toNat)
      case atStart => exact ⟨0, by omega, rfl, HL0⟩
      case round =>
        obtain ⟨j, hj, rfl, HJ⟩ := hrel
        obtain ⟨pp, c, rfl, _⟩ := row_form HJ.out.row
        by_cases hlt : j < k
        · have ck := HQ.out.cAt (HJ.out.frm.obj H.out HGB.out) j (by omega)
          rw [padI_at (by rw [HN.out]; exact hlt)] at ck
          have hz := HIN.out j hlt
          obtain ⟨z, hzz⟩ : ∃ z : Nat, ids.getD j 0 = z := ⟨(ids.getD j 0).toNat, by omega⟩
          have HZ := Lib.hid hzz
          rw [hzz] at ck hz
          obtain ⟨x, hx⟩ : ∃ x, xs[z]? = some x := ⟨xs[z]'(by omega), List.getElem?_eq_getElem _⟩
          have HX := Lib.hid hx
          have hxd : xs.getD (ids.getD j 0).toNat 0 = x := by rw [hzz]; simp [hx]
          have HXD := Lib.hid hxd
          clear hzz hx hxd hz
          go_wp2_with (first
            | (go_at_call 31; refine (load_k z _ b v xs (st + j) x HJ.out.ar HX.out (by omega) (by omega)).mono ?_; rintro e w3 ⟨rfl, ha3, hf3⟩; have H3 := Lib.hid (HJ.out.load ha3 hf3); clear ha3 hf3)
            | (at_builtin; refine wpList_append_row rfl _ _ 46 rfl 2 i0 (.int .i64 0) 1 8 Try.underlying46 hi hz0 hz1 hz2 rfl (by decide) (.slice pp j c) j _ rfl (row_base (H3.out.1.alloc _) (Nat.zero_le _)) ⟨w3.heap.size, 0, none⟩ 1 1 [.int .i64 x] rfl rfl (one_cell _ _ _) (fun x hx => by simp at hx; subst hx; rfl) (by unfold maxLen; omega) (by omega) ?_; intro v' w4 hown hf hv; have HE := Lib.hid (LS.app HA.out.lt HVL.out H3.out (by rw [HN.out]; exact hlt) (by rw [HXD.out]; exact hown) hf hv); obtain ⟨p', c', rfl, _⟩ := row_form hown; clear hown hf hv))
          exact ⟨⟨j + 1, by omega, by go_num, HE⟩, by simp [intOf]; omega⟩
        · obtain rfl : j = k := by omega
          obtain ⟨r, rfl⟩ := HJ.out.place
          go_wp2
          go_ret2
          refine ⟨r, c, rfl, ?_, HJ.out.ar, HJ.out.frm⟩
          have h := HJ.out.row
          rwa [show ids.take j = ids from List.take_of_length_le (by have := HN.out; omega)] at h
/-- Behind Least: the arena's steps are counted, nothing else that was there has turned. -/
def Loaded (W w : World) (b : Nat) (v : Value) (xs : List Int) (st : Int) : Prop := Ar w b v xs st ∧ Frm (fun k => k = b) W w
theorem loaded_app {W w w' : World} {b r n c : Nat} {v : Value} {xs : List Int} {st : Int} {ys : List Value} {o : Obj} (ha : Ar W b v xs st) {st' : Int} (hr : w.ownsRow W.heap.size 2 1 (.slice (some ⟨r, 0, none⟩) n c) n ys) (h1 : Ar w b v xs st') (h2 : Frm (fun k => k = b) W w)
    (hf : Frm (fun k => (Value.slice (some ⟨r, 0, none⟩) n c).ownBlock = some k) (w.alloc o) w') : Loaded W w' b v xs st' := by
  have hlow := (hr.lt r rfl).1
  refine ⟨(h1.keepB ((Below.refl _ _).alloc (Nat.le_refl _) _)).keep hf ?_ ?_, (h2.alloc o).then hf ?_⟩
  · intro e
    simp [Value.ownBlock] at e
    have := ha.lt
    omega
  · intro g hg e
    simp [Value.ownBlock] at e
    have := row_lt ha.2 hg
    omega
  · intro k hk e
    simp [Value.ownBlock] at e
    omega

theorem smin_row {w : World} {B r n c : Nat} {zs : List Int} (hn : zs.length = n) (h0 : 0 < n) (hb : n ≤ 9223372036854775807) (h : w.ownsRow B 2 1 (.slice (some ⟨r, 0, none⟩) n c) n (zs.map (Value.int .i64))) :
    Calls Try.prog 152 #[.slice (some ⟨r, 0, none⟩) n c] w fun e w' => ∃ m, e = .returned (.int .i64 m) ∧ IsMin zs m ∧ w = w' := by
  subst hn
  refine smin_some r 0 c zs w h0 hb fun j hj => ?_
  rw [Nat.zero_add, h.cellAt j (by omega)]
  simp [List.getElem?_eq_getElem hj]

set_option maxHeartbeats 1000000 in
set_option maxRecDepth 100000 in
theorem gleast_q {W : World} {g o b : Nat} {cs : Array Value} {T : TypeId} {ids xs : List Int} {v : Value} {st : Int} (most : Int) (h : Blk W g cs T) (hq : Gq cs o ids) (hT : T ≠ 194) (ha : Ar W b v xs st) (hin : ∀ j, j < ids.length → 0 ≤ ids.getD j 0 ∧ ids.getD j 0 < (xs.length : Int)) (h0 : 0 ≤ st) (h1 : st < 2305843009213693952) :
    Calls Try.prog 97 #[.pointer (some ⟨g, o, none⟩), .pointer (some ⟨b, 0, none⟩), .int .i64 most] W fun e w' => ∃ m, e = .returned (.tuple #[.int .i64 m, .nilIface]) ∧ IsMin (valsOf xs ids ++ [most]) m ∧ Loaded W w' b v xs (st + ids.length) := by
  have HL := Lib.hid (loads_q ⟨#[108, 101, 97, 115, 116]⟩ h hq hT ha hin h0 h1)
  have HA := Lib.hid ha
  have hvl : (valsOf xs ids).length = ids.length := by simp [valsOf]
  have hl := hq.len
  generalize valsOf xs ids = ys at *
  have HVL := Lib.hid hvl
  generalize ids.length = n at *
  clear h hq hT ha hin hvl
  obtain ⟨i0, hi, hz0, hz1, hz2⟩ := info_parts infoI64
  go_enter Try.func97, Try.ntmps97
  go_wp2_with (first
    | (go_at_call 151; refine HL.out.mono ?_; rintro e w1 ⟨r, c, rfl, hr, ha1, hf1⟩; have HR := Lib.hid hr; have HA1 := Lib.hid ha1; have HF1 := Lib.hid hf1; clear hr ha1 hf1)
    | (at_builtin; refine wpList_append_row rfl _ _ 46 rfl 2 i0 (.int .i64 0) 1 8 Try.underlying46 hi hz0 hz1 hz2 rfl (by decide) (.slice (some ⟨r, 0, none⟩) n c) n _ rfl (row_base (HR.out.alloc _) (Nat.zero_le _)) ⟨w1.heap.size, 0, none⟩ 1 1 [.int .i64 most] rfl rfl (one_cell _ _ _) (fun x hx => by simp at hx; subst hx; rfl) (by unfold maxLen; omega) (by omega) ?_; intro v' w4 hown hf hv; have HE := Lib.hid (loaded_app HA.out HR.out HA1.out HF1.out hf); obtain ⟨r', c', rfl, _⟩ := row_some hown (by omega); have HO := Lib.hid hown; clear hown hf hv)
    | (go_at_call 152; refine (smin_row (zs := ys ++ [most]) (by simp [HVL.out]) (by omega) (by omega) (by rw [List.map_append]; exact HO.out)).mono ?_; rintro e w5 ⟨m, rfl, hm, rfl⟩; have HM := Lib.hid hm; clear hm))
  go_ret2
  exact ⟨m, rfl, HM.out, HE.out⟩

end Go.Proofs.Ytjadapjjilegnaa
