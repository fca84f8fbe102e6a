/-
  A new group of some cells, by contract. Conditions: at most 32 cells.
  A new barrier, by contract. Conditions: the cells are there; at most 32 ahead, each named once.
  A new barrier, without and with a buffer, by contract. Conditions: the cells are there; at most 32 ahead, each named once.
  A new barrier with a buffer, by contract. Conditions: the cells are there; at most 32 ahead, each named once.
  The document's example of barriers. No condition.
-/
import Derived.Test.YtejkjpmigajidaaMvr
import Derived.Test.YtejkjpmigajidaaRp
namespace Go.Proofs.Ytejkjpmigajidaa
open Go.RowKit
set_option linter.unusedVariables false

/-- A new row of one. -/
theorem row1 (W : World) (x : Value) (e : TypeId) : (W.alloc (.cells #[x] e)).ownsRow 0 e 1 (.slice (some ⟨W.heap.size, 0, none⟩) 1 1) 1 [x] :=
  ⟨rfl, .inr ⟨W.heap.size, 1, #[x], rfl, Nat.zero_le _, obj_new _ _, Nat.le_refl _, by decide, rfl, rfl⟩⟩
theorem gq_zero : Gq (grL []).toArray 0 [] := by
  refine ⟨fun j hj => ?_, by rfl, by simp⟩
  have hl : (padI []).length = 32 := padI_len (by simp)
  rw [Nat.zero_add, List.getElem?_toArray]
  unfold grL
  rw [List.getElem?_map, List.getElem?_append_left (by omega), List.getElem?_eq_getElem (show j < (padI []).length by omega), List.getD_eq_getElem?_getD, List.getElem?_eq_getElem (show j < (padI []).length by omega)]
  rfl
theorem grZ : (grL []).toArray.size = 33 := by rw [List.size_toArray, grL_len (by simp)]
theorem built_gr : Try.prog.built 67 [] = some (grL []).toArray := by kernel_rfl
/-- A group in a block of its own, that a call made. -/
def Gn (W w : World) (g : Nat) (ids : List Int) : Prop := ∃ cs, Blk w g cs 67 ∧ Gq cs 0 ids ∧ Below W.heap.size W w ∧ W.heap.size ≤ g ∧ cs.size = 33
theorem Gn.add {W w w' : World} {g : Nat} {ids : List Int} {cs : Array Value} {id : Int} (hq : Gq cs 0 ids) (hB : Below W.heap.size W w) (hg : W.heap.size ≤ g) (hz : cs.size = 33) (hm : ids.length < 32)
    (h : Blk w' g ((cs.setIfInBounds (0 + ids.length) (.int .i64 id)).setIfInBounds (0 + 32) (.int .i64 ((ids.length : Int) + 1))) 67 ∧ Frm (fun k => k = g) w w') : Gn W w' g (ids ++ [id]) :=
  ⟨_, h.1, hq.more hm id, hB.trans (h.2.below hB.size fun k hk => hk ▸ hg), hg, by simpa using hz⟩
set_option maxHeartbeats 1000000 in
set_option maxRecDepth 100000 in
theorem of_q {W : World} {v : Value} {ids : List Int} (h : LngAt W v ids) (hn : ids.Nodup) (hr : ∀ x ∈ ids, 0 ≤ x ∧ x < 2097152) (h32 : ids.length ≤ 32) :
    Calls Try.prog 102 #[v] W fun e w' => ∃ g, e = .returned (.tuple #[.pointer (some ⟨g, 0, none⟩), .nilIface]) ∧ Gn W w' g ids := by
  obtain ⟨p, cap, rfl, hl⟩ := h
  have HL := Lib.hid hl
  have HT : Hid (ids.take ids.length = ids) := List.take_length
  have HD : Hid (∀ k, k < ids.length → ids.take (k + 1) = ids.take k ++ [ids.getD k 0]) := fun k hk => take_snoc hk
  have HZ : Hid (∀ k, k < ids.length → 0 ≤ ids.getD k 0 ∧ ids.getD k 0 < 2097152 ∧ ids.getD k 0 ∉ ids.take k ∧ (ids.take k).length < 32) := fun k hk => by
    have e : ids.getD k 0 = ids[k] := by simp [List.getD, hk]
    obtain ⟨a1, a2⟩ := hr _ (e ▸ List.getElem_mem hk : ids.getD k 0 ∈ ids)
    refine ⟨a1, a2, fun hm => ?_, by simp; omega⟩
    have h1 : (ids.take (k + 1)).Nodup := hn.sublist (List.take_sublist _ _)
    rw [take_snoc hk, List.nodup_append] at h1
    exact h1.2.2 _ hm _ (by simp) rfl
  have H0 : Hid (Gn W (W.alloc (.cells (grL []).toArray 67)) W.heap.size (ids.take 0)) := ⟨_, obj_new _ _, gq_zero, balloc (Below.refl _ _) _, Nat.le_refl _, grZ⟩
  have HBT := Lib.hid built_gr
  clear hl hn hr
  generalize (grL []).toArray = gz at *
  generalize ids.length = n at *
  go_enter Try.func102, Try.ntmps102
  go_wp2_with (refine wpList_build0 rfl 67 rfl gz HBT.out ?_)
  generalize W.alloc (.cells gz 67) = w1 at *
  generalize W.heap.size = g at *
  go_loopw [12] (fun i wl => ∃ k : Nat, k ≤ n ∧ i = .int .i64 k ∧ Hid (Gn W wl g (ids.take k))) (fun i _ => n - (intOf i).toNat)
  case atStart => exact ⟨0, Nat.zero_le _, rfl, H0⟩
  case round =>
    clear H0
    obtain ⟨k, hk, rfl, HG⟩ := hrel
    by_cases hlt : k < n
    · obtain ⟨b, off, rfl, hc⟩ : ∃ b off, p = some ⟨b, off, none⟩ ∧ ∀ j, j < n → W.cell? ⟨b, off + j, none⟩ = some (.int .i64 (ids.getD j 0)) := by
        rcases HL.out with h | h
        · omega
        · exact h
      obtain ⟨cs, g1, g2, g3, g4, g5⟩ := HG.out
      have ck := keepc g3 (hc k hlt)
      obtain ⟨z1, z2, z3, z4⟩ := HZ.out k hlt
      have HN : Hid (∀ w', (Blk w' g ((cs.setIfInBounds (0 + (ids.take k).length) (.int .i64 (ids.getD k 0))).setIfInBounds (0 + 32) (.int .i64 (((ids.take k).length : Int) + 1))) 67 ∧ Frm (fun k => k = g) wr w') → Gn W w' g (ids.take (k + 1))) := fun w' h => by
        rw [HD.out k hlt]
        exact Gn.add g2 g3 g4 g5 z4 h
      have HA : Hid (Calls Try.prog 43 #[.pointer (some ⟨g, 0, none⟩), .int .i64 (ids.getD k 0)] wr fun e w' => e = .returned .nilIface ∧ Gn W w' g (ids.take (k + 1))) := (gadd_q g1 g2 _ z1 z2 z3 z4).mono fun e w' h => ⟨h.1, HN.out w' h.2⟩
      clear hc g1 g2 g3 g4 g5 z1 z2 z3 z4 HN HZ HD HG
      generalize ids.getD k 0 = z at *
      go_wp2_with (go_at_call 43; refine HA.out.mono ?_; rintro e w2 ⟨rfl, hg⟩; have HG2 := Lib.hid hg; clear hg)
      exact ⟨⟨k + 1, by omega, by go_num, HG2⟩, by simp [intOf]; omega⟩
    · obtain rfl : k = n := by omega
      have HF : Hid (Gn W wr g ids) := Lib.hid (by have := HG.out; rw [HT.out] at this; exact this)
      clear HG HD HZ HT
      go_wp2
      go_ret2
      exact ⟨g, rfl, HF.out⟩
set_option maxHeartbeats 1000000 in
set_option maxRecDepth 100000 in
theorem gadd_there {W : World} {g o : Nat} {cs : Array Value} {T : TypeId} {ids : List Int} (h : Blk W g cs T) (hq : Gq cs o ids) (id : Int) (h0 : 0 ≤ id) (h1 : id < 2097152) (hin : id ∈ ids) :
    Calls Try.prog 43 #[.pointer (some ⟨g, o, none⟩), .int .i64 id] W fun e w' => ∃ q, e = .returned (.iface 178 (.pointer (some ⟨q, 0, none⟩))) ∧ Refused W w' (.iface 178 (.pointer (some ⟨q, 0, none⟩))) 4 := by
  have HI := Lib.hid (in_q h hq)
  have HG : Hid (∀ w, Below W.heap.size W w → Calls Try.prog 103 #[.slice (some ⟨g, o, none⟩) ids.length 32, .int .i64 id] w fun e w' => e = .returned (.bool true) ∧ w = w') := fun w hb => (ghas_q (blk_keep h hb) hq id).mono fun e w' k => ⟨by rw [k.1]; simp [hin], k.2⟩
  clear h hq hin
  generalize ids.length = n at *
  go_enter Try.func43, Try.ntmps43
  go_wp2_with (first
    | (go_at_call 104; refine HI.out.mono ?_; rintro e w1 ⟨rfl, hb⟩; have HB := Lib.hid hb; clear hb)
    | (go_at_call 103; refine (HG.out _ HB.out).mono ?_; rintro e w2 ⟨rfl, rfl⟩)
    | (go_at_call 87; refine (wrap_q _ _ _).mono ?_; rintro e w3 ⟨q, rfl, hr⟩; have HR := Lib.hid (hr.after HB.out); clear hr))
  go_ret
  exact ⟨_, rfl, HR.out⟩
set_option maxHeartbeats 1000000 in
set_option maxRecDepth 100000 in
/-- Twice the same cell. -/
theorem of_twice {W : World} {v : Value} (h : LngAt W v [1, 1]) :
    Calls Try.prog 102 #[v] W fun e w' => ∃ E, e = .returned (.tuple #[.pointer none, E]) ∧ (∃ q, E = .iface 178 (.pointer (some ⟨q, 0, none⟩))) ∧ Refused W w' E 4 := by
  obtain ⟨p, cap, rfl, hl⟩ := h
  obtain ⟨b, off, rfl, hc⟩ := hl.resolve_left (by simp)
  have c0 : W.cell? ⟨b, off, none⟩ = some (.int .i64 1) := hc 0 (by simp)
  have c1 : W.cell? ⟨b, off + 1, none⟩ = some (.int .i64 1) := hc 1 (by simp)
  have HC : Hid (W.cell? ⟨b, off, none⟩ = some (.int .i64 1) ∧ W.cell? ⟨b, off + 1, none⟩ = some (.int .i64 1)) := ⟨c0, c1⟩
  have H0 : Hid (Gn W (W.alloc (.cells (grL []).toArray 67)) W.heap.size []) := ⟨_, obj_new _ _, gq_zero, balloc (Below.refl _ _) _, Nat.le_refl _, grZ⟩
  have HBT := Lib.hid built_gr
  clear hl hc c0 c1
  generalize (grL []).toArray = gz at *
  go_enter Try.func102, Try.ntmps102
  go_wp2_with (refine wpList_build0 rfl 67 rfl gz HBT.out ?_)
  generalize W.alloc (.cells gz 67) = w1 at *
  generalize W.heap.size = g at *
  go_loopw [12] (fun i wl => ∃ k : Nat, k ≤ 1 ∧ i = .int .i64 k ∧ Hid (Gn W wl g (List.replicate k 1))) (fun i _ => 2 - (intOf i).toNat)
  case atStart => exact ⟨0, Nat.zero_le _, rfl, H0⟩
  case round =>
    clear H0
    obtain ⟨k, hk, rfl, HG⟩ := hrel
    obtain ⟨cs, g1, g2, g3, g4, g5⟩ := HG.out
    rcases (show k = 0 ∨ k = 1 by omega) with rfl | rfl
    · have ck := keepc g3 HC.out.1
      have HA : Hid (Calls Try.prog 43 #[.pointer (some ⟨g, 0, none⟩), .int .i64 1] wr fun e w' => e = .returned .nilIface ∧ Gn W w' g (List.replicate 1 1)) := (gadd_q g1 g2 1 (by decide) (by decide) (by simp) (by simp)).mono fun e w' h => ⟨h.1, Gn.add g2 g3 g4 g5 (by simp) h.2⟩
      clear g1 g2 g3 g4 g5 HG hk
      go_wp2_with (go_at_call 43; refine HA.out.mono ?_; rintro e w2 ⟨rfl, hg⟩; have HG2 := Lib.hid hg; clear hg)
      exact ⟨⟨1, by omega, by go_num, HG2⟩, by simp [intOf]⟩
    · have ck := keepc g3 HC.out.2
      have HA := Lib.hid (gadd_there g1 g2 1 (by decide) (by decide) (by simp))
      have HBW := Lib.hid g3
      clear g1 g2 g3 g4 g5 HG hk
      go_wp2_with (go_at_call 43; refine HA.out.mono ?_; rintro e w2 ⟨q, rfl, hr⟩; have HR := Lib.hid (hr.after HBW.out); clear hr)
      go_ret2
      exact ⟨_, rfl, ⟨_, rfl⟩, HR.out⟩
end Go.Proofs.Ytejkjpmigajidaa
namespace Go.Proofs.Ytejkjpmigajidaa
open Go.RowKit
set_option linter.unusedVariables false

theorem cons_ofV {α : Type} {l : List α} {n : Nat} (h : l.length = n + 1) : ∃ x t, l = x :: t ∧ t.length = n := by
  cases l with
  | nil => simp at h
  | cons x t => exact ⟨x, t, rfl, by simpa using h⟩
/-- A new barrier's cells. -/
def barV (cur : Int) (gs : List Value) (al : Int) : Array Value := (([.int .i64 cur, .pointer none] : List Value) ++ gs ++ ([.int .i64 al] : List Value)).toArray
theorem built_bar (gs : List Value) (h : gs.length = 33) (cur al : Int) : Try.prog.built 177 [(0, .int .i64 cur), (2, .agg gs.toArray), (3, .int .i64 al)] = some (barV cur gs al) := by
  obtain ⟨x0, l1, rfl, h1⟩ := cons_ofV h
  obtain ⟨x1, l2, rfl, h2⟩ := cons_ofV h1
  obtain ⟨x2, l3, rfl, h3⟩ := cons_ofV h2
  obtain ⟨x3, l4, rfl, h4⟩ := cons_ofV h3
  obtain ⟨x4, l5, rfl, h5⟩ := cons_ofV h4
  obtain ⟨x5, l6, rfl, h6⟩ := cons_ofV h5
  obtain ⟨x6, l7, rfl, h7⟩ := cons_ofV h6
  obtain ⟨x7, l8, rfl, h8⟩ := cons_ofV h7
  obtain ⟨x8, l9, rfl, h9⟩ := cons_ofV h8
  obtain ⟨x9, l10, rfl, h10⟩ := cons_ofV h9
  obtain ⟨x10, l11, rfl, h11⟩ := cons_ofV h10
  obtain ⟨x11, l12, rfl, h12⟩ := cons_ofV h11
  obtain ⟨x12, l13, rfl, h13⟩ := cons_ofV h12
  obtain ⟨x13, l14, rfl, h14⟩ := cons_ofV h13
  obtain ⟨x14, l15, rfl, h15⟩ := cons_ofV h14
  obtain ⟨x15, l16, rfl, h16⟩ := cons_ofV h15
  obtain ⟨x16, l17, rfl, h17⟩ := cons_ofV h16
  obtain ⟨x17, l18, rfl, h18⟩ := cons_ofV h17
  obtain ⟨x18, l19, rfl, h19⟩ := cons_ofV h18
  obtain ⟨x19, l20, rfl, h20⟩ := cons_ofV h19
  obtain ⟨x20, l21, rfl, h21⟩ := cons_ofV h20
  obtain ⟨x21, l22, rfl, h22⟩ := cons_ofV h21
  obtain ⟨x22, l23, rfl, h23⟩ := cons_ofV h22
  obtain ⟨x23, l24, rfl, h24⟩ := cons_ofV h23
  obtain ⟨x24, l25, rfl, h25⟩ := cons_ofV h24
  obtain ⟨x25, l26, rfl, h26⟩ := cons_ofV h25
  obtain ⟨x26, l27, rfl, h27⟩ := cons_ofV h26
  obtain ⟨x27, l28, rfl, h28⟩ := cons_ofV h27
  obtain ⟨x28, l29, rfl, h29⟩ := cons_ofV h28
  obtain ⟨x29, l30, rfl, h30⟩ := cons_ofV h29
  obtain ⟨x30, l31, rfl, h31⟩ := cons_ofV h30
  obtain ⟨x31, l32, rfl, h32⟩ := cons_ofV h31
  obtain ⟨x32, l33, rfl, h33⟩ := cons_ofV h32
  obtain rfl : l33 = [] := List.eq_nil_of_length_eq_zero h33
  kernel_rfl
theorem barV_get {gs : List Value} (h : gs.length = 33) (cur al : Int) (i : Nat) : (barV cur gs al)[i]? = if i = 0 then some (.int .i64 cur) else if i = 1 then some (.pointer none) else if i < 35 then gs[i - 2]? else if i = 35 then some (.int .i64 al) else none := by
  simp only [barV, List.getElem?_toArray]
  rcases i with _ | _ | i
  · rfl
  · rfl
  · rw [if_neg (by omega), if_neg (by omega)]
    show (gs ++ [.int .i64 al])[i]? = _
    by_cases hi : i + 1 + 1 < 35
    · rw [if_pos hi, List.getElem?_append_left (by omega)]
      rfl
    · rw [if_neg hi, List.getElem?_append_right (by omega), h]
      by_cases he : i + 1 + 1 = 35
      · rw [if_pos he, show i - 33 = 0 by omega]
        rfl
      · rw [if_neg he, List.getElem?_eq_none (by simp; omega)]
theorem barV_f {gs : List Value} {ids : List Int} (h : gs.length = 33) (hq : Gq gs.toArray 0 ids) (cur al : Nat) : BrF (barV cur gs al) cur none ids al := by
  have hg := barV_get h cur al
  refine ⟨by simp [barV, h], (hg 0).trans rfl, (hg 1).trans rfl, ⟨fun j hj => ?_, ?_, hq.len⟩, (hg 35).trans rfl⟩
  · rw [hg, if_neg (by omega), if_neg (by omega), if_pos (by omega), show 2 + j - 2 = j by omega]
    have := hq.nth j hj
    rw [Nat.zero_add, List.getElem?_toArray] at this
    exact this
  · rw [hg, if_neg (by omega), if_neg (by omega), if_pos (by omega)]
    have := hq.n
    rw [Nat.zero_add, List.getElem?_toArray] at this
    exact this
theorem BrF.shown {cs : Array Value} {cur al : Nat} {ids : List Int} (h : BrF cs cur none ids al) (q : Nat) : BrF (cs.setIfInBounds 1 (.pointer (some ⟨q, 0, none⟩))) cur (some ⟨q, 0, none⟩) ids al := by
  have hs := h.size
  refine ⟨by simp [hs], ?_, ?_, ⟨fun j hj => ?_, ?_, h.g.len⟩, ?_⟩
  · rw [Array.getElem?_setIfInBounds_ne (by decide)]; exact h.c0
  · rw [Array.getElem?_setIfInBounds_self_of_lt (by omega)]
  · rw [Array.getElem?_setIfInBounds_ne (by omega)]; exact h.g.nth j hj
  · rw [Array.getElem?_setIfInBounds_ne (by omega)]; exact h.g.n
  · rw [Array.getElem?_setIfInBounds_ne (by decide)]; exact h.c35
end Go.Proofs.Ytejkjpmigajidaa
namespace Go.Proofs.Ytejkjpmigajidaa
open Go.RowKit
set_option linter.unusedVariables false

theorem infoIb : (Try.prog.info? 3).map (fun i => (i.zero, i.size, i.bytes)) = some (some (.int .i64 0), 1, 8) := by kernel_rfl
theorem infoBf : (Try.prog.info? 157).map (·.size) = some 2 := by kernel_rfl
/-- A row behind one more. -/
theorem new_row {W w1 : World} {cur : Int} {ids : List Int} {v1 : Value} (hown : w1.ownsRow 0 3 1 v1 (1 + ids.length) ([.int .i64 cur] ++ ids.map (Value.int .i64)))
    (hf : Frm (fun k => (Value.slice (some ⟨W.heap.size, 0, none⟩) 1 1).ownBlock = some k) (W.alloc (.cells #[.int .i64 cur] 3)) w1) : LngAt w1 v1 (cur :: ids) ∧ Below W.heap.size W w1 :=
  ⟨LngAt.of_row (l := cur :: ids) (n := 1 + ids.length) hown, (balloc (Below.refl _ W) _).trans (hf.below (by simp) fun k hk => by simp [Value.ownBlock] at hk; omega)⟩
section
variable {R : Rest} {W0 W : World} {a : Nat} {xs ids : List Int} {st : Int} {va : Value} {cur : Nat}
set_option maxHeartbeats 2000000 in
set_option maxRecDepth 100000 in
theorem bnew_none  (hm : Mv R W0 W a xs st) (hc : cur < xs.length) (hl : LngAt W va ids) (hn : ids.Nodup) (hr : ∀ x ∈ ids, 0 ≤ x ∧ x < (xs.length : Int)) (h32 : ids.length ≤ 32) (hx : (xs.length : Int) < 2097152) :
    Calls Try.prog 86 #[.pointer (some ⟨a, 0, none⟩), .int .i64 cur, .pointer none, va] W fun e w' => ∃ R' bb cs, e = .returned (.tuple #[.pointer (some ⟨bb, 0, none⟩), .nilIface]) ∧ R'.le R ∧ Bw R' bb cs cur xs.length none ids ∧ Mv R' W0 w' a (xs ++ [0]) st := by
  have HM := Lib.hid hm
  have HL := Lib.hid hl
  have HOF : Hid (∀ w, Below W.heap.size W w → Calls Try.prog 102 #[va] w fun e w' => ∃ g, e = .returned (.tuple #[.pointer (some ⟨g, 0, none⟩), .nilIface]) ∧ Gn w w' g ids) := Lib.hid fun w hb => of_q (hl.keep hb) hn (fun x hx' => ⟨(hr x hx').1, by have := (hr x hx').2; omega⟩) h32
  have HZ : Hid (∀ j, j < (((cur : Nat) : Int) :: ids).length → 0 ≤ ((cur : Int) :: ids).getD j 0 ∧ ((cur : Int) :: ids).getD j 0 < (xs.length : Int)) := Lib.hid fun j hj => by
    have e : ((cur : Int) :: ids).getD j 0 = ((cur : Int) :: ids)[j] := by rw [List.getD_eq_getElem?_getD, List.getElem?_eq_getElem hj]; rfl
    rw [e]
    rcases List.mem_cons.1 (List.getElem_mem hj) with h | h
    · rw [h]; omega
    · exact hr _ h
  obtain ⟨i0, ji, jz0, jz1, jz2⟩ := info_parts infoIb
  skip
  have hlen : (((cur : Nat) : Int) :: ids).length = ids.length + 1 := rfl
  have HH := Lib.hid h32
  clear hm hl hn hr 
  go_enter Try.func86, Try.ntmps86
  go_upto_region 3 with fail
  go_wp2_with (at_builtin; refine wpList_append_lngs rfl _ _ 68 rfl 3 i0 (.int .i64 0) 8 Try.underlying68 ji jz0 jz1 jz2 rfl (.slice (some ⟨W.heap.size, 0, none⟩) 1 1) 1 [.int .i64 cur] rfl (row1 W _ _) va ids rfl (HL.out.keep (balloc (Below.refl _ _) _)) (by have := HH.out; unfold maxLen; omega) (by have := HH.out; omega) ?_; intro v1 w1 hown hf hv; have HN := Lib.hid (new_row hown hf); clear hown hf hv; obtain ⟨⟨p1, c1, rfl, hl1⟩, hb1⟩ := HN.out; have HR := Lib.hid hl1; have HB := Lib.hid hb1; clear HN hl1 hb1)
  clear ji jz0 jz1 jz2
  rw [hlen] at HR HZ
  clear hlen
  generalize hG : (((cur : Nat) : Int) :: ids) = gl at *
  have HLN : Hid (∀ w, w = w1 → Calls Try.prog 27 #[.pointer (some ⟨a, 0, none⟩)] w fun e w' => e = .returned (.int .i64 xs.length) ∧ w = w') := Lib.hid fun w hw => by subst hw; exact len_mv (HM.out.keep HB.out)
  generalize hN : ids.length = n at *
  obtain ⟨L, hL⟩ : ∃ L, n + 1 = L := ⟨_, rfl⟩
  have hLi : (n : Int) + 1 = (L : Int) := by omega
  rw [hL] at HR HZ ⊢
  rw [hLi]
  clear hLi
  have HLL := Lib.hid hL
  have hL33 : L ≤ 33 := by omega
  clear hL h32
  go_loopw [27] (fun i wl => ∃ j : Nat, j ≤ L ∧ i = .int .i64 j ∧ wl = w1) (fun i _ => L - (intOf i).toNat)
  case atStart => exact ⟨0, Nat.zero_le _, rfl, rfl⟩
  case round =>
    obtain ⟨j, hj, rfl, rfl⟩ := hrel
    by_cases hlt : j < L
    · as_aux_lemma =>
      obtain ⟨b, off, rfl, hcc⟩ := HR.out.resolve_left (by omega)
      have cj := hcc j hlt
      obtain ⟨z1, z2⟩ := HZ.out j hlt
      clear hcc
      generalize gl.getD j 0 = z at *
      have d1 : decide (z < 0) = false := decide_eq_false (by omega)
      have d2 : decide ((xs.length : Int) ≤ z) = false := decide_eq_false (by omega)
      go_wp2_with (go_at_call 27; refine (HLN.out _ rfl).mono ?_; rintro e w2 ⟨rfl, rfl⟩)
      exact ⟨⟨j + 1, by omega, by go_num, by first | trivial | rfl⟩, by simp [intOf]; omega⟩
    · as_aux_lemma =>
      obtain rfl : j = L := by omega
      clear hlt hj HZ HR HLN hL33
      go_upto_region 15 with (first
        | (go_at_call 102; refine (HOF.out _ HB.out).mono ?_; rintro e w2 ⟨g, rfl, gs, g1, g2, g3, g4, g5⟩; obtain ⟨gl2⟩ := gs; have HGQ := Lib.hid g2; have HGZ : Hid (gl2.length = 33) := Lib.hid (by simpa using g5); have H2 := Lib.hid ((HM.out.keep HB.out).boxAt g3 g4 g1); clear g1 g2 g3 g4 g5)
        | (go_at_call 32; refine (alloc_mv 0 H2.out hx).mono ?_; rintro e w3 ⟨rfl, hh⟩; have H3 := Lib.hid hh; clear hh))
      have HGI : Hid ((Try.prog.info? 67).map (·.size) = some gl2.toArray.size) := Lib.hid (by rw [List.size_toArray, HGZ.out]; kernel_rfl)
      have HBB := Lib.hid (built_bar gl2 HGZ.out cur xs.length)
      have HBF := Lib.hid (barV_f HGZ.out HGQ.out cur xs.length)
      generalize barV cur gl2 xs.length = bs at *
      go_wp2_with (first
        | (refine wpList_load_row rfl 67 (.tmp 65) rfl g rfl 67 _ (0, 0) _ H3.out.boxIs Try.underlying67 rfl HGI.out ?_)
        | (refine wpList_build3 rfl 177 0 2 3 _ _ _ rfl _ _ _ rfl rfl rfl bs ?_ ?_; exact HBB.out))
      go_ret2
      have H4 := H3.out.boxNew bs 177
      refine ⟨_, _, bs, rfl, Rest.boxLe.trans Rest.boxLe, ⟨fun w h => h.2.1, HBF.out, fun q f k h => (by cases h), (by rw [hN]; exact HH.out)⟩, H4⟩
end
end Go.Proofs.Ytejkjpmigajidaa
namespace Go.Proofs.Ytejkjpmigajidaa
open Go.RowKit
set_option linter.unusedVariables false

theorem run_alloc_bf (w : World) : (Instr.alloc 157 true (.tuple #[])).run Try.prog w = .ok (.pointer (some ⟨w.heap.size, 0, none⟩)) (w.alloc (.cells #[.int .i64 0, .int .u8 0] 157)) := by kernel_rfl
theorem wpList_alloc_bf {ops : Array Oper} {rest : List Oper} {o : Oper} {a : Act} {w : World} {Q : Exit → Act → World → Prop} (hg : o.guard = none) (ho : o.op = .alloc 157)
    (h : ∀ zs : Array Value, zs.size = 2 → wpList Try.prog ops Q rest (a.put o.dst (.pointer (some ⟨w.heap.size, 0, none⟩))) (w.alloc (.cells zs 157))) : wpList Try.prog ops Q (o :: rest) a w := by
  refine Great.wpList_runTo hg o.dst rfl _ _ ?_ (h #[.int .i64 0, .int .u8 0] rfl)
  unfold execOp
  simp only [ho, Sem.run_bind, run_alloc_bf, Result.andThen_ok, Sem.run_pure]
section
variable {R : Rest} {W0 W : World} {a : Nat} {xs ids : List Int} {st : Int} {va : Value} {cur : Nat}
set_option maxHeartbeats 2000000 in
set_option maxRecDepth 100000 in
theorem bnew_some {q f k : Nat} (hQ : ∀ w, R.inv w → Bf w q f k) (hm : Mv R W0 W a xs st) (hc : cur < xs.length) (hl : LngAt W va ids) (hn : ids.Nodup) (hr : ∀ x ∈ ids, 0 ≤ x ∧ x < (xs.length : Int)) (h32 : ids.length ≤ 32) (hx : (xs.length : Int) < 2097152) :
    Calls Try.prog 86 #[.pointer (some ⟨a, 0, none⟩), .int .i64 cur, .pointer (some ⟨q, 0, none⟩), va] W fun e w' => ∃ R' bb q' cs, e = .returned (.tuple #[.pointer (some ⟨bb, 0, none⟩), .nilIface]) ∧ R'.le R ∧ Bw R' bb cs cur xs.length (some (q', f, k)) ids ∧ Mv R' W0 w' a (xs ++ [0]) st := by
  have HM := Lib.hid hm
  have HL := Lib.hid hl
  have HOF : Hid (∀ w, Below W.heap.size W w → Calls Try.prog 102 #[va] w fun e w' => ∃ g, e = .returned (.tuple #[.pointer (some ⟨g, 0, none⟩), .nilIface]) ∧ Gn w w' g ids) := Lib.hid fun w hb => of_q (hl.keep hb) hn (fun x hx' => ⟨(hr x hx').1, by have := (hr x hx').2; omega⟩) h32
  have HZ : Hid (∀ j, j < (((cur : Nat) : Int) :: ids).length → 0 ≤ ((cur : Int) :: ids).getD j 0 ∧ ((cur : Int) :: ids).getD j 0 < (xs.length : Int)) := Lib.hid fun j hj => by
    have e : ((cur : Int) :: ids).getD j 0 = ((cur : Int) :: ids)[j] := by rw [List.getD_eq_getElem?_getD, List.getElem?_eq_getElem hj]; rfl
    rw [e]
    rcases List.mem_cons.1 (List.getElem_mem hj) with h | h
    · rw [h]; omega
    · exact hr _ h
  obtain ⟨i0, ji, jz0, jz1, jz2⟩ := info_parts infoIb
  have HQ := Lib.hid hQ
  have hlen : (((cur : Nat) : Int) :: ids).length = ids.length + 1 := rfl
  have HH := Lib.hid h32
  clear hm hl hn hr hQ
  go_enter Try.func86, Try.ntmps86
  go_upto_region 3 with fail
  go_wp2_with (at_builtin; refine wpList_append_lngs rfl _ _ 68 rfl 3 i0 (.int .i64 0) 8 Try.underlying68 ji jz0 jz1 jz2 rfl (.slice (some ⟨W.heap.size, 0, none⟩) 1 1) 1 [.int .i64 cur] rfl (row1 W _ _) va ids rfl (HL.out.keep (balloc (Below.refl _ _) _)) (by have := HH.out; unfold maxLen; omega) (by have := HH.out; omega) ?_; intro v1 w1 hown hf hv; have HN := Lib.hid (new_row hown hf); clear hown hf hv; obtain ⟨⟨p1, c1, rfl, hl1⟩, hb1⟩ := HN.out; have HR := Lib.hid hl1; have HB := Lib.hid hb1; clear HN hl1 hb1)
  clear ji jz0 jz1 jz2
  rw [hlen] at HR HZ
  clear hlen
  generalize hG : (((cur : Nat) : Int) :: ids) = gl at *
  have HLN : Hid (∀ w, w = w1 → Calls Try.prog 27 #[.pointer (some ⟨a, 0, none⟩)] w fun e w' => e = .returned (.int .i64 xs.length) ∧ w = w') := Lib.hid fun w hw => by subst hw; exact len_mv (HM.out.keep HB.out)
  generalize hN : ids.length = n at *
  obtain ⟨L, hL⟩ : ∃ L, n + 1 = L := ⟨_, rfl⟩
  have hLi : (n : Int) + 1 = (L : Int) := by omega
  rw [hL] at HR HZ ⊢
  rw [hLi]
  clear hLi
  have HLL := Lib.hid hL
  have hL33 : L ≤ 33 := by omega
  clear hL h32
  go_loopw [27] (fun i wl => ∃ j : Nat, j ≤ L ∧ i = .int .i64 j ∧ wl = w1) (fun i _ => L - (intOf i).toNat)
  case atStart => exact ⟨0, Nat.zero_le _, rfl, rfl⟩
  case round =>
    obtain ⟨j, hj, rfl, rfl⟩ := hrel
    by_cases hlt : j < L
    · as_aux_lemma =>
      obtain ⟨b, off, rfl, hcc⟩ := HR.out.resolve_left (by omega)
      have cj := hcc j hlt
      obtain ⟨z1, z2⟩ := HZ.out j hlt
      clear hcc
      generalize gl.getD j 0 = z at *
      have d1 : decide (z < 0) = false := decide_eq_false (by omega)
      have d2 : decide ((xs.length : Int) ≤ z) = false := decide_eq_false (by omega)
      go_wp2_with (go_at_call 27; refine (HLN.out _ rfl).mono ?_; rintro e w2 ⟨rfl, rfl⟩)
      exact ⟨⟨j + 1, by omega, by go_num, by first | trivial | rfl⟩, by simp [intOf]; omega⟩
    · as_aux_lemma =>
      obtain rfl : j = L := by omega
      clear hlt hj HZ HR HLN hL33
      go_upto_region 15 with (first
        | (go_at_call 102; refine (HOF.out _ HB.out).mono ?_; rintro e w2 ⟨g, rfl, gs, g1, g2, g3, g4, g5⟩; obtain ⟨gl2⟩ := gs; have HGQ := Lib.hid g2; have HGZ : Hid (gl2.length = 33) := Lib.hid (by simpa using g5); have H2 := Lib.hid ((HM.out.keep HB.out).boxAt g3 g4 g1); clear g1 g2 g3 g4 g5)
        | (go_at_call 32; refine (alloc_mv 0 H2.out hx).mono ?_; rintro e w3 ⟨rfl, hh⟩; have H3 := Lib.hid hh; clear hh))
      have HGI : Hid ((Try.prog.info? 67).map (·.size) = some gl2.toArray.size) := Lib.hid (by rw [List.size_toArray, HGZ.out]; kernel_rfl)
      have HBB := Lib.hid (built_bar gl2 HGZ.out cur xs.length)
      have HBF := Lib.hid (barV_f HGZ.out HGQ.out cur xs.length)
      generalize barV cur gl2 xs.length = bs at *
      go_upto_region 17 with (first
        | (refine wpList_load_row rfl 67 (.tmp 65) rfl g rfl 67 _ (0, 0) _ H3.out.boxIs Try.underlying67 rfl HGI.out ?_)
        | (refine wpList_build3 rfl 177 0 2 3 _ _ _ rfl _ _ _ rfl rfl rfl bs ?_ ?_; exact HBB.out))
      have H4 := Lib.hid (H3.out.boxNew bs 177)
      generalize w3.heap.size = bb at *
      generalize w3.alloc (.cells bs 177) = w4 at *
      have HQ4 := Lib.hid (HQ.out _ H4.out.inv.1.1)
      have q0 := HQ4.out.c0
      have q1 := HQ4.out.c1
      have HK := Lib.hid HQ4.out.2
      clear HQ4 HM HL HOF hG HLL hc hx
      go_upto_region 18 with fail
      have H6 := Lib.hid ((H4.out.boxNew #[.int .i64 f, .int .u8 k] 157).le Rest.bb)
      generalize w4.alloc (.cells #[.int .i64 f, .int .u8 k] 157) = w6 at *
      generalize w4.heap.size = nb at *
      clear q0 q1 H4
      have c1 : w6.cell? ⟨bb, 1, none⟩ = some (.pointer none) := (obj_cell H6.out.boxIs 1).trans HBF.out.c1
      have f1 := obj_free H6.out.boxIs 1
      have H7 := Lib.hid (H6.out.boxSet 1 (.pointer (some ⟨nb, 0, none⟩)))
      have HBF7 := Lib.hid (HBF.out.shown nb)
      go_wp2
      go_ret2
      refine ⟨_, bb, nb, _, rfl, Rest.boxLe.trans (Rest.boxLe.trans Rest.boxLe), ⟨fun w h => h.2.1, HBF7.out, fun q' f' k' h => ?_, by rw [hN]; exact HH.out⟩, H7.out⟩
      cases h
      exact fun w h => ⟨h.1.2.1, HK.out⟩
end
end Go.Proofs.Ytejkjpmigajidaa
namespace Go.Proofs.Ytejkjpmigajidaa
open Go.RowKit
set_option linter.unusedVariables false

/-- A new row of one, read. -/
theorem lng1 (W : World) (x : Int) (T : TypeId) : LngAt (W.alloc (.cells #[.int .i64 x] T)) (.slice (some ⟨W.heap.size, 0, none⟩) 1 1) [x] := by
  refine ⟨_, 1, rfl, .inr ⟨_, _, rfl, fun j hj => ?_⟩⟩
  have hj' : j < 1 := hj
  obtain rfl : j = 0 := by omega
  exact (obj_cell (obj_new W _) 0).trans rfl
theorem look_a (next : Int) (h : next = 1 ∨ next = 3) : ∃ q n, Ends (yOf [4, 2, 0] 2) (valsOf [4, 2, 0] [1]) (cOf [4, 2, 0] 0) (sbOf [4, 2, 0] none) (pr0 next) q n ∧ q.next = next ∧ q.sign ≠ 1 ∧ q.found = 2 ∧ n ≤ 2000 := by
  obtain ⟨q, n, e, h1, h2, h3, _, _, _, h5⟩ := ends_look (y := yOf [4, 2, 0] 2) (vs := valsOf [4, 2, 0] [1]) (c := cOf [4, 2, 0] 0) (next := next) (sb := sbOf [4, 2, 0] none) (sh := []) (by omega) (by decide) (by decide) (by decide) (fun f h => by cases h)
  refine ⟨q, n, e, h1, by rw [h2]; decide, ?_, h5⟩
  rw [h3]
  rcases h with rfl | rfl <;> decide
theorem inb_a : InB [4, 2, 0] 0 2 none [1] := by
  refine ⟨by decide, by decide, fun j hj => ?_, fun q f k h => (by cases h)⟩
  have hj' : j < 1 := hj
  obtain rfl : j = 0 := by omega
  decide
set_option maxHeartbeats 1000000 in
set_option maxRecDepth 100000 in
theorem awake12 (W : World) : Calls Try.prog 75 #[] W fun e w' => e = .returned (.bool true) ∧ Below W.heap.size W w' := by
  obtain ⟨q1, n1, e1, k1, s1, f1, m1⟩ := look_a 1 (.inl rfl)
  obtain ⟨q3, n3, e3, k3, s3, f3, m3⟩ := look_a 3 (.inr rfl)
  have H1 : Hid (∀ (R : Rest) (w : World) (bb a : Nat) (cs : Array Value) (st : Int), Bw R bb cs 0 2 none [1] → Mv R W w a [4, 2, 0] st → 0 ≤ st → st ≤ 100000 → Calls Try.prog 78 #[.pointer (some ⟨bb, 0, none⟩), .pointer (some ⟨a, 0, none⟩), .int .i64 1] w fun e w' => e = .returned (.tuple #[.int .i64 2, .nilIface]) ∧ Mv R W w' a [4, 2, 0] (st + n1)) := Lib.hid fun R w bb a cs st hw hm h0 h1 => by
    have := plook_ok hw inb_a hm (next := 1) (by decide) e1 s1 k1 h0 (by omega)
    rw [f1] at this
    exact this
  have H3 : Hid (∀ (R : Rest) (w : World) (bb a : Nat) (cs : Array Value) (st : Int), Bw R bb cs 0 2 none [1] → Mv R W w a [4, 2, 0] st → 0 ≤ st → st ≤ 100000 → Calls Try.prog 78 #[.pointer (some ⟨bb, 0, none⟩), .pointer (some ⟨a, 0, none⟩), .int .i64 3] w fun e w' => e = .returned (.tuple #[.int .i64 2, .nilIface]) ∧ Mv R W w' a [4, 2, 0] (st + n3)) := Lib.hid fun R w bb a cs st hw hm h0 h1 => by
    have := plook_ok hw inb_a hm (next := 3) (by decide) e3 s3 k3 h0 (by omega)
    rw [f3] at this
    exact this
  clear e1 k1 s1 f1 e3 k3 s3 f3
  have HNW : Hid (∀ (w0 w : World) (a : Nat), w0.alloc (.cells #[.int .i64 1] 3) = w → Mv R0 W w a [4, 2] 0 → Calls Try.prog 86 #[.pointer (some ⟨a, 0, none⟩), .int .i64 0, .pointer none, .slice (some ⟨w0.heap.size, 0, none⟩) 1 1] w fun e w' => ∃ R' bb cs, e = .returned (.tuple #[.pointer (some ⟨bb, 0, none⟩), .nilIface]) ∧ R'.le R0 ∧ Bw R' bb cs 0 2 none [1] ∧ Mv R' W w' a [4, 2, 0] 0) := Lib.hid fun w0 w a hw hm => by
    subst hw
    exact bnew_none (cur := 0) hm (by decide) (lng1 w0 1 _) (by decide) (by decide) (by decide) (by decide)
  go_enter Try.func75, Try.ntmps75
  go_wp2_with (first
    | (go_at_call 25; refine (new_m _).mono ?_; rintro e w1 ⟨rfl, hm⟩; have HM := Lib.hid (Mv.of_mine hm); clear hm)
    | (go_at_call_of 32 (Value.int .i64 4); refine (alloc_mv 4 HM.out (by decide)).mono ?_; rintro e w2 ⟨rfl, hm⟩; have HM2 := Lib.hid hm; clear hm)
    | (go_at_call_of 32 (Value.int .i64 2); refine (alloc_mv 2 HM2.out (by decide)).mono ?_; rintro e w3 ⟨rfl, hm⟩; have HM3 := Lib.hid hm; clear hm)
    | (go_at_call 86; refine (HNW.out _ _ _ rfl (HM3.out.keep (balloc (Below.refl _ _) _))).mono ?_; rintro e w4 ⟨R', bb, cs, rfl, -, hb, hm⟩; have HB := Lib.hid hb; have HM4 := Lib.hid hm; clear hb hm)
    | (go_at_call_of 78 (Value.int .i64 1); refine (H1.out _ _ _ _ _ 0 HB.out HM4.out (by omega) (by omega)).mono ?_; rintro e w5 ⟨rfl, hm⟩; have HM5 := Lib.hid hm; clear hm)
    | (go_at_call_of 78 (Value.int .i64 3); refine (H3.out _ _ _ _ _ _ HB.out HM5.out (by omega) (by omega)).mono ?_; rintro e w6 ⟨rfl, hm⟩; have HM6 := Lib.hid hm; clear hm))
  go_ret
  exact ⟨rfl, HM6.out.below⟩
end Go.Proofs.Ytejkjpmigajidaa
