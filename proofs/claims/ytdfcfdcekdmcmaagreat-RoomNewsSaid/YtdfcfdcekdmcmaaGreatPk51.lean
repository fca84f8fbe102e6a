/-
  Waking a list of different actors: each one is woken once, nobody else is; how many of them were parked. Plain lists: nothing here speaks of a program.
  A room's own calls by contract, whoever is asked: State, Token, Rings, Enlist, Waiting, Signal of ring 0, beside any rest that has the room. Conditions: those that each theorem names.
  How a row of bytes that is read as data lies in memory. Condition: it is read as data.
  RoomNews' walk. Conditions: the operations and the numbers lie as they are read.
-/
import Derived.Test.YtdfcfdcekdmcmaaGreatPk20
import Derived.Test.YtdfcfdcekdmcmaaGreatPk42
import Derived.Test.YtdfcfdcekdmcmaaGreatPk37
import Derived.Test.YtdfcfdcekdmcmaaGreatPk49
import Derived.OpenShut
set_option linter.unusedVariables false
set_option linter.unusedSimpArgs false
namespace Go.Proofs.YtdfcfdcekdmcmaaGreat
open Go.RowKit
set_option linter.unusedVariables false
set_option linter.unusedSimpArgs false
def lkA (xs : List Ac) (z : Int) : Ac := if 0 ≤ z then xs.getD z.toNat (2, false, 0) else (2, false, 0)
theorem lkA_in {xs : List Ac} {z : Int} (h : (lkA xs z).1 ≠ 2) : ∃ j : Nat, z = j ∧ xs[j]? = some (lkA xs z) := by
  unfold lkA at h ⊢
  by_cases h0 : 0 ≤ z
  · rw [if_pos h0] at h ⊢
    refine ⟨z.toNat, by omega, ?_⟩
    cases e : xs[z.toNat]? with
    | none =>
      rw [List.getD_eq_getElem?_getD, e] at h
      simp at h
    | some a => rw [List.getD_eq_getElem?_getD, e]; rfl
  · rw [if_neg h0] at h
    simp at h
theorem lkA_some {xs : List Ac} {j : Nat} {a : Ac} (h : xs[j]? = some a) : lkA xs j = a := by
  unfold lkA
  rw [if_pos (by omega), Int.toNat_natCast, List.getD_eq_getElem?_getD, h]
  rfl
theorem lkA_set_ne {xs : List Ac} {j : Nat} {z : Int} (a : Ac) (h : (j : Int) ≠ z) : lkA (xs.set j a) z = lkA xs z := by
  unfold lkA
  by_cases h0 : 0 ≤ z
  · rw [if_pos h0, if_pos h0, List.getD_eq_getElem?_getD, List.getD_eq_getElem?_getD, List.getElem?_set_ne (by omega)]
  · rw [if_neg h0, if_neg h0]
theorem lkA_sv {xs : List Ac} (h : Sv xs) (z : Int) : (lkA xs z).1 = 0 ∨ (lkA xs z).1 = 1 ∨ (lkA xs z).1 = 2 := by
  by_cases e : (lkA xs z).1 = 2
  · exact .inr (.inr e)
  · obtain ⟨j, _, hj⟩ := lkA_in e
    exact h.at hj
theorem wk_lk (ts : List (Int × Int)) (xs : List Ac) (z : Int) : (lkA xs z).1 = 2 ∧ (wk (ts, xs) z).2 = xs ∨ (lkA xs z).1 ≠ 2 ∧ ∃ j : Nat, z = j ∧ xs[j]? = some (lkA xs z) ∧ (wk (ts, xs) z).2 = xs.set j (wakeS (lkA xs z)) := by
  by_cases h : (lkA xs z).1 = 2
  · refine .inl ⟨h, ?_⟩
    unfold wk
    simp only
    cases e : xs[z.toNat]? with
    | none => rfl
    | some a =>
      simp only
      by_cases h0 : 0 ≤ z
      · have e2 := lkA_some e
        rw [Int.toNat_of_nonneg h0] at e2
        rw [e2] at h
        rw [if_neg (fun hc => hc.2 h)]
      · rw [if_neg (fun hc => h0 hc.1)]
  · obtain ⟨j, rfl, hj⟩ := lkA_in h
    exact .inr ⟨h, j, rfl, hj, by rw [(wk_yes hj h).1]⟩
theorem woke_lk (ts : List (Int × Int)) (xs : List Ac) (z : Int) : woke (ts, xs) z = if (lkA xs z).1 = 1 then 1 else 0 := by
  unfold woke lkA
  simp only
  by_cases h0 : 0 ≤ z
  · rw [if_pos h0, List.getD_eq_getElem?_getD]
    cases e : xs[z.toNat]? with
    | none => simp
    | some a => simp [h0]
  · rw [if_neg h0]
    cases e : xs[z.toNat]? with
    | none => simp
    | some a => simp [h0]
theorem take_next {l : List Int} {k : Nat} (hk : k < l.length) : l.take (k + 1) = l.take k ++ [l.getD k 0] := by
  rw [List.take_add_one, List.getElem?_eq_getElem hk]
  simp [List.getD, hk]
theorem nodup_next {l : List Int} (hn : l.Nodup) {k : Nat} (hk : k < l.length) : l.getD k 0 ∉ l.take k := by
  have h : (l.take (k + 1)).Nodup := hn.sublist (List.take_sublist _ _)
  rw [take_next hk, List.nodup_append] at h
  exact fun hm => h.2.2 _ hm _ (by simp) rfl
theorem wks_lk (ts : List (Int × Int)) (xs : List Ac) {l : List Int} (hn : l.Nodup) : ∀ k, k ≤ l.length → ∀ z, lkA (wks (ts, xs) l k).1.2 z = if z ∈ l.take k ∧ (lkA xs z).1 ≠ 2 then wakeS (lkA xs z) else lkA xs z := by
  intro k
  induction k with
  | zero => intro _ z; rw [wks_zero]; simp
  | succ k ih =>
    intro hk z
    have hk' : k < l.length := by omega
    have ih' := ih (by omega)
    rw [wks_next hk']
    have hnx := nodup_next hn hk'
    have htk := take_next hk'
    generalize l.getD k 0 = u at *
    have hu := ih' u
    rw [if_neg (fun hc => hnx hc.1)] at hu
    show lkA (wk ((wks (ts, xs) l k).1.1, (wks (ts, xs) l k).1.2) u).2 z = _
    have hm : z ∈ l.take (k + 1) ↔ z ∈ l.take k ∨ z = u := by rw [htk, List.mem_append, List.mem_singleton]
    rcases wk_lk (wks (ts, xs) l k).1.1 (wks (ts, xs) l k).1.2 u with ⟨h2, hw⟩ | ⟨h2, j, rfl, hj, hw⟩
    · rw [hw, ih' z]
      rw [hu] at h2
      by_cases e : z = u
      · subst e
        rw [if_neg (fun hc => hc.2 h2), if_neg (fun hc => hc.2 h2)]
      · simp only [hm, e, or_false]
    · rw [hw]
      rw [hu] at h2 hj
      by_cases e : z = j
      · subst e
        rw [if_pos ⟨hm.2 (.inr rfl), h2⟩]
        rw [hu]
        exact lkA_some (List.getElem?_set_self (List.getElem?_eq_some_iff.1 hj).1)
      · rw [lkA_set_ne _ (Ne.symm e), ih' z]
        simp only [hm, e, or_false]
def prkN (xs : List Ac) (l : List Int) (k : Nat) : Nat := ((l.take k).filter fun z => (lkA xs z).1 == 1).length
theorem prkN_zero (xs : List Ac) (l : List Int) : prkN xs l 0 = 0 := by simp [prkN]
theorem prkN_next (xs : List Ac) {l : List Int} {k : Nat} (hk : k < l.length) : prkN xs l (k + 1) = prkN xs l k + if (lkA xs (l.getD k 0)).1 = 1 then 1 else 0 := by
  unfold prkN
  rw [take_next hk, List.filter_append, List.length_append]
  generalize l.getD k 0 = u
  by_cases e : (lkA xs u).1 = 1 <;> simp [e]
theorem prkN_le (xs : List Ac) (l : List Int) (k : Nat) : prkN xs l k ≤ k := by
  unfold prkN
  refine Nat.le_trans (List.length_filter_le _ _) ?_
  simp
  omega
theorem wks_cnt (ts : List (Int × Int)) (xs : List Ac) {l : List Int} (hn : l.Nodup) : ∀ k, k ≤ l.length → (wks (ts, xs) l k).2 = prkN xs l k := by
  intro k
  induction k with
  | zero => intro _; rw [wks_zero, prkN_zero]
  | succ k ih =>
    intro hk
    have hk' : k < l.length := by omega
    rw [wks_next hk', prkN_next _ hk', ← ih (by omega)]
    show _ + woke ((wks (ts, xs) l k).1.1, (wks (ts, xs) l k).1.2) (l.getD k 0) = _
    have e := wks_lk ts xs hn k (by omega) (l.getD k 0)
    rw [if_neg (fun hc => nodup_next hn hk' hc.1)] at e
    rw [woke_lk, e]
end Go.Proofs.YtdfcfdcekdmcmaaGreat
namespace Go.Proofs.YtdfcfdcekdmcmaaGreat
open Go.RowKit
set_option linter.unusedVariables false
set_option linter.unusedSimpArgs false
set_option maxRecDepth 100000 in
theorem look_out (W : World) (b : Nat) (v : Value) (xs : List Ac) (id : Int) (h : Tb W b v xs) (ho : id < 0 ∨ (xs.length : Int) ≤ id) :
    Calls Tryz.prog 74 #[.pointer (some ⟨b, 0, none⟩), .int .i64 id] W fun e w' => e = .returned (.agg #[.int .i64 2, .bool false, .int .i64 0]) ∧ Below W.heap.size W w' := by
  have HK := Lib.hid (h.keepB (balloc (Below.refl _ _) (.cells #[.int .i64 0, .bool false, .int .i64 0] 153)))
  have c0 := HK.out.c0
  clear h
  by_cases h0 : id < 0
  · have d1 : decide (id < 0) = true := decide_eq_true h0
    clear h0 ho
    go_enter Tryz.func74, Tryz.ntmps74
    go_wp2_with (go_at_call 15; refine (tlen _ _ _ xs HK.out).mono ?_; rintro e w' ⟨rfl, rfl⟩)
    refine bodyPost_ret (v := .agg #[.int .i64 2, .bool false, .int .i64 0]) ?_ rfl ⟨rfl, ?_⟩
    · simp [results, Tryz.results74, go_sem]
    · exact balloc (Below.refl _ _) _
  · have d1 : decide (id < 0) = false := decide_eq_false h0
    have d2 : decide ((xs.length : Int) ≤ id) = true := decide_eq_true (ho.resolve_left h0)
    clear h0 ho
    go_enter Tryz.func74, Tryz.ntmps74
    go_wp2_with (go_at_call 15; refine (tlen _ _ _ xs HK.out).mono ?_; rintro e w' ⟨rfl, rfl⟩)
    refine bodyPost_ret (v := .agg #[.int .i64 2, .bool false, .int .i64 0]) ?_ rfl ⟨rfl, ?_⟩
    · simp [results, Tryz.results74, go_sem]
    · exact balloc (Below.refl _ _) _
set_option maxRecDepth 100000 in
theorem tstate_out (W : World) (b : Nat) (v : Value) (xs : List Ac) (id : Int) (h : Tb W b v xs) (ho : id < 0 ∨ (xs.length : Int) ≤ id) :
    Calls Tryz.prog 19 #[.pointer (some ⟨b, 0, none⟩), .int .i64 id] W fun e w' => e = .returned (.int .i64 2) ∧ Below W.heap.size W w' := by
  have hfl := fld0
  go_enter Tryz.func19, Tryz.ntmps19
  go_wp2_with (go_at_call 74; refine (look_out _ _ _ xs _ h ho).mono ?_; rintro e w' ⟨rfl, hb⟩)
  go_ret
  exact ⟨rfl, hb⟩
set_option maxRecDepth 100000 in
theorem ttoken_out (W : World) (b : Nat) (v : Value) (xs : List Ac) (id : Int) (h : Tb W b v xs) (ho : id < 0 ∨ (xs.length : Int) ≤ id) :
    Calls Tryz.prog 21 #[.pointer (some ⟨b, 0, none⟩), .int .i64 id] W fun e w' => e = .returned (.bool false) ∧ Below W.heap.size W w' := by
  have hfl := fld1
  go_enter Tryz.func21, Tryz.ntmps21
  go_wp2_with (go_at_call 74; refine (look_out _ _ _ xs _ h ho).mono ?_; rintro e w' ⟨rfl, hb⟩)
  go_ret
  exact ⟨rfl, hb⟩
theorem lkA_out {xs : List Ac} {z : Int} (ho : z < 0 ∨ (xs.length : Int) ≤ z) : lkA xs z = (2, false, 0) := by
  unfold lkA
  by_cases h0 : 0 ≤ z
  · rw [if_pos h0, List.getD_eq_getElem?_getD, List.getElem?_eq_none (by omega)]
    rfl
  · rw [if_neg h0]
section
variable {R : Rest} {W0 W w : World} {r a c t g n : Nat} {ts : List (Int × Int)} {now : Int} {xs : List Ac} {sl one many wv v : Value} {ws : List Int} {T : TypeId} {z k : Nat} {ys : List Value}
theorem state_l (h : Rc R W0 W c t ts now xs) (z : Int) : Calls Tryz.prog 19 #[.pointer (some ⟨t, 0, none⟩), .int .i64 z] W fun e w' => e = .returned (.int .i64 (lkA xs z).1) ∧ Below W.heap.size W w' := by
  by_cases ho : z < 0 ∨ (xs.length : Int) ≤ z
  · rw [lkA_out ho]
    obtain ⟨cv, tv, h1, h2, h3, h4, h5, h6, h7⟩ := h
    exact tstate_out W t tv xs z h2 ho
  · obtain ⟨j, rfl⟩ : ∃ j : Nat, z = j := ⟨z.toNat, by omega⟩
    have hj : xs[j]? = some xs[j] := List.getElem?_eq_getElem (by omega)
    rw [lkA_some hj]
    exact tstate_c h j _ hj
theorem token_l (h : Rc R W0 W c t ts now xs) (z : Int) : Calls Tryz.prog 21 #[.pointer (some ⟨t, 0, none⟩), .int .i64 z] W fun e w' => e = .returned (.bool (lkA xs z).2.1) ∧ Below W.heap.size W w' := by
  by_cases ho : z < 0 ∨ (xs.length : Int) ≤ z
  · rw [lkA_out ho]
    obtain ⟨cv, tv, h1, h2, h3, h4, h5, h6, h7⟩ := h
    exact ttoken_out W t tv xs z h2 ho
  · obtain ⟨j, rfl⟩ : ∃ j : Nat, z = j := ⟨z.toNat, by omega⟩
    have hj : xs[j]? = some xs[j] := List.getElem?_eq_getElem (by omega)
    rw [lkA_some hj]
    exact ttoken_c h j _ hj
theorem Rc.rowNew (h : Rc R W0 W c t ts now xs) (hb : Below W.heap.size W w) (ho : w.ownsRow W.heap.size T z v k ys) : Rc (R.row W0.heap.size T z v k ys) W0 w c t ts now xs := by
  have h2 := h.keep hb
  have hle : W0.heap.size ≤ W.heap.size := h.below.size
  have hg : ∀ g, v.ownBlock = some g → W.heap.size ≤ g ∧ g < w.heap.size := fun g e => by
    rcases ho.2 with ⟨rfl, _⟩ | ⟨g', cap, cur, rfl, hg, hh, _⟩
    · simp [Value.ownBlock] at e
    · simp [Value.ownBlock] at e
      subst e
      exact ⟨hg, lt_of_block hh⟩
  refine h.turn2 (S := fun _ => False) (Frm.of_below hb _) (fun g hg => hg.elim) (fun g hp => ?_) ⟨h2.inv, row_base ho hle, fun k hk e => ?_⟩
  · rcases hp with hp | hp
    · exact .inl hp
    · exact .inr (hg g hp)
  · have := h.prot_lt hk
    have := (hg k e).1
    omega
theorem Rc.rnRow (h : Rc ((RnR R W0.heap.size g sl one many wv ws).row W0.heap.size T z v k ys) W0 W c t ts now xs) : Rc (RnR (R.row W0.heap.size T z v k ys) W0.heap.size g sl one many wv ws) W0 W c t ts now xs := by
  have hl := (Rest.br (R := R.row W0.heap.size 3 1 wv ws.length (ws.map (Value.int .i64))) (B := W0.heap.size) (p := g) (cs := #[sl, one, many, wv]) (U := 149) (T := T) (z := z) (v := v) (n := k) (xs := ys)).trans (Rest.rr.box)
  exact Rc.le h hl.1 (hl.2 _ h.inv)
structure Tl (R : Rest) (r a c t g n : Nat) (sl one many : Value) : Prop where
  hr : ∀ w, R.inv w → RmC w r a c t
  hfd : ∀ (w : World) (op : ByteArray), R.inv w → Calls Tryz.prog 69 #[.pointer (some ⟨r, 0, none⟩), .string op, .int .i64 0] w fun e w' => e = .returned (.tuple #[.pointer (some ⟨g, 0, none⟩), .nilIface]) ∧ w = w'
  hat : ∀ (w : World) (wv : Value), R.inv w → wv.oneCell' = true → w.heap[g]? = some (.cells #[sl, one, many, wv] 149 (0, 0)) → ∃ rg cap, RgAt w r 0 g n cap rg sl one many wv
theorem Tl.row (h : Tl R r a c t g n sl one many) (B : Nat) (T : TypeId) (z : Nat) (v : Value) (k : Nat) (ys : List Value) : Tl (R.row B T z v k ys) r a c t g n sl one many :=
  ⟨fun w hi => h.hr w hi.1, fun w op hi => h.hfd w op hi.1, fun w wv hi => h.hat w wv hi.1⟩
theorem tl_hr (h : Tl R r a c t g n sl one many) {B : Nat} : ∀ w, (RnR R B g sl one many wv ws).inv w → RmC w r a c t := fun w hi => h.hr w hi.1.1
theorem tl_at (hT : Tl R r a c t g n sl one many) (h : Rc (RnR R W0.heap.size g sl one many wv ws) W0 W c t ts now xs) : ∃ rg cap, RgAt W r 0 g n cap rg sl one many wv :=
  hT.hat W wv h.inv.1.1 (row_one h.inv.1.2.1) h.boxIs
theorem tl_rings (hT : Tl R r a c t g n sl one many) (h : Rc (RnR R W0.heap.size g sl one many wv ws) W0 W c t ts now xs) : Calls Tryz.prog 16 #[.pointer (some ⟨r, 0, none⟩)] W fun e w' => e = .returned (.int .i64 n) ∧ W = w' := by
  obtain ⟨rg, cap, hat⟩ := tl_at hT h
  exact rrings_n hat.c3
theorem tl_enlist (hT : Tl R r a c t g n sl one many) (h : Rc (RnR R W0.heap.size g sl one many wv ws) W0 W c t ts now xs) (hn : ws.Nodup) (hl : ws.length ≤ 1000) (who : Int) :
    Calls Tryz.prog 17 #[.pointer (some ⟨r, 0, none⟩), .int .i64 0, .int .i64 who] W fun e w' => ∃ (E wv' : Value) (ws' : List Int), e = .returned E ∧ ws'.Nodup ∧ ws'.length ≤ ws.length + 1 ∧ Rc (RnR R W0.heap.size g sl one many wv' ws') W0 w' c t ts now xs := by
  rcases wr_or xs who with ⟨m, hne, hw⟩ | ⟨j, u, rfl, hu, hs⟩
  · refine (renlist_bad (tl_hr hT) (fun w op hi => hT.hfd w op hi.1.1) h who m hw).mono ?_
    rintro e w1 ⟨p, rfl, hc, hb⟩
    exact ⟨_, wv, ws, rfl, hn, by omega, h.keep hb⟩
  · by_cases hin : ws.contains (j : Int) = true
    · refine (renlist_in hT.hr hT.hfd h j u hu hs hin (by omega)).mono ?_
      rintro e w1 ⟨rfl, hb⟩
      exact ⟨_, wv, ws, rfl, hn, by omega, h.keep hb⟩
    · have hin2 : ws.contains (j : Int) = false := by simpa using hin
      refine (renlist_new hT.hr hT.hfd h j u hu hs hin2 (by omega)).mono ?_
      rintro e w1 ⟨rfl, wv', hh⟩
      refine ⟨_, wv', _, rfl, ?_, by simp, hh⟩
      rw [List.nodup_append]
      refine ⟨hn, by simp, fun u hu v hv e => ?_⟩
      simp at hv
      subst hv
      subst e
      exact hin (by simpa using hu)
set_option maxRecDepth 100000 in
theorem tl_waiting (hT : Tl R r a c t g n sl one many) (h : Rc (RnR R W0.heap.size g sl one many wv ws) W0 W c t ts now xs) (hl : ws.length ≤ 1000) :
    Calls Tryz.prog 18 #[.pointer (some ⟨r, 0, none⟩), .int .i64 0] W fun e w' => ∃ v, e = .returned v ∧ Rc (RnR (R.row W0.heap.size 3 1 v ws.length (ws.map (Value.int .i64))) W0.heap.size g sl one many wv ws) W0 w' c t ts now xs := by
  obtain ⟨rg, cap, hat⟩ := tl_at hT h
  have HL := Lib.hid (look_ok hat)
  have hrow : W.ownsRow W0.heap.size 3 1 wv ws.length (ws.map (Value.int .i64)) := h.inv.1.2.1
  obtain ⟨pw, cw, hv, -⟩ := row_form hrow
  have HR : Hid (∀ w, Below W.heap.size W w → w.ownsRow W0.heap.size 3 1 wv ws.length (ws.map (Value.int .i64))) := Lib.hid fun w hb => (Frm.of_below hb fun _ => False).row hrow fun _ _ => id
  have HEND : Hid (∀ w v, Below W.heap.size W w → w.ownsRow W.heap.size 3 1 v ws.length (ws.map (Value.int .i64)) → Rc (RnR (R.row W0.heap.size 3 1 v ws.length (ws.map (Value.int .i64))) W0.heap.size g sl one many wv ws) W0 w c t ts now xs) := Lib.hid fun w v hb ho => by
    exact (h.rowNew hb ho).rnRow
  subst hv
  have HW : Hid (ws.length ≤ 1000) := Lib.hid hl
  have hfl := rfldw
  clear h hat hrow hl
  go_enter Tryz.func18, Tryz.ntmps18
  go_wp2_with (first
    | (go_at_call 73; refine HL.out.mono ?_; rintro e w1 ⟨rfl, hb⟩; have HB := Lib.hid hb; clear hb)
    | (go_at_call 72; refine (wclone (HR.out _ HB.out) HW.out).mono ?_; rintro e w2 ⟨v, rfl, ho, hb⟩; have HO := Lib.hid ho; have HB2 := Lib.hid hb; clear ho hb))
  go_ret
  exact ⟨_, rfl, HEND.out _ _ (bthen HB.out HB2.out) (row_base HO.out HB.out.size)⟩
theorem tl_signal (hT : Tl R r a c t g n sl one many) (h : Rc (RnR R W0.heap.size g sl one many wv ws) W0 W c t ts now xs) {B : Int} (hb : Wb B xs) (hB : B + ws.length < 4611686018427387904) (hn : (ts.length : Int) ≤ 1048576) (hl : (ws.length : Int) ≤ 1048576) :
    Calls Tryz.prog 20 #[.pointer (some ⟨r, 0, none⟩), .int .i64 0] W fun e w' => e = .returned (.tuple #[.int .i64 (wks (ts, xs) ws ws.length).2, .nilIface]) ∧ Rc (RnR R W0.heap.size g sl one many (.slice none 0 0) []) W0 w' c t (wks (ts, xs) ws ws.length).1.1 now (wks (ts, xs) ws ws.length).1.2 := by
  refine (rsignal_ok hT.hr hT.hfd h hb hB hn hl).mono ?_
  rintro e w1 ⟨rfl, h1⟩
  have l1 := (Rest.nilLe (R := R) (B := W0.heap.size) 3 1).box (B := W0.heap.size) (p := g) (cs := #[sl, one, many, .slice none 0 0]) (U := 149)
  exact ⟨rfl, Rc.le h1 l1.1 (l1.2 _ h1.inv)⟩
end
section
variable {R : Rest} {W0 W w : World} {a : Nat} {cs : List Int} {st : Int} {C : Cw} {d : Dw} {q : Nat} {x : Cr}
theorem bo_tl (h : Bo R W0 W a cs st C d q) (hx : C.L[0]? = some x) : ∃ R1, Tl R1 C.r a C.c C.t x.g C.L.length (.pointer (some ⟨x.sb, 0, none⟩)) x.one x.mny ∧ Rc (RnR R1 W0.heap.size x.g (.pointer (some ⟨x.sb, 0, none⟩)) x.one x.mny x.wv x.ws) W0 W C.c C.t C.ts C.now C.xs := by
  have hl8 : C.L.length ≤ 8 := by rw [h.pl.len]; exact h.pl.l8
  obtain ⟨av, hrc⟩ := h.cm.rcTop hx
  refine ⟨_, ⟨fun w hi => Z_hr hi, fun w op hi => Z_find hx hl8 op hi, fun w wv hi h1 hg => ?_⟩, hrc⟩
  have i1 : w.heap[C.r]? = some (.cells (C.cells a) 109 (0, 0)) := lay_is hi (l := .box C.r (C.cells a) 109) (by simp [Cw.Z, Cw.head])
  have i2 : w.ownsRow W0.heap.size 143 1 C.rv C.L.length C.ps := lay_is hi (l := .row 143 1 C.rv C.L.length C.ps) (by simp [Cw.Z, Cw.head])
  have hi0 : 0 < C.L.length := (List.getElem?_eq_some_iff.1 hx).1
  obtain ⟨rg, cap, hv, _, _⟩ := row_some i2 (by omega)
  rw [hv] at i2
  refine ⟨rg, cap, (obj_cell i1 3).trans (by simp [Cw.cells, hv]), hi0, by omega, ?_, ?_, hg⟩
  · rw [i2.cellAt 0 (by omega)]
    simp [Cw.ps, hx]
  · unfold Cr.one Cr.mny
    cases x.many <;> simp [h1] <;> exact ⟨rfl, rfl, rfl⟩
end
end Go.Proofs.YtdfcfdcekdmcmaaGreat
namespace Go.Proofs.YtdfcfdcekdmcmaaGreat
open Go.RowKit Go.ChangeShapes Go.WideShapes Go.Deep
def NumsAt (W : World) (v : Value) (n : Nat) (z : Nat → Int) : Prop :=
  ∃ p cap, v = .slice p n cap ∧ n ≤ maxLen ∧ (n = 0 ∨ ∃ b off, p = some ⟨b, off, none⟩ ∧ ∀ j, j < n → W.cell? ⟨b, off + j, none⟩ = some (.int .u8 (z j)) ∧ 0 ≤ z j ∧ z j ≤ 255)
theorem open_nums {H : Type} {enc : TypeId × Value → H} {w : World} {base : Nat} {spare : Nat → Bool} {held : Bool} {fuel : Nat} {v : Value} {x : DataW H × List MemPlace} (h : DataW.trod enc Tryz.prog w base spare held fuel 33 [v] = some x) : ∃ n z, NumsAt w v n z := by
  rcases open_ints Tryz.underlying33 Tryz.underlying5 (by kernel_rfl) h with ⟨h0, _⟩ | ⟨a, len, cap, zs, hcs, _, hl, hm, hlen, _, hcell, hwf⟩
  · simp at h0; subst h0
    exact ⟨0, fun _ => 0, none, 0, rfl, Nat.zero_le _, Or.inl rfl⟩
  · simp at hcs; subst hcs
    have hle : len ≤ zs.length := by rw [hlen]; split <;> omega
    refine ⟨len, fun j => zs.getD j 0, _, cap, rfl, by omega, ?_⟩
    rcases Nat.eq_zero_or_pos len with h0 | hpos
    · exact Or.inl h0
    · right
      obtain ⟨b, off, spot⟩ := a
      have hspot : spot = none := by simpa [Addr.add] using World.cell?_spot (hcell 0 (by omega))
      subst hspot
      refine ⟨b, off, rfl, fun j hj => ?_⟩
      have hj' : j < zs.length := by omega
      have h1 := hcell j hj'
      rw [addr_add] at h1
      have h2 := u8_wf (hwf zs[j] (List.getElem_mem hj'))
      have e : zs.getD j 0 = zs[j] := by simp [List.getD, hj']
      rw [← e] at h2
      exact ⟨h1, h2⟩
end Go.Proofs.YtdfcfdcekdmcmaaGreat
namespace Go.Proofs.YtdfcfdcekdmcmaaGreat
open Go.RowKit
set_option linter.unusedVariables false
set_option linter.unusedSimpArgs false
theorem infoST : (Tryz.prog.info? 43).map (fun i => (i.zero, i.size, i.bytes)) = some (some (.int .i64 0), 1, 8) := by kernel_rfl
theorem nodup_drop {l : List Int} (hn : l.Nodup) {k : Nat} (hk : k < l.length) : ∀ z ∈ l.drop (k + 1), z ≠ l.getD k 0 := by
  intro z hz e
  have h : l.drop k = l.getD k 0 :: l.drop (k + 1) := by
    rw [List.drop_eq_getElem_cons hk]
    simp [List.getD, hk]
  have h2 : (l.drop k).Nodup := hn.sublist (List.drop_sublist _ _)
  rw [h, List.nodup_cons] at h2
  exact h2.1 (e ▸ hz)
theorem getD_drop {l : List Int} {k : Nat} (hk : k < l.length) : l.getD k 0 ∈ l.drop k := by
  have e : l.getD k 0 = l[k] := by simp [List.getD, hk]
  rw [e, List.drop_eq_getElem_cons hk]
  exact List.mem_cons_self
theorem drop_sub {l : List Int} {k : Nat} {z : Int} (h : z ∈ l.drop (k + 1)) : z ∈ l.drop k := by
  have : l.drop (k + 1) = (l.drop k).drop 1 := by rw [List.drop_drop]
  rw [this] at h
  exact List.mem_of_mem_drop h
def stsV (xs : List Ac) (l : List Int) : List Value := l.map fun z => .int .i64 (lkA xs z).1
section
variable {R1 : Rest} {w1 W : World} {r a c t g nL : Nat} {ts : List (Int × Int)} {now : Int} {xs : List Ac} {sl one many lv : Value} {l : List Int}
abbrev NwA (R1 : Rest) (w1 : World) (c t g : Nat) (sl one many wv lv : Value) (l : List Int) (ts : List (Int × Int)) (now : Int) (xs : List Ac) (k : Nat) (sv : Value) (w : World) : Prop :=
  Rc ((RnR (R1.row w1.heap.size 3 1 lv l.length (l.map (Value.int .i64))) w1.heap.size g sl one many wv l).row w1.heap.size 43 1 sv k (stsV xs (l.take k))) w1 w c t ts now xs
end
set_option maxHeartbeats 16000000 in
set_option maxRecDepth 100000 in
theorem rnews_walk {W : World} {v : Value} {n : Nat} {z : Nat → Nat → Int} (hO : OpsAt W v n 5 z) {u : Value} {m : Nat} {y : Nat → Int} (hU : NumsAt W u m y) :
    Calls Tryz.prog 4 #[v, u] W fun e w' => e = .returned (.bool true) ∧ Below W.heap.size W w' := by
  have HSM := Lib.hid (small14 hO)
  obtain ⟨p, cap, rfl, hnm, hc⟩ := hO
  obtain ⟨pu, capu, rfl, hum, hcu⟩ := hU
  have HC := Lib.hid hc
  have HCU := Lib.hid hcu
  have hnb : (n : Int) ≤ 9223372036854775807 := by unfold maxLen at hnm; omega
  have hub : (m : Int) ≤ 9223372036854775807 := by unfold maxLen at hum; omega
  clear hc hcu hum hnm
  by_cases h30 : 30 < m
  · have d30 : decide ((30 : Int) < (m : Int)) = true := decide_eq_true (by omega)
    clear HC HCU h30
    go_enter Tryz.func4, Tryz.ntmps4
    go_wp2_with (first
      | (go_at_call 8; refine HSM.out.mono ?_; rintro e w1 ⟨b, rfl, hs, hb⟩; have HB := Lib.hid hb; clear hb hs; rcases Bool.eq_false_or_eq_true b with rfl | rfl)
      | (go_at_call 9; refine (awake14 _).mono ?_; rintro e w2 ⟨rfl, hb⟩; have HB2 := Lib.hid (bthen HB.out hb); clear hb))
    · go_ret
      exact ⟨rfl, HB2.out⟩
    · go_wp2_with (go_at_call 9; refine (awake14 _).mono ?_; rintro e w2 ⟨rfl, hb⟩; have HB2 := Lib.hid (bthen HB.out hb); clear hb)
      go_ret
      exact ⟨rfl, HB2.out⟩
  have d30 : decide ((30 : Int) < (m : Int)) = false := decide_eq_false (by omega)
  go_enter Tryz.func4, Tryz.ntmps4
  go_wp2_with (first
    | (go_at_call 8; refine HSM.out.mono ?_; rintro e w1 ⟨b, rfl, hs, hb⟩; have HB := Lib.hid hb; have HS := Lib.hid hs; clear hb hs; rcases (Bool.eq_false_or_eq_true b).symm with rfl | rfl)
    | (go_at_call 9; refine (awake14 _).mono ?_; rintro e w2 ⟨rfl, hb⟩; have HB2 := Lib.hid (bthen HB.out hb); clear hb))
  · go_ret
    exact ⟨rfl, HB2.out⟩
  obtain ⟨hn, hsm⟩ := HS.out trivial
  have HS2 := Lib.hid hsm
  clear hsm HS HSM
  go_wp2_with (first
    | (go_at_call 10; refine (rnew _).mono ?_; rintro e w2 ⟨r1, a1, c1, t1, rfl, hr⟩; have HR := Lib.hid hr; clear hr)
    | (go_at_call 11; refine (both_new HR.out).mono ?_; rintro e w3 ⟨rfl, hm⟩; have HM := Lib.hid hm; clear hm HR))
  generalize w2.heap.size + 1 = wb at *
  go_loopw [41] (fun i wl => ∃ k : Nat, k ≤ n ∧ i = .int .i64 k ∧ Hid (Mid w1 a1 (PlP a1 k r1 wb) R0 wl)) (fun i _ => n - (intOf i).toNat)
  case atStart => exact ⟨0, Nat.zero_le _, rfl, HM⟩
  case round =>
    obtain ⟨k, hk, rfl, HK⟩ := hrel
    have HBL := Lib.hid (bthen HB.out HK.out.below)
    by_cases hlt : k < n
    · as_aux_lemma =>
        obtain ⟨b, off, rfl, hcell⟩ := HC.out.resolve_left (by omega)
        have hk4 := hcell k hlt
        have q0 := keepc HBL.out (hk4 0 (by decide)).1
        have q1 := keepc HBL.out (hk4 1 (by decide)).1
        have q2 := keepc HBL.out (hk4 2 (by decide)).1
        have q3 := keepc HBL.out (hk4 3 (by decide)).1
        have q4 := keepc HBL.out (hk4 4 (by decide)).1
        simp only [Nat.add_zero] at q0
        have HM1 := Lib.hid ((mid_bx _ _ _).new #[.int .i64 (z k 0), .int .i64 (z k 1), .int .i64 (z k 2), .int .i64 (z k 3), .int .i64 (z k 4)] 30 HK.out)
        have HD := Lib.hid (do_any HM1.out (by omega) (z k 0) (z k 1) (z k 2) (z k 3) (z k 4) (HS2.out k hlt) (hk4 1 (by decide)).2.1 (hk4 3 (by decide)).2.1 (hk4 3 (by decide)).2.2)
        clear hcell hk4
        generalize z k 0 = z0 at *
        generalize z k 1 = z1 at *
        generalize z k 2 = z2 at *
        generalize z k 3 = z3 at *
        generalize z k 4 = z4 at *
        go_wp2_with (go_at_call 12; refine HD.out.mono ?_; rintro e w4 ⟨rfl, hm⟩; have HM3 := Lib.hid ((mid_bx _ _ _).drop hm); clear hm)
        exact ⟨⟨k + 1, by omega, by go_num, HM3⟩, by simp [intOf]; omega⟩
    · obtain rfl : k = n := by omega
      obtain ⟨cs, st, C, d, ⟨hCr, hdw, pl⟩, hmv⟩ := HK.out
      have HBO : Hid (Bo R0 w1 wr a1 cs st C d k) := Lib.hid ⟨hmv, pl⟩
      subst hCr
      clear hmv HC HS2 HM HK hlt hk hdw
      have HAC := Lib.hid (al_actors HBO.out)
      have HLN := Lib.hid (al_len HBO.out)
      have HRN := Lib.hid (al_rings HBO.out)
      by_cases hz : d.L.length = 0 ∨ d.xs.length = 0
      · by_cases hz1 : d.L.length = 0
        · rw [hz1] at HRN
          go_wp2_with (first
            | (go_at_call 14; refine HAC.out.mono ?_; rintro e w2 ⟨rfl, rfl⟩)
            | (go_at_call 15; refine HLN.out.mono ?_; rintro e w2 ⟨rfl, rfl⟩)
            | (go_at_call 16; refine HRN.out.mono ?_; rintro e w2 ⟨rfl, rfl⟩)
            | (go_at_call 9; refine (awake14 _).mono ?_; rintro e w6 ⟨rfl, hb⟩; have HB6 := Lib.hid (bthen HBL.out hb); clear hb))
          go_ret
          exact ⟨rfl, HB6.out⟩
        · have hz2 : d.xs.length = 0 := hz.resolve_left hz1
          rw [hz2] at HLN
          have e0 : ((d.L.length : Int) == 0) = false := by rw [beq_eq_false_iff_ne]; omega
          go_wp2_with (first
            | (go_at_call 14; refine HAC.out.mono ?_; rintro e w2 ⟨rfl, rfl⟩)
            | (go_at_call 15; refine HLN.out.mono ?_; rintro e w2 ⟨rfl, rfl⟩)
            | (go_at_call 16; refine HRN.out.mono ?_; rintro e w2 ⟨rfl, rfl⟩)
            | (go_at_call 9; refine (awake14 _).mono ?_; rintro e w6 ⟨rfl, hb⟩; have HB6 := Lib.hid (bthen HBL.out hb); clear hb))
          go_ret
          exact ⟨rfl, HB6.out⟩
      have hz1 : 0 < d.L.length := by omega
      have hz2 : 0 < d.xs.length := by omega
      have e0 : ((d.L.length : Int) == 0) = false := by rw [beq_eq_false_iff_ne]; omega
      have e1 : ((d.xs.length : Int) == 0) = false := by rw [beq_eq_false_iff_ne]; omega
      obtain ⟨x, y0, hx, hy0, tw⟩ := pl.at hz1
      have hwn : x.ws.Nodup := by rw [tw.ws]; exact tw.wn
      have hwl : x.ws.length ≤ k := by rw [tw.ws]; exact tw.wl
      obtain ⟨R1, hT, hrc⟩ := bo_tl HBO.out hx
      have HT := Lib.hid hT
      have HRC := Lib.hid hrc
      have hxl : C.xs.length ≤ 64 := by rw [pl.xs]; exact pl.xl
      have hxe : C.xs.length = d.xs.length := by rw [pl.xs]
      have HSV : Hid (Sv C.xs) := Lib.hid (by rw [pl.xs]; exact pl.sv)
      have HWB : Hid (Wb (1000 * k) C.xs) := Lib.hid (by rw [pl.xs]; exact pl.wb)
      have HTS : Hid ((C.ts.length : Int) ≤ 1048576) := Lib.hid HBO.out.tsl
      have HWN := Lib.hid hwn
      generalize C.L.length = nL at *
      generalize d.L.length = dL at *
      generalize d.xs.length = xl at *
      generalize C.xs = xs at *
      generalize C.ts = ts at *
      generalize C.now = now at *
      generalize C.r = r1 at *
      generalize C.c = c1 at *
      generalize C.t = t1 at *
      generalize x.g = g at *
      generalize Value.pointer (some ⟨x.sb, 0, none⟩) = sl at *
      generalize x.one = one at *
      generalize x.mny = many at *
      generalize x.wv = wv at *
      generalize x.ws = ws at *
      clear hT hrc pl tw hx hy0 HBO hwn hz
      go_wp2_with (first
        | (go_at_call 14; refine HAC.out.mono ?_; rintro e w2 ⟨rfl, rfl⟩)
        | (go_at_call 15; refine HLN.out.mono ?_; rintro e w2 ⟨rfl, rfl⟩)
        | (go_at_call 16; refine HRN.out.mono ?_; rintro e w2 ⟨rfl, rfl⟩))
      clear HAC HLN HRN e0
      go_loopw [64] (fun i wl => ∃ (q : Nat) (wv' : Value) (ws' : List Int), q ≤ m ∧ i = .int .i64 q ∧ ws'.length ≤ k + q ∧ Hid (ws'.Nodup) ∧ Hid (Rc (RnR R1 w1.heap.size g sl one many wv' ws') w1 wl c1 t1 ts now xs)) (fun i _ => m - (intOf i).toNat)
      case atStart => exact ⟨0, wv, ws, Nat.zero_le _, rfl, by omega, HWN, HRC⟩
      case round =>
        obtain ⟨q, wv', ws', hq, rfl, hwl', HN', HK⟩ := hrel
        clear HRC HWN hwl
        by_cases hlt : q < m
        · as_aux_lemma =>
            obtain ⟨b, off, rfl, hcell⟩ := HCU.out.resolve_left (by omega)
            obtain ⟨hc1, hc2, hc3⟩ := hcell q hlt
            have q0 := keepc (bthen HB.out HK.out.below) hc1
            generalize y q = yq at *
            clear hcell hc1
            have hm1 : (xl : Int) ≤ 64 := by omega
            have hm0 : (0 : Int) < (xl : Int) := by omega
            go_wp2_with (go_at_call 17; refine (tl_enlist HT.out HK.out HN'.out (by omega) _).mono ?_; rintro e w4 ⟨E, wv2, ws2, rfl, hn2, hl2, hrc2⟩; have HN2 := Lib.hid hn2; have HK2 := Lib.hid hrc2; clear hn2 hrc2)
            exact ⟨⟨q + 1, wv2, ws2, by omega, by go_num, by omega, HN2, HK2⟩, by simp [intOf]; omega⟩
        · obtain rfl : q = m := by omega
          clear HCU hlt hq
          have hll : ws'.length ≤ 180 := by omega
          go_wp2_with (go_at_call 18; refine (tl_waiting HT.out HK.out (by omega)).mono ?_; rintro e w4 ⟨lv, rfl, h4⟩; obtain ⟨pl4, cl4, rfl, -⟩ := row_form h4.inv.1.1.2.1; have H4 := Lib.hid h4; clear h4)
          have HA0 : Hid (NwA R1 w1 c1 t1 g sl one many wv' (.slice pl4 ws'.length cl4) ws' ts now xs 0 (.slice none 0 0) w4) := Lib.hid (H4.out.nil 43 1)
          clear HK H4
          obtain ⟨i1, hi1, hy1, hy2, hy3⟩ := info_parts infoST
          go_loopw [13, 14, 79] (fun mv sv iv wl => ∃ (q : Nat) (p5 : Option Addr) (c5 : Nat), q ≤ ws'.length ∧ mv = .int .i64 (prkN xs ws' q) ∧ iv = .int .i64 q ∧ sv = .slice p5 q c5 ∧ Hid (NwA R1 w1 c1 t1 g sl one many wv' (.slice pl4 ws'.length cl4) ws' ts now xs q (.slice p5 q c5) wl)) (fun _ _ iv _ => ws'.length - (intOf iv).toNat)
          case atStart => exact ⟨0, none, 0, Nat.zero_le _, by rw [prkN_zero]; rfl, rfl, rfl, HA0⟩
          case round =>
            obtain ⟨q, p5, c5, hq, rfl, rfl, rfl, HK⟩ := hrel
            clear HA0
            by_cases hlt : q < ws'.length
            · as_aux_lemma =>
                obtain ⟨rg, cap2, hsl, _⟩ := row_some HK.out.inv.1.1.1.2.1 (by omega)
                obtain rfl : pl4 = some ⟨rg, 0, none⟩ := by simp at hsl; exact hsl.1
                have ck : wr.cell? ⟨rg, q, none⟩ = some (.int .i64 (ws'.getD q 0)) := by
                  rw [HK.out.inv.1.1.1.2.1.cellAt q (by omega)]
                  simp [List.getD, hlt]
                clear hsl
                have HEQ : Hid (stsV xs (ws'.take q) ++ [.int .i64 (lkA xs (ws'.getD q 0)).1] = stsV xs (ws'.take (q + 1))) := Lib.hid (by rw [take_next hlt]; simp [stsV])
                have HPN := Lib.hid (prkN_next xs hlt)
                have hpk := prkN_le xs ws' q
                have hqm : q + 1 ≤ maxLen := by unfold maxLen; omega
                by_cases hp : (lkA xs (ws'.getD q 0)).1 = 1
                · have HPE : Hid (prkN xs ws' (q + 1) = prkN xs ws' q + 1) := Lib.hid (by rw [HPN.out, if_pos hp])
                  have HSS : Hid (∀ (R : Rest) (w : World), Rc R w1 w c1 t1 ts now xs → Calls Tryz.prog 19 #[.pointer (some ⟨t1, 0, none⟩), .int .i64 (ws'.getD q 0)] w fun e w' => e = .returned (.int .i64 1) ∧ Below w.heap.size w w') := Lib.hid fun R w h => by rw [← hp]; exact state_l h _
                  rw [hp] at HEQ
                  clear HPN hp
                  generalize ws'.getD q 0 = zq at *
                  go_wp2_with (first
                    | (go_at_call 14; refine (ractors (HT.out.hr _ HK.out.inv.1.1.1.1)).mono ?_; rintro e w5 ⟨rfl, rfl⟩)
                    | (go_at_call 19; refine (HSS.out _ _ HK.out).mono ?_; rintro e w5 ⟨rfl, hb⟩; replace HK := Lib.hid (HK.out.keep hb); clear hb)
                    | (at_builtin; refine wpList_append_row rfl _ _ 42 rfl 43 i1 (.int .i64 0) 1 8 Tryz.underlying42 hi1 hy1 hy2 hy3 rfl (by decide) (.slice p5 q c5) q _ rfl ((row_base HK.out.inv.2.1 (Nat.zero_le _)).alloc _) ⟨w5.heap.size, 0, none⟩ 1 1 [.int .i64 1] rfl rfl (one_cellA _ _ _) (fun x hx => by simp at hx; subst hx; rfl) hqm (by omega) ?_; intro v6 w6 hown3 hf3 hv3; replace HK := Lib.hid ((HK.out.keep (balloc (Below.refl _ _) _)).app hown3 hf3 hv3); obtain ⟨p6, c6, rfl, hc6⟩ := row_form hown3; clear hown3 hf3 hv3 hc6))
                  rw [HEQ.out] at HK
                  exact ⟨⟨q + 1, p6, c6, by omega, by rw [HPE.out]; go_num, by go_num, rfl, HK⟩, by simp [intOf]; omega⟩
                · have HPE : Hid (prkN xs ws' (q + 1) = prkN xs ws' q) := Lib.hid (by rw [HPN.out, if_neg hp]; rfl)
                  have hne : ((lkA xs (ws'.getD q 0)).1 == 1) = false := by simpa using hp
                  have HSS : Hid (∀ (R : Rest) (w : World), Rc R w1 w c1 t1 ts now xs → Calls Tryz.prog 19 #[.pointer (some ⟨t1, 0, none⟩), .int .i64 (ws'.getD q 0)] w fun e w' => e = .returned (.int .i64 (lkA xs (ws'.getD q 0)).1) ∧ Below w.heap.size w w') := Lib.hid fun R w h => state_l h _
                  clear HPN hp
                  generalize (lkA xs (ws'.getD q 0)).1 = sq at *
                  generalize ws'.getD q 0 = zq at *
                  go_wp2_with (first
                    | (go_at_call 14; refine (ractors (HT.out.hr _ HK.out.inv.1.1.1.1)).mono ?_; rintro e w5 ⟨rfl, rfl⟩)
                    | (go_at_call 19; refine (HSS.out _ _ HK.out).mono ?_; rintro e w5 ⟨rfl, hb⟩; replace HK := Lib.hid (HK.out.keep hb); clear hb)
                    | (at_builtin; refine wpList_append_row rfl _ _ 42 rfl 43 i1 (.int .i64 0) 1 8 Tryz.underlying42 hi1 hy1 hy2 hy3 rfl (by decide) (.slice p5 q c5) q _ rfl ((row_base HK.out.inv.2.1 (Nat.zero_le _)).alloc _) ⟨w5.heap.size, 0, none⟩ 1 1 [.int .i64 sq] rfl rfl (one_cellA _ _ _) (fun x hx => by simp at hx; subst hx; rfl) hqm (by omega) ?_; intro v6 w6 hown3 hf3 hv3; replace HK := Lib.hid ((HK.out.keep (balloc (Below.refl _ _) _)).app hown3 hf3 hv3); obtain ⟨p6, c6, rfl, hc6⟩ := row_form hown3; clear hown3 hf3 hv3 hc6))
                  rw [HEQ.out] at HK
                  exact ⟨⟨q + 1, p6, c6, by omega, by rw [HPE.out], by go_num, rfl, HK⟩, by simp [intOf]; omega⟩
            · have hqe : q = ws'.length := by omega
              subst hqe
              have hpk := prkN_le xs ws' ws'.length
              have HE := Lib.hid (wks_cnt ts xs HN'.out ws'.length (Nat.le_refl _))
              have HLK : Hid (∀ z, z ∈ ws' → lkA (wks (ts, xs) ws' ws'.length).1.2 z = if (lkA xs z).1 ≠ 2 then wakeS (lkA xs z) else lkA xs z) := Lib.hid fun z hz => by
                have h := wks_lk ts xs HN'.out ws'.length (Nat.le_refl _) z
                rw [List.take_length] at h
                simpa only [hz, true_and] using h
              obtain ⟨R2, hR2⟩ : ∃ R2, R2 = ((R1.row w1.heap.size 3 1 (.slice pl4 ws'.length cl4) ws'.length (ws'.map (Value.int .i64))).row w1.heap.size 43 1 (.slice p5 ws'.length c5) ws'.length (stsV xs ws')) := ⟨_, rfl⟩
              have H5 : Hid (Rc (RnR R2 w1.heap.size g sl one many wv' ws') w1 wr c1 t1 ts now xs) := Lib.hid (by
                rw [hR2]
                have h := HK.out
                unfold NwA at h
                rw [List.take_length] at h
                exact h.rnRow)
              have HT2 : Hid (Tl R2 r1 a1 c1 t1 g nL sl one many) := Lib.hid (by rw [hR2]; exact (HT.out.row _ _ _ _ _ _).row _ _ _ _ _ _)
              have HRW : Hid (∀ w, R2.inv w → w.ownsRow w1.heap.size 3 1 (.slice pl4 ws'.length cl4) ws'.length (ws'.map (Value.int .i64)) ∧ w.ownsRow w1.heap.size 43 1 (.slice p5 ws'.length c5) ws'.length (stsV xs ws')) := Lib.hid fun w hi => by
                rw [hR2] at hi
                exact ⟨hi.1.2.1, hi.2.1⟩
              have hsg := tl_signal HT2.out H5.out HWB.out (by omega) HTS.out (by omega)
              rw [HE.out] at hsg
              have HSG := Lib.hid hsg
              clear hsg HE hR2 HK HT H5 hlt hq hi1 hy1 hy2 hy3
              generalize (wks (ts, xs) ws' ws'.length).1.1 = ts' at *
              generalize (wks (ts, xs) ws' ws'.length).1.2 = xs1 at *
              have epk : ((prkN xs ws' ws'.length : Int) != (prkN xs ws' ws'.length : Int)) = false := by simp
              generalize prkN xs ws' ws'.length = pk at *
              go_wp2_with (first
                | (go_at_call 20; refine HSG.out.mono ?_; rintro e w7 ⟨rfl, h7⟩; have H7 := Lib.hid h7; clear h7)
                | (go_at_call 18; refine (tl_waiting HT2.out H7.out (by simp)).mono ?_; rintro e w8 ⟨v8, rfl, h8⟩; obtain ⟨p8, c8, rfl, -⟩ := row_form h8.inv.1.1.2.1; have H8 := Lib.hid h8; clear h8))
              obtain ⟨R4, hR4⟩ : ∃ R4, R4 = RnR (R2.row w1.heap.size 3 1 (.slice p8 ([] : List Int).length c8) ([] : List Int).length (([] : List Int).map (Value.int .i64))) w1.heap.size g sl one many (.slice none 0 0) [] := ⟨_, rfl⟩
              have H9 : Hid (Rc R4 w1 w8 c1 t1 ts' now xs1) := Lib.hid (by rw [hR4]; exact H8.out)
              have HR4 : Hid (∀ w, R4.inv w → RmC w r1 a1 c1 t1 ∧ w.ownsRow w1.heap.size 3 1 (.slice pl4 ws'.length cl4) ws'.length (ws'.map (Value.int .i64)) ∧ w.ownsRow w1.heap.size 43 1 (.slice p5 ws'.length c5) ws'.length (stsV xs ws')) := Lib.hid fun w hi => by
                rw [hR4] at hi
                exact ⟨HT2.out.hr _ hi.1.1.1, HRW.out _ hi.1.1.1⟩
              clear hR4 H8 H7 HSG HT2 HRW HWB HTS epk
              go_loopw [118] (fun iv wl => ∃ (q : Nat) (xs' : List Ac), q ≤ ws'.length ∧ iv = .int .i64 q ∧ Hid (∀ z ∈ ws'.drop q, lkA xs' z = lkA xs1 z) ∧ Hid (Rc R4 w1 wl c1 t1 ts' now xs')) (fun iv _ => ws'.length - (intOf iv).toNat)
              case atStart => exact ⟨0, xs1, Nat.zero_le _, rfl, Lib.hid (fun _ _ => rfl), H9⟩
              case round =>
                obtain ⟨q, xs', hq, rfl, HQ, HK⟩ := hrel
                clear H9
                by_cases hlt : q < ws'.length
                · as_aux_lemma =>
                    obtain ⟨hrm, hr1, hr2⟩ := HR4.out _ HK.out.inv
                    obtain ⟨rg, cap2, hsl, _⟩ := row_some hr1 (by omega)
                    obtain rfl : pl4 = some ⟨rg, 0, none⟩ := by simp at hsl; exact hsl.1
                    obtain ⟨rs, cap3, hsl2, _⟩ := row_some hr2 (by omega)
                    obtain rfl : p5 = some ⟨rs, 0, none⟩ := by simp at hsl2; exact hsl2.1
                    have ck : wr.cell? ⟨rg, q, none⟩ = some (.int .i64 (ws'.getD q 0)) := by
                      rw [hr1.cellAt q (by omega)]
                      simp [List.getD, hlt]
                    have cw : wr.cell? ⟨rs, q, none⟩ = some (.int .i64 (lkA xs (ws'.getD q 0)).1) := by
                      rw [hr2.cellAt q (by omega)]
                      simp [stsV, List.getD, hlt]
                    have hdr := getD_drop hlt
                    have hmem := List.mem_of_mem_drop hdr
                    have e0 := HQ.out _ hdr
                    rw [HLK.out _ hmem] at e0
                    have HNX : Hid (∀ xs'' : List Ac, (∀ z, z ≠ ws'.getD q 0 → lkA xs'' z = lkA xs' z) → ∀ z ∈ ws'.drop (q + 1), lkA xs'' z = lkA xs1 z) := Lib.hid fun xs'' h z hz => (h z (nodup_drop HN'.out hlt z hz)).trans (HQ.out z (drop_sub hz))
                    have hsv := lkA_sv HSV.out (ws'.getD q 0)
                    have hst := state_l HK.out (ws'.getD q 0)
                    have HAC : Hid (∀ w, Below wr.heap.size wr w → Calls Tryz.prog 14 #[.pointer (some ⟨r1, 0, none⟩)] w fun e w' => e = .returned (.pointer (some ⟨t1, 0, none⟩)) ∧ w = w') := Lib.hid fun w hb => ractors (HR4.out _ (HK.out.keep hb).inv).1
                    have hql : (q : Int) < (ws'.length : Int) := by omega
                    have hq0 : (0 : Int) ≤ (q : Int) := by omega
                    clear hsl hsl2 hrm hr1 hr2 hdr hmem HLK HQ HN' HSV
                    rcases hsv with h0 | h1 | h2
                    · rw [if_pos (by rw [h0]; decide)] at e0
                      have e1 : wakeS (lkA xs (ws'.getD q 0)) = (0, true, (lkA xs (ws'.getD q 0)).2.2 + 1) := by
                        unfold wakeS
                        rw [if_neg (by rw [h0]; decide), h0]
                      rw [e1] at e0
                      rw [e0] at hst
                      rw [h0] at cw
                      obtain ⟨j, hj, hju⟩ := lkA_in (xs := xs') (z := ws'.getD q 0) (by rw [e0]; exact (show (0 : Int) ≠ 2 by decide))
                      rw [e0] at hju
                      have HTK : Hid (∀ w, Below wr.heap.size wr w → Calls Tryz.prog 21 #[.pointer (some ⟨t1, 0, none⟩), .int .i64 (ws'.getD q 0)] w fun e w' => e = .returned (.bool true) ∧ Below w.heap.size w w') := Lib.hid fun w hb => by
                        have h := token_l (HK.out.keep hb) (ws'.getD q 0)
                        rw [e0] at h
                        exact h
                      generalize (lkA xs (ws'.getD q 0)).2.2 + 1 = cc at *
                      have hjl := (List.getElem?_eq_some_iff.1 hju).1
                      have HP1 : Hid (∀ w, Rc R4 w1 w c1 t1 ts' now xs' → Calls Tryz.prog 22 #[.pointer (some ⟨r1, 0, none⟩), .int .i64 (ws'.getD q 0), .int .i64 0] w fun e w' => e = .returned (.tuple #[.bool false, .nilIface]) ∧ Rc R4 w1 w' c1 t1 ts' now (xs'.set j (0, false, cc))) := Lib.hid fun w h => by
                        rw [hj]
                        exact rpark_zero (fun w hi => (HR4.out w hi).1) h j (0, true, cc) hju (show (0 : Int) ≠ 2 by decide)
                      have HP2 : Hid (∀ w, Rc R4 w1 w c1 t1 ts' now (xs'.set j (0, false, cc)) → Calls Tryz.prog 22 #[.pointer (some ⟨r1, 0, none⟩), .int .i64 (ws'.getD q 0), .int .i64 0] w fun e w' => e = .returned (.tuple #[.bool true, .nilIface]) ∧ Rc R4 w1 w' c1 t1 ts' now ((xs'.set j (0, false, cc)).set j (1, false, cc))) := Lib.hid fun w h => by
                        rw [hj]
                        exact rpark_zero (fun w hi => (HR4.out w hi).1) h j (0, false, cc) (List.getElem?_set_self hjl) (show (0 : Int) ≠ 2 by decide)
                      have HN1 : Hid (∀ z ∈ ws'.drop (q + 1), lkA ((xs'.set j (0, false, cc)).set j (1, false, cc)) z = lkA xs1 z) := Lib.hid (HNX.out _ fun z hz => by
                        rw [lkA_set_ne _ (by rw [← hj]; exact Ne.symm hz), lkA_set_ne _ (by rw [← hj]; exact Ne.symm hz)])
                      have HST := Lib.hid hst
                      clear hst e0 e1 h0 HNX hju hj hjl HR4
                      generalize ws'.getD q 0 = zq at *
                      go_wp2_with (first
                        | (go_at_call 14; refine (HAC.out _ (by first | exact HBB.out | exact Below.refl _ _)).mono ?_; rintro e w9 ⟨rfl, rfl⟩)
                        | (go_at_call 19; refine HST.out.mono ?_; rintro e w9 ⟨rfl, hb⟩; have HBB := Lib.hid hb; replace cw := keepc hb cw; clear hb)
                        | (go_at_call 21; refine (HTK.out _ HBB.out).mono ?_; rintro e w9 ⟨rfl, hb⟩; have HBC := Lib.hid (bthen HBB.out hb); replace cw := keepc hb cw; clear hb)
                        | (go_at_call 22; refine (HP1.out _ (HK.out.keep HBC.out)).mono ?_; rintro e w10 ⟨rfl, h10⟩; have H10 := Lib.hid h10; clear h10 HP1)
                        | (go_at_call 22; refine (HP2.out _ H10.out).mono ?_; rintro e w11 ⟨rfl, h11⟩; have H11 := Lib.hid h11; clear h11 HP2))
                      exact ⟨⟨q + 1, _, by omega, by go_num, HN1, H11⟩, by simp [intOf]; omega⟩
                    · rw [if_pos (by rw [h1]; decide)] at e0
                      have e1 : (wakeS (lkA xs (ws'.getD q 0))).1 = 0 := by
                        unfold wakeS
                        rw [if_pos h1]
                      rw [e0, e1] at hst
                      rw [h1] at cw
                      have HN1 : Hid (∀ z ∈ ws'.drop (q + 1), lkA xs' z = lkA xs1 z) := Lib.hid (HNX.out _ fun z hz => rfl)
                      have HST := Lib.hid hst
                      clear hst e0 e1 h1 HNX HR4
                      generalize ws'.getD q 0 = zq at *
                      go_wp2_with (first
                        | (go_at_call 14; refine (HAC.out _ (by first | exact HBB.out | exact Below.refl _ _)).mono ?_; rintro e w9 ⟨rfl, rfl⟩)
                        | (go_at_call 19; refine HST.out.mono ?_; rintro e w9 ⟨rfl, hb⟩; have HBB := Lib.hid hb; have H11 := Lib.hid (HK.out.keep hb); replace cw := keepc hb cw; clear hb))
                      exact ⟨⟨q + 1, _, by omega, by go_num, HN1, H11⟩, by simp [intOf]; omega⟩
                    · rw [if_neg (by rw [h2]; decide)] at e0
                      rw [e0, h2] at hst
                      rw [h2] at cw
                      have HN1 : Hid (∀ z ∈ ws'.drop (q + 1), lkA xs' z = lkA xs1 z) := Lib.hid (HNX.out _ fun z hz => rfl)
                      have HST := Lib.hid hst
                      clear hst e0 h2 HNX HR4
                      generalize ws'.getD q 0 = zq at *
                      go_wp2_with (first
                        | (go_at_call 14; refine (HAC.out _ (by first | exact HBB.out | exact Below.refl _ _)).mono ?_; rintro e w9 ⟨rfl, rfl⟩)
                        | (go_at_call 19; refine HST.out.mono ?_; rintro e w9 ⟨rfl, hb⟩; have HBB := Lib.hid hb; have H11 := Lib.hid (HK.out.keep hb); replace cw := keepc hb cw; clear hb))
                      exact ⟨⟨q + 1, _, by omega, by go_num, HN1, H11⟩, by simp [intOf]; omega⟩
                · have HBF := Lib.hid (bthen HB.out HK.out.below)
                  have hqe : q = ws'.length := by omega
                  subst hqe
                  go_wp2_with (go_at_call 9; refine (awake14 _).mono ?_; rintro e w12 ⟨rfl, hb⟩; have HB12 := Lib.hid (bthen HBF.out hb); clear hb)
                  go_ret
                  exact ⟨rfl, HB12.out⟩
end Go.Proofs.YtdfcfdcekdmcmaaGreat
