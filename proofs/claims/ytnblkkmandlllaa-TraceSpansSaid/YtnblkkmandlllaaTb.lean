/-
  Behind of package trace and the document's Count, by contract; TraceBehind, walked. Conditions: as the statement has them.
-/
import Derived.Test.YtnblkkmandlllaaTl
namespace Go.Proofs.Ytnblkkmandlllaa
open Go.RowKit Go.Shelf
set_option linter.unusedVariables false
set_option linter.unusedSimpArgs false

/-- A note of Handled at a ring, of an actor. -/
def isH (ring who : Int) (x : Nt) : Bool := x.ring == ring && x.deed == 2 && x.who == who
def cntP (l : List Nt) (ring who : Int) : Int := ((l.filter (isH ring who)).length : Nat)
def inc (x : Nt) (w : Int) : Int := if x.who = w then 1 else 0
def bstep (who other : Int) (s : Int × Int) (x : Nt) : Int × Int := (max s.1 (s.2 + inc x other - inc x who), s.2 + inc x other - inc x who)
/-- By how many one is behind, at most, and now. -/
def stB (who other : Int) (h : List Nt) : Int × Int := h.foldl (bstep who other) (0, 0)
theorem stB_snoc (who other : Int) (h : List Nt) (x : Nt) : stB who other (h ++ [x]) = bstep who other (stB who other h) x := by simp [stB, List.foldl_append]
theorem fold_ge (who other : Int) : ∀ (h : List Nt) (s : Int × Int), s.2 ≤ s.1 → (h.foldl (bstep who other) s).2 ≤ (h.foldl (bstep who other) s).1 ∧ s.1 ≤ (h.foldl (bstep who other) s).1
  | [], s, hs => ⟨hs, Int.le_refl _⟩
  | x :: r, s, hs => by
    rw [List.foldl_cons]
    have := fold_ge who other r (bstep who other s x) (by unfold bstep; simp only; omega)
    refine ⟨this.1, Int.le_trans ?_ this.2⟩
    unfold bstep; simp only; omega
theorem stB_ge (who other : Int) (h : List Nt) : (stB who other h).2 ≤ (stB who other h).1 ∧ 0 ≤ (stB who other h).1 := by
  have := fold_ge who other h (0, 0) (by simp)
  exact ⟨this.1, this.2⟩
theorem fold_le (who other : Int) : ∀ (h : List Nt) (s : Int × Int), (h.foldl (bstep who other) s).1 ≤ max s.1 s.2 + h.length ∧ (h.foldl (bstep who other) s).2 ≤ s.2 + h.length ∧ s.2 - h.length ≤ (h.foldl (bstep who other) s).2
  | [], s => by simp; omega
  | x :: r, s => by
    rw [List.foldl_cons]
    have h1 := fold_le who other r (bstep who other s x)
    have h2 : 0 ≤ inc x other ∧ inc x other ≤ 1 := by unfold inc; split <;> omega
    have h3 : 0 ≤ inc x who ∧ inc x who ≤ 1 := by unfold inc; split <;> omega
    unfold bstep at h1 ⊢
    simp only [List.length_cons] at h1 ⊢
    omega
theorem stB_le (who other : Int) (h : List Nt) : (stB who other h).1 ≤ h.length ∧ (stB who other h).2 ≤ h.length ∧ -(h.length : Int) ≤ (stB who other h).2 := by
  have := fold_le who other h (0, 0)
  simp only [stB]
  simp at this
  omega
theorem atB2 (ring : Int) (x : Nt) : atB ring [2] x = (x.ring == ring && x.deed == 2) := by unfold atB; rw [Bool.eq_iff_iff]; simp
theorem fold_diff (ring who other : Int) : ∀ (l : List Nt) (s : Int × Int), ((l.filter (atB ring [2])).foldl (bstep who other) s).2 = s.2 + cntP l ring other - cntP l ring who
  | [], s => by simp [cntP]
  | x :: r, s => by
    have ih := fold_diff ring who other r
    unfold cntP at ih ⊢
    have e : ∀ w, isH ring w x = (atB ring [2] x && (x.who == w)) := fun w => by rw [atB2]; rfl
    cases ha : atB ring [2] x with
    | false =>
      rw [List.filter_cons_of_neg (by simp [ha]), ih, List.filter_cons_of_neg (by rw [e, ha]; simp), List.filter_cons_of_neg (by rw [e, ha]; simp)]
    | true =>
      rw [List.filter_cons_of_pos ha, List.foldl_cons, ih]
      have hw : ∀ w, ((List.filter (isH ring w) (x :: r)).length : Int) = inc x w + ((List.filter (isH ring w) r).length : Int) := fun w => by
        unfold inc
        by_cases h : x.who = w
        · rw [if_pos h, List.filter_cons_of_pos (by rw [e, ha]; simp [h])]; simp; omega
        · rw [if_neg h, List.filter_cons_of_neg (by rw [e, ha]; simp [h])]; simp
      rw [hw, hw]
      unfold bstep
      simp only
      omega
theorem stB_diff (ring who other : Int) (l : List Nt) : (stB who other (l.filter (atB ring [2]))).2 = cntP l ring other - cntP l ring who := by
  have := fold_diff ring who other l (0, 0)
  unfold stB
  rw [this]
  omega

/-- What the statement has so far. -/
def mlaw (ring who other : Int) (l : List Nt) : Nat → Int
  | 0 => 0
  | k + 1 => (stB who other ((l.take k).filter (atB ring [2]))).1
theorem mlaw_step (ring who other : Int) (l : List Nt) (k : Nat) (hk : k ≤ l.length) : mlaw ring who other l (k + 1) = max (mlaw ring who other l k) (cntP (l.take k) ring other - cntP (l.take k) ring who) := by
  cases k with
  | zero => simp [mlaw, stB, cntP]
  | succ j =>
    have hx : l[j]? = some l[j] := List.getElem?_eq_getElem (by omega)
    show (stB who other ((l.take (j + 1)).filter (atB ring [2]))).1 = max (stB who other ((l.take j).filter (atB ring [2]))).1 _
    rw [← stB_diff, take_snocN hx]
    cases ha : atB ring [2] l[j] with
    | true => rw [filter_snocT ha, stB_snoc]; rfl
    | false =>
      rw [filter_snocF ha]
      have := stB_ge who other ((l.take j).filter (atB ring [2]))
      omega

set_option maxRecDepth 100000 in
set_option maxHeartbeats 2000000 in
theorem tbehind {W : World} {v : Value} {l : List Nt} {ring who other : Int} (hl : NtsAt W v l) (h120 : l.length ≤ 1000) :
    Calls Try.prog 28 #[v, .int .i64 ring, .int .i64 who, .int .i64 other] W fun e w' => e = .returned (.int .i64 (stB who other (l.filter (atB ring [2]))).1) ∧ Below W.heap.size W w' := by
  have h1 : Below W.heap.size W (W.alloc (.cells #[.int .i64 2] 27)) := (Below.refl _ _).alloc (Nat.le_refl _) _
  have hd : IntsR (W.alloc (.cells #[.int .i64 2] 27)) (.slice (some ⟨W.heap.size, 0, none⟩) 1 1) [2] := IntsR.one _ _ ⟨by decide, by decide⟩ (i64_box W 2 _)
  have HC := Lib.hid (tat (ring := ring) (hl.keep h1) h120 hd (by decide))
  have H1 := Lib.hid h1
  obtain ⟨p, c, rfl, hc, hm⟩ := hl.form
  clear hl h1 hd
  go_enter Try.func28, Try.ntmps28
  go_wp2_with (go_at_call 14; refine HC.out.mono ?_; rintro e w1 ⟨v1, rfl, ho, hb⟩; have HO := Lib.hid ho; have HB : Hid (Below W.heap.size W w1) := Lib.hid (H1.out.trans (hb.mono H1.out.size)); obtain ⟨p1, c1, rfl, -⟩ := row_form ho.own; clear ho hb)
  have HLL : Hid ((l.filter (atB ring [2])).length ≤ 1000) := Lib.hid (Nat.le_trans (List.length_filter_le _ _) h120)
  obtain ⟨q, hq⟩ : ∃ q, l.filter (atB ring [2]) = q := ⟨_, rfl⟩
  have HQ := Lib.hid hq
  rw [hq] at HO HLL
  rw [hq]
  clear HC hq
  have hql := HLL.out
  obtain ⟨cq, hcq⟩ : ∃ cq, cq = c1 := ⟨_, rfl⟩
  rw [← hcq] at HO ⊢
  clear hcq
  go_loopw [9, 10, 18] (fun mv bv iv wl => ∃ k : Nat, k ≤ q.length ∧ iv = .int .i64 k ∧ mv = .int .i64 (stB who other (q.take k)).1 ∧ bv = .int .i64 (stB who other (q.take k)).2 ∧ Hid (Below w1.heap.size w1 wl)) (fun _ _ iv _ => q.length - (intOf iv).toNat)
  case atStart => exact ⟨0, Nat.zero_le _, rfl, rfl, rfl, Lib.hid (Below.refl _ _)⟩
  case round =>
    obtain ⟨k, hk, rfl, rfl, rfl, HJ⟩ := hrel
    by_cases hlt : k < q.length
    · obtain ⟨b, off, x, rfl, hx, hb, hwf, ⟨c0, c1, c2, c3, c4, c5, c6, c7⟩⟩ := (HO.out.read.keep HJ.out).at_ hlt
      have HS : Hid (stB who other (q.take (k + 1)) = bstep who other (stB who other (q.take k)) x) := Lib.hid (by rw [take_snocN hx, stB_snoc])
      have hle := stB_le who other (q.take k)
      have hge := stB_ge who other (q.take k)
      rw [List.length_take] at hle
      have HA1 : Hid (∀ cs : Array Value, Below w1.heap.size w1 (wr.alloc (.cells cs 33))) := Lib.hid fun cs => HJ.out.alloc HJ.out.size _
      clear hx hb hwf
      generalize stB who other (q.take k) = st at *
      obtain ⟨mo, by_⟩ := st
      simp only at hle hge ⊢
      have b1 : mo ≤ 1000 := by omega
      have b2 : 0 ≤ mo := hge.2
      have b3 : by_ ≤ 1000 := by omega
      have b4 : -1000 ≤ by_ := by omega
      clear hle hge
      by_cases h1 : x.who = other
      · by_cases h2 : x.who = who
        · have HF : Hid (stB who other (q.take (k + 1)) = (max mo by_, by_)) := Lib.hid (by rw [HS.out]; unfold bstep inc; rw [if_pos h1, if_pos h2]; rw [show by_ + 1 - 1 = by_ by omega])
          go_wp2
          all_goals exact ⟨⟨k + 1, by omega, by go_num, by rw [HF.out]; try simp; try omega, by rw [HF.out]; try simp; try omega, Lib.hid (HA1.out _)⟩, by simp [intOf]; omega⟩
        · have HF : Hid (stB who other (q.take (k + 1)) = (max mo (by_ + 1), by_ + 1)) := Lib.hid (by rw [HS.out]; unfold bstep inc; rw [if_pos h1, if_neg h2]; rw [show by_ + 1 - 0 = by_ + 1 by omega])
          go_wp2
          all_goals exact ⟨⟨k + 1, by omega, by go_num, by rw [HF.out], by rw [HF.out], Lib.hid (HA1.out _)⟩, by simp [intOf]; omega⟩
      · by_cases h2 : x.who = who
        · have HF : Hid (stB who other (q.take (k + 1)) = (max mo (by_ - 1), by_ - 1)) := Lib.hid (by rw [HS.out]; unfold bstep inc; rw [if_neg h1, if_pos h2]; rw [show by_ + 0 - 1 = by_ - 1 by omega])
          go_wp2
          all_goals exact ⟨⟨k + 1, by omega, by go_num, by rw [HF.out], by rw [HF.out], Lib.hid (HA1.out _)⟩, by simp [intOf]; omega⟩
        · have HF : Hid (stB who other (q.take (k + 1)) = (max mo by_, by_)) := Lib.hid (by rw [HS.out]; unfold bstep inc; rw [if_neg h1, if_neg h2]; rw [show by_ + 0 - 0 = by_ by omega])
          go_wp2
          all_goals exact ⟨⟨k + 1, by omega, by go_num, by rw [HF.out], by rw [HF.out], Lib.hid (HA1.out _)⟩, by simp [intOf]; omega⟩
    · obtain rfl : k = q.length := by omega
      rw [List.take_length]
      go_wp2
      go_ret
      exact ⟨by rw [HQ.out]; rfl, bthen HB.out HJ.out⟩

theorem cntP_le (l : List Nt) (ring who : Int) : 0 ≤ cntP l ring who ∧ cntP l ring who ≤ l.length := ⟨by unfold cntP; omega, by unfold cntP; have := List.length_filter_le (isH ring who) l; omega⟩
theorem cntP_snocT {l : List Nt} {ring who : Int} {x : Nt} (h : isH ring who x = true) : cntP (l ++ [x]) ring who = cntP l ring who + 1 := by unfold cntP; rw [filter_snocT h]; simp
theorem cntP_snocF {l : List Nt} {ring who : Int} {x : Nt} (h : isH ring who x = false) : cntP (l ++ [x]) ring who = cntP l ring who := by unfold cntP; rw [filter_snocF h]

set_option maxRecDepth 100000 in
set_option maxHeartbeats 2000000 in
theorem rcount {W : World} {v : Value} {l : List Nt} {ring who : Int} {first : Nat} (hl : NtsAt W v l) (h120 : l.length ≤ 1000) (hf : first ≤ 1000) :
    Calls Try.prog 27 #[v, .int .i64 ring, .int .i64 who, .int .i64 (first : Int)] W fun e w' => e = .returned (.int .i64 (cntP (l.take first) ring who)) ∧ W = w' := by
  have HL := Lib.hid hl
  obtain ⟨p, c, rfl, hc, hm⟩ := hl.form
  clear hl
  go_enter Try.func27, Try.ntmps27
  go_wp2_with fail
  go_loop [9, 10] (fun nv iv => ∃ k : Nat, k ≤ first ∧ k ≤ l.length ∧ iv = .int .i64 k ∧ nv = .int .i64 (cntP (l.take k) ring who)) (fun _ iv => l.length - (intOf iv).toNat)
  case atStart => exact ⟨0, Nat.zero_le _, Nat.zero_le _, rfl, rfl⟩
  case round =>
    obtain ⟨k, hk1, hk2, rfl, rfl⟩ := hrel
    by_cases hlf : k < first
    · by_cases hlt : k < l.length
      · obtain ⟨b, off, x, rfl, hx, hb, hwf, ⟨c0, c1, c2, c3, c4, c5, c6, c7⟩⟩ := HL.out.at_ hlt
        have HT : Hid (l.take (k + 1) = l.take k ++ [x]) := Lib.hid (take_snocN hx)
        have hle := cntP_le (l.take k) ring who
        have hle2 : cntP (l.take k) ring who ≤ 1000 := by have := hle.2; rw [List.length_take] at this; omega
        have hle1 := hle.1
        have HTT := fun h => Lib.hid (cntP_snocT (l := l.take k) (ring := ring) (who := who) (x := x) h)
        have HFF := fun h => Lib.hid (cntP_snocF (l := l.take k) (ring := ring) (who := who) (x := x) h)
        rw [← HT.out] at HTT HFF
        have HTT2 := Lib.hid HTT
        have HFF2 := Lib.hid HFF
        have HH : Hid (isH ring who x = (x.ring == ring && x.deed == 2 && x.who == who)) := Lib.hid rfl
        clear hx hb hwf hle HTT HFF
        generalize cntP (l.take k) ring who = n at *
        by_cases h1 : x.ring = ring
        · by_cases h2 : x.deed = 2
          · by_cases h3 : x.who = who
            · have HN := HTT2.out (by rw [HH.out]; simp [h1, h2, h3])
              go_wp2
              exact ⟨⟨k + 1, by omega, by omega, by go_num, by rw [HN.out]⟩, by simp [intOf]; omega⟩
            · have HN := HFF2.out (by rw [HH.out]; simp [h1, h2, h3])
              go_wp2
              exact ⟨⟨k + 1, by omega, by omega, by go_num, by rw [HN.out]⟩, by simp [intOf]; omega⟩
          · have HN := HFF2.out (by rw [HH.out]; simp [h1, h2])
            go_wp2
            exact ⟨⟨k + 1, by omega, by omega, by go_num, by rw [HN.out]⟩, by simp [intOf]; omega⟩
        · have HN := HFF2.out (by rw [HH.out]; simp [h1])
          go_wp2
          exact ⟨⟨k + 1, by omega, by omega, by go_num, by rw [HN.out]⟩, by simp [intOf]; omega⟩
      · obtain rfl : k = l.length := by omega
        have HT : Hid (l.take first = l) := Lib.hid (List.take_of_length_le (by omega))
        go_wp2
        go_ret
        exact ⟨by rw [HT.out]; rfl, rfl⟩
    · obtain rfl : k = first := by omega
      go_wp2
      go_ret
      exact ⟨rfl, rfl⟩

theorem tsmall {W : World} {v : Value} {l : List Nt} (hl : NtsAt W v l) : Calls Try.prog 10 #[v] W fun e w' => e = .returned (.bool (decide (l.length ≤ 120))) ∧ W = w' := by
  obtain ⟨p, c, rfl, -, -⟩ := hl.form
  clear hl
  go_enter Try.func10, Try.ntmps10
  go_wp2
  go_ret
  exact ⟨by simp; try omega, rfl⟩

set_option maxRecDepth 100000 in
set_option maxHeartbeats 2000000 in
theorem behind_walk {W : World} {v : Value} {l : List Nt} {ring who other : Int} (hl : NtsAt W v l) :
    Calls Try.prog 7 #[v, .int .i64 ring, .int .i64 who, .int .i64 other] W fun e w' => e = .returned (.bool true) ∧ Below W.heap.size W w' := by
  have HL := Lib.hid hl
  obtain ⟨p, c, rfl, hc, hm⟩ := hl.form
  clear hl
  have hAW := fun w => awake22 w
  by_cases h120 : l.length ≤ 120
  · have HS : Hid (decide (l.length ≤ 120) = true) := Lib.hid (by simpa using h120)
    go_enter Try.func7, Try.ntmps7
    go_wp2_with (go_at_call 10; refine (tsmall HL.out).mono ?_; rintro e w1 ⟨rfl, rfl⟩; rw [HS.out])
    go_loopw [9, 18] (fun mv iv wl => ∃ k : Nat, k ≤ l.length + 1 ∧ iv = .int .i64 k ∧ mv = .int .i64 (mlaw ring who other l k) ∧ W = wl) (fun _ iv _ => l.length + 1 - (intOf iv).toNat)
    case atStart => exact ⟨0, Nat.zero_le _, rfl, rfl, rfl⟩
    case round =>
      obtain ⟨k, hk, rfl, rfl, rfl⟩ := hrel
      by_cases hlt : k < l.length + 1
      · have HM : Hid (mlaw ring who other l (k + 1) = max (mlaw ring who other l k) (cntP (l.take k) ring other - cntP (l.take k) ring who)) := Lib.hid (mlaw_step ring who other l k (by omega))
        have a1 := cntP_le (l.take k) ring other
        have a2 := cntP_le (l.take k) ring who
        rw [List.length_take] at a1 a2
        have b1 := a1.1
        have b2 : cntP (l.take k) ring other ≤ 1000 := by omega
        have b3 := a2.1
        have b4 : cntP (l.take k) ring who ≤ 1000 := by omega
        clear a1 a2
        have HC1 := fun w => Lib.hid (rcount (W := W) (ring := ring) (who := w) (first := k) HL.out (by omega) (by omega))
        have HC := Lib.hid HC1
        clear HC1
        generalize mlaw ring who other l k = mk_ at *
        go_wp2_with (go_at_call 27; refine (HC.out _).out.mono ?_; rintro e w3 ⟨rfl, rfl⟩)
        all_goals exact ⟨⟨k + 1, by omega, by go_num, by rw [HM.out], by (first | rfl | trivial)⟩, by simp [intOf]; omega⟩
      · obtain rfl : k = l.length + 1 := by omega
        have HM : Hid (mlaw ring who other l (l.length + 1) = (stB who other (l.filter (atB ring [2]))).1) := Lib.hid (by show (stB who other ((l.take l.length).filter (atB ring [2]))).1 = _; rw [List.take_length])
        rw [HM.out]
        have HB := Lib.hid fun w (hw : NtsAt w (.slice p l.length c) l) => tbehind (W := w) (ring := ring) (who := who) (other := other) hw (by omega)
        generalize (stB who other (l.filter (atB ring [2]))).1 = res at *
        go_wp2_with (first
          | (go_at_call 11; refine (awake22 _).mono ?_; rintro e w2 ⟨rfl, hb⟩; have HA := Lib.hid hb; clear hb)
          | (go_at_call 28; refine (HB.out _ (HL.out.keep HA.out)).mono ?_; rintro e w4 ⟨rfl, hb4⟩; have HA4 := Lib.hid hb4; clear hb4))
        go_ret
        exact ⟨rfl, bthen HA.out HA4.out⟩
  · have HS : Hid (decide (l.length ≤ 120) = false) := Lib.hid (by simpa using h120)
    go_enter Try.func7, Try.ntmps7
    go_wp2_with (first
      | (go_at_call 10; refine (tsmall HL.out).mono ?_; rintro e w1 ⟨rfl, rfl⟩; rw [HS.out])
      | (go_at_call 11; refine (awake22 _).mono ?_; rintro e w2 ⟨rfl, hb⟩; have HB := Lib.hid hb; clear hb))
    go_ret
    exact ⟨rfl, HB.out⟩
end Go.Proofs.Ytnblkkmandlllaa
