/-
  GatePlays' walk: the law returns true, and only makes new memory. Condition: the two rows are read as they lie.
-/
import Derived.Test.YtdbjeaploanalaaOpsG
namespace Go.Proofs.Ytdbjeaploanalaa
open Go.RowKit
set_option linter.unusedVariables false

theorem addIds_len {ids : List Int} (h : ids.length ≤ 32) (x : Int) : (addIds ids x).length ≤ 32 := by
  unfold addIds
  by_cases hb : addBad ids x = 0
  · rw [if_pos hb]
    unfold addBad at hb
    by_cases h1 : x < 0 ∨ 2097152 ≤ x
    · rw [if_pos h1] at hb; omega
    rw [if_neg h1] at hb
    by_cases h2 : x ∈ ids
    · rw [if_pos h2] at hb; omega
    rw [if_neg h2] at hb
    by_cases h3 : 32 ≤ ids.length
    · rw [if_pos h3] at hb; omega
    simp
    omega
  · rw [if_neg hb]; exact h

/-- The group and the document's own row of its numbers, one step apart. -/
structure PL (W0 W : World) (g : Nat) (mv : Value) (n : Nat) (ids js : List Int) : Prop where
  gr : Gr W g ids
  row : W.ownsRow 0 3 1 mv n (js.map (Value.int .i64))
  low : Below W0.heap.size W0 W
  hg : W0.heap.size ≤ g
section
variable {W0 W w' : World} {g n : Nat} {mv : Value} {ids js : List Int}
theorem PL.keep (h : PL W0 W g mv n ids js) (hb : Below W.heap.size W w') : PL W0 w' g mv n ids js :=
  ⟨h.gr.keepB hb, (Frm.of_below hb fun _ => False).row h.row fun _ _ => id, bthen h.low hb, h.hg⟩
theorem PL.group (h : PL W0 W g mv n ids js) {ids' : List Int} (hs : GrStep W w' g ids') : PL W0 w' g mv n ids' js :=
  ⟨hs.1, hs.2.row h.row (fun r hr e => h.gr.neR h.row (by decide) (e ▸ hr)), h.low.trans (hs.2.below h.low.size fun k e => e ▸ h.hg), h.hg⟩
theorem PL.ref (h : PL W0 W g mv n ids js) {v : Value} {m : Nat} {js' : List Int} (hr : RefRow W w' v m js') : PL W0 w' g v m ids js' :=
  ⟨h.gr.keepB hr.2, hr.1, bthen h.low hr.2, h.hg⟩
theorem PL.len (h : PL W0 W g mv n ids ids) : ids.length = n := by have := h.row.1; simpa using this
theorem PL.few (h : PL W0 W g mv n ids js) : ids.length ≤ 1000000 := by have := h.gr.2; omega
end

/-- Of's answer, some way through. -/
def OfTo (xs ids : List Int) (bad : Int) (k : Nat) : Prop := ids.length ≤ 32 ∧ if bad = 0 then ofRun [] xs = ofRun ids (xs.drop k) else ofRun [] xs = (ids, bad)
theorem OfTo.fin {xs ids : List Int} {bad : Int} (h : OfTo xs ids bad xs.length) : ofRun [] xs = (ids, bad) := by
  unfold OfTo at h
  by_cases hb : bad = 0
  · rw [if_pos hb, List.drop_length] at h
    rw [h.2, hb]
    rfl
  · rw [if_neg hb] at h
    exact h.2
theorem OfTo.skip {xs ids : List Int} {bad : Int} {k : Nat} (h : OfTo xs ids bad k) (hb : bad ≠ 0) : OfTo xs ids bad (k + 1) := by
  unfold OfTo at h ⊢
  rw [if_neg hb] at h ⊢
  exact h
theorem OfTo.step {xs ids : List Int} {k : Nat} (h : OfTo xs ids 0 k) (hk : k < xs.length) : OfTo xs (addIds ids (xs.getD k 0)) (addBad ids (xs.getD k 0)) (k + 1) := by
  unfold OfTo at h ⊢
  rw [if_pos rfl] at h
  refine ⟨addIds_len h.1 _, ?_⟩
  have e : xs.drop k = xs.getD k 0 :: xs.drop (k + 1) := by
    rw [List.drop_eq_getElem_cons hk]
    simp [List.getElem?_eq_getElem hk]
  rw [e] at h
  by_cases hb : addBad ids (xs.getD k 0) = 0
  · rw [if_pos hb, h.2]
    simp only [ofRun, addIds, if_pos hb]
  · rw [if_neg hb, h.2]
    simp only [ofRun, addIds, if_neg hb]

set_option maxHeartbeats 2000000 in
set_option maxRecDepth 100000 in
theorem walkP {W0 : World} (ov iv : Value) (n m : Nat) (z : Nat → Bool × Int) (q : Nat → Int) (hO : BoolsAt W0 ov n z) (hI : LongsAt W0 iv m q) :
    Calls Try.prog 7 #[ov, iv] W0 fun e w' => e = .returned (.bool true) ∧ Below W0.heap.size W0 w' := by
  have HI := Lib.hid (longs_intsG hI)
  have HXL : Hid (((List.range m).map q).length = m) := Lib.hid (by simp)
  have HXD : Hid (∀ k, k < m → ((List.range m).map q).getD k 0 = q k) := fun k hk => by simp [hk]
  obtain ⟨p0, c0, rfl, _, hO⟩ := hO
  obtain ⟨p1, c1, rfl, _, hI⟩ := hI
  have HO := Lib.hid hO
  have HQ := Lib.hid hI
  generalize (List.range m).map q = xs at *
  clear hO hI
  by_cases hout : 100 < n ∨ 50 < m
  · by_cases h1 : 100 < n
    · have e2 : decide ((100 : Int) < (n : Int)) = true := decide_eq_true (by omega)
      clear hout
      go_enter Try.func7, Try.ntmps7
      go_wp2_with (go_at_call 37; refine (awake8 _).mono ?_; rintro e w1 ⟨rfl, hb⟩)
      go_ret
      exact ⟨rfl, hb⟩
    · have e2 : decide ((100 : Int) < (n : Int)) = false := decide_eq_false (by omega)
      have e3 : decide ((50 : Int) < (m : Int)) = true := decide_eq_true (by omega)
      clear hout
      go_enter Try.func7, Try.ntmps7
      go_wp2_with (go_at_call 37; refine (awake8 _).mono ?_; rintro e w1 ⟨rfl, hb⟩)
      go_ret
      exact ⟨rfl, hb⟩
  · have hn1 : n ≤ 100 := by omega
    have hm1 : m ≤ 50 := by omega
    have e2 : decide ((100 : Int) < (n : Int)) = false := decide_eq_false (by omega)
    have e3 : decide ((50 : Int) < (m : Int)) = false := decide_eq_false (by omega)
    clear hout
    have HP0 : Hid (PL W0 (W0.alloc (.cells (grC []) 68)) W0.heap.size (.slice none 0 0) 0 [] []) := ⟨gr_new W0, World.ownsRow_nil _ _ _ _, balloc (Below.refl _ _) _, Nat.le_refl _⟩
    go_enter Try.func7, Try.ntmps7
    go_wp2_with fail
    have HGL : Hid (W0.heap.size ≤ W0.heap.size) := Nat.le_refl _
    go_loopw [6, 28] (fun mv i wl => ∃ (k : Nat) (ids : List Int) (r : Nat), k ≤ n ∧ i = .int .i64 k ∧ Hid (PL W0 wl W0.heap.size mv r ids ids)) (fun _ i _ => n - (intOf i).toNat)
    case atStart => exact ⟨0, [], 0, by omega, rfl, HP0⟩
    case round =>
      obtain ⟨k, ids, r, hk, rfl, HP⟩ := hrel
      obtain ⟨pm, cm, rfl, _⟩ := row_form HP.out.row
      clear HP0
      by_cases hlt : k < n
      · rcases HO.out with h | ⟨b1, o1, rfl, hc⟩
        · omega
        have ck0 := keepc HP.out.low (hc k hlt).1
        have ck1 := keepc HP.out.low (hc k hlt).2
        have HL32 : Hid (ids.length ≤ 32) := Lib.hid HP.out.gr.2
        clear hc
        generalize (z k).2 = y at *
        generalize hd : (z k).1 = d at *
        clear hd
        cases d with
        | true =>
          go_wp2_with (first
            | (go_at_call 38; refine (drop_any (HP.out.gr.keepB ((Below.refl _ _).alloc (Nat.le_refl _) _)) y).mono ?_; rintro e w3 ⟨E, rfl, he, hg⟩; have HE := Lib.hid he; have HP3 := Lib.hid ((HP.out.keep ((Below.refl _ _).alloc (Nat.le_refl _) _)).group hg); have o1 := (hg.2.cell ((obj_cell (obj_new wr _) 1).trans rfl) (Nat.ne_of_gt HP.out.gr.lt)); clear he hg)
            | (go_at_call 39; refine (rdrop_any HP3.out.row HL32.out y).mono ?_; rintro e w4 ⟨v4, k4, rfl, hr⟩; have HE4 := Lib.hid (HE.out.held (Held.of_below hr.2)); have HP4 := Lib.hid (HP3.out.ref hr); obtain ⟨p4, c4, rfl, _⟩ := row_form hr.1; clear hr o1)
            | (go_at_call 12; refine (is_err HE4.out _).mono ?_; rintro e w5 ⟨rfl, rfl⟩; rw [beq_self_eq_true])
            | (go_at_call 43; refine (gcells_some HP4.out.gr).mono ?_; rintro e w6 ⟨cv, rfl, hn⟩; obtain ⟨pc, cc, rfl, _⟩ := row_form hn.1; have HC6 := Lib.hid hn.1; have HP6 := Lib.hid (HP4.out.keep hn.2); clear hn)
            | (go_at_call 42; refine (same_yes (IntsAt.of_row HC6.out) (IntsAt.of_row HP6.out.row) HP6.out.few).mono ?_; rintro e w7 ⟨rfl, hb⟩; have HP7 := Lib.hid (HP6.out.keep hb); clear hb)
            | (go_at_call 44; refine (glen_some HP7.out.gr).mono ?_; rintro e w8 ⟨rfl, hb⟩; rw [HP7.out.len]; have HP8 := Lib.hid (HP7.out.keep hb); clear hb))
          exact ⟨⟨k + 1, dropIds ids y, k4, by omega, by go_num, HP8⟩, by simp [intOf]; omega⟩
        | false =>
          go_wp2_with (first
            | (go_at_call 40; refine (add_any (HP.out.gr.keepB ((Below.refl _ _).alloc (Nat.le_refl _) _)) y).mono ?_; rintro e w3 ⟨E, rfl, he, hg⟩; have HE := Lib.hid he; have HP3 := Lib.hid ((HP.out.keep ((Below.refl _ _).alloc (Nat.le_refl _) _)).group hg); have o1 := (hg.2.cell ((obj_cell (obj_new wr _) 1).trans rfl) (Nat.ne_of_gt HP.out.gr.lt)); clear he hg)
            | (go_at_call 41; refine (radd_any HP3.out.row HL32.out y).mono ?_; rintro e w4 ⟨v4, k4, rfl, hr⟩; have HE4 := Lib.hid (HE.out.held (Held.of_below hr.2)); have HP4 := Lib.hid (HP3.out.ref hr); obtain ⟨p4, c4, rfl, _⟩ := row_form hr.1; clear hr o1)
            | (go_at_call 12; refine (is_err HE4.out _).mono ?_; rintro e w5 ⟨rfl, rfl⟩; rw [beq_self_eq_true])
            | (go_at_call 43; refine (gcells_some HP4.out.gr).mono ?_; rintro e w6 ⟨cv, rfl, hn⟩; obtain ⟨pc, cc, rfl, _⟩ := row_form hn.1; have HC6 := Lib.hid hn.1; have HP6 := Lib.hid (HP4.out.keep hn.2); clear hn)
            | (go_at_call 42; refine (same_yes (IntsAt.of_row HC6.out) (IntsAt.of_row HP6.out.row) HP6.out.few).mono ?_; rintro e w7 ⟨rfl, hb⟩; have HP7 := Lib.hid (HP6.out.keep hb); clear hb)
            | (go_at_call 44; refine (glen_some HP7.out.gr).mono ?_; rintro e w8 ⟨rfl, hb⟩; rw [HP7.out.len]; have HP8 := Lib.hid (HP7.out.keep hb); clear hb))
          exact ⟨⟨k + 1, addIds ids y, k4, by omega, by go_num, HP8⟩, by simp [intOf]; omega⟩
      · go_wp2_with (go_at_call 45; refine (of_any (HI.out.keep HP.out.low) (by rw [HXL.out]; omega)).mono ?_; rintro e w2 ⟨P, E, g2, rfl, he, hb, hcase⟩; have HE := Lib.hid he; have HB2 := Lib.hid (bthen HP.out.low hb); have HCS := Lib.hid hcase; clear he hb hcase)
        have H20 : Hid (w2.ownsRow 0 3 1 (.slice none 0 0) 0 (([] : List Int).map (Value.int .i64)) ∧ Below w2.heap.size w2 w2) := ⟨World.ownsRow_nil _ _ _ _, Below.refl _ _⟩
        have HT0 : Hid (OfTo xs [] 0 0) := Lib.hid ⟨by simp, by simp⟩
        clear HO HP
        go_loopw [13, 14, 78] (fun lv bv i wl => ∃ (k : Nat) (l : List Int) (r : Nat) (bad : Int), k ≤ m ∧ i = .int .i64 k ∧ bv = .int .i64 bad ∧ Hid (OfTo xs l bad k) ∧ Hid (wl.ownsRow 0 3 1 lv r (l.map (Value.int .i64)) ∧ Below w2.heap.size w2 wl)) (fun _ _ i _ => m - (intOf i).toNat)
        case atStart => exact ⟨0, [], 0, 0, by omega, rfl, rfl, HT0, H20⟩
        case round =>
          obtain ⟨j, l, rl, bad, hj, rfl, rfl, HT, HL⟩ := hrel
          obtain ⟨pl, cl, rfl, _⟩ := row_form HL.out.1
          clear HT0 H20
          by_cases hlt2 : j < m
          · by_cases hbad : bad = 0
            · subst hbad
              rcases HQ.out with h | ⟨b1, o1, rfl, hc⟩
              · omega
              have ck := keepc HL.out.2 (keepc HB2.out (hc j hlt2).1)
              have HT2 := Lib.hid (HT.out.step (by rw [HXL.out]; exact hlt2))
              rw [HXD.out j hlt2] at HT2
              clear hc
              generalize q j = y at *
              go_wp2_with (first
                | (go_at_call 41; refine (radd_any HL.out.1 HT.out.1 y).mono ?_; rintro e w4 ⟨v4, k4, rfl, hr⟩; have HL4 : Hid (w4.ownsRow 0 3 1 v4 k4 ((addIds l y).map (Value.int .i64)) ∧ Below w2.heap.size w2 w4) := ⟨hr.1, bthen HL.out.2 hr.2⟩; obtain ⟨p4, c4, rfl, _⟩ := row_form hr.1; clear hr))
              exact ⟨⟨j + 1, addIds l y, k4, addBad l y, by omega, by go_num, rfl, HT2, HL4⟩, by simp [intOf]; omega⟩
            · have hb0 : (bad == 0) = false := by simpa using hbad
              have HT2 := Lib.hid (HT.out.skip hbad)
              rcases HQ.out with h | ⟨b1, o1, rfl, hc⟩
              · omega
              have ck := keepc HL.out.2 (keepc HB2.out (hc j hlt2).1)
              clear hc hbad
              generalize q j = y at *
              go_wp2
              exact ⟨⟨j + 1, l, rl, bad, by omega, by go_num, rfl, HT2, HL⟩, by simp [intOf]; omega⟩
          · obtain rfl : m = j := by omega
            have hrun : ofRun [] xs = (l, bad) := OfTo.fin (by rw [HXL.out]; exact HT.out)
            have HE2 := HE.out.held (Held.of_below HL.out.2)
            have hcs := HCS.out
            rw [hrun] at HE2 hcs
            have HE3 := Lib.hid HE2
            have HLW := Lib.hid (show Below W0.heap.size W0 wr from bthen HB2.out HL.out.2)
            clear HE2 hrun
            rcases hcs with ⟨hb, rfl, hg, _⟩ | ⟨hb, rfl⟩
            · simp only at hb hg
              subst hb
              have HG := Lib.hid (hg.keepB HL.out.2)
              have HF : Hid (l.length ≤ 1000000) := Lib.hid (by have := hg.2; omega)
              clear hg
              go_wp2_with (first
                | (go_at_call 37; refine (awake8 _).mono ?_; rintro e w9 ⟨rfl, hb9⟩; have HE9 := Lib.hid (HE3.out.held (Held.of_below hb9)); have HG9 := Lib.hid (HG.out.keepB hb9); have HL9 := Lib.hid ((Frm.of_below hb9 fun _ => False).row HL.out.1 fun _ _ => id); have HW9 := Lib.hid (bthen HLW.out hb9); clear hb9)
                | (go_at_call 12; refine (is_err HE9.out _).mono ?_; rintro e w5 ⟨rfl, rfl⟩; rw [beq_self_eq_true])
                | (go_at_call 43; refine (gcells_some HG9.out).mono ?_; rintro e w6 ⟨cv, rfl, hn⟩; obtain ⟨pc, cc, rfl, _⟩ := row_form hn.1; have HC6 := Lib.hid hn.1; have HL6 := Lib.hid ((Frm.of_below hn.2 fun _ => False).row HL9.out fun _ _ => id); have HW6 := Lib.hid (bthen HW9.out hn.2); clear hn)
                | (go_at_call 42; refine (same_yes (IntsAt.of_row HC6.out) (IntsAt.of_row HL6.out) HF.out).mono ?_; rintro e w7 ⟨rfl, hb7⟩; have HW7 := Lib.hid (bthen HW6.out hb7); clear hb7))
              go_ret
              exact ⟨rfl, HW7.out⟩
            · simp only at hb
              have hb0 : (bad != 0) = true := by simpa using hb
              go_wp2_with (first
                | (go_at_call 37; refine (awake8 _).mono ?_; rintro e w9 ⟨rfl, hb9⟩; have HE9 := Lib.hid (HE3.out.held (Held.of_below hb9)); have HW9 := Lib.hid (bthen HLW.out hb9); clear hb9)
                | (go_at_call 12; refine (is_err HE9.out _).mono ?_; rintro e w5 ⟨rfl, rfl⟩; rw [beq_self_eq_true]))
              go_ret
              exact ⟨rfl, HW9.out⟩
end Go.Proofs.Ytdbjeaploanalaa
