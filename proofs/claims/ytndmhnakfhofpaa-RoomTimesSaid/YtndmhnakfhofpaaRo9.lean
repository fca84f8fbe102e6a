/-
  RoomTimes: the walk. Conditions: the deadline from 1 to 5000, at most 50 ticks.
-/
import Derived.Test.YtndmhnakfhofpaaRo5
import Derived.Test.YtndmhnakfhofpaaNums
namespace Go.Proofs.Ytndmhnakfhofpaa
open Go.RowKit
set_option linter.unusedVariables false

section
variable {R : Rest} {W0 w : World} {r a c t : Nat}
/-- Ticks with nobody to be woken; ahead of the deadline; and behind it. -/
theorem tick_none (hr : ∀ w, R.inv w → RmC w r a c t) {T : Int} {x : Ac} (h : Rc R W0 w c t [] T [x]) (hx : 0 ≤ x.2.2 ∧ x.2.2 ≤ 1) (d : Int) (hd : 1 ≤ d) (h0 : 0 ≤ T) (hm : T + d ≤ 1099511627776) :
    Calls Try.prog 23 #[.pointer (some ⟨r, 0, none⟩), .int .i64 d] w fun e w' => ∃ p cap, e = .returned (.tuple #[.slice p 0 cap, .nilIface]) ∧ Rc R W0 w' c t [] (T + d) [x] :=
  (rtick_ok hr h (B := 1) (fun y hy => by simp at hy; subst hy; exact hx) (by simp) (by simp) d hd h0 hm).mono fun e w' ⟨p, cap, he, hh⟩ => ⟨p, cap, he, hh.rowDrop⟩
theorem due_no {dl T : Int} (h : T < dl) (who : Int) : due [(dl, who)] T = [] ∧ notDue [(dl, who)] T = [(dl, who)] := by
  have e : decide (dl ≤ T) = false := decide_eq_false (by omega)
  constructor
  · simp [due, whoL]; omega
  · simp [notDue, keptL]; omega
theorem due_yes {dl T : Int} (h : dl ≤ T) (who : Int) : due [(dl, who)] T = [who] ∧ notDue [(dl, who)] T = [] := by
  constructor
  · simp [due, whoL, h]
  · simp [notDue, keptL, h]
theorem tick_ahead (hr : ∀ w, R.inv w → RmC w r a c t) {T dl : Int} {x : Ac} {who : Int} (h : Rc R W0 w c t [(dl, who)] T [x]) (hx : 0 ≤ x.2.2 ∧ x.2.2 ≤ 1) (d : Int) (hd : 1 ≤ d) (h0 : 0 ≤ T) (hm : T + d ≤ 1099511627776) (hl : T + d < dl) :
    Calls Try.prog 23 #[.pointer (some ⟨r, 0, none⟩), .int .i64 d] w fun e w' => ∃ p cap, e = .returned (.tuple #[.slice p 0 cap, .nilIface]) ∧ Rc R W0 w' c t [(dl, who)] (T + d) [x] := by
  have := rtick_ok hr h (B := 1) (fun y hy => by simp at hy; subst hy; exact hx) (by simp) (by simp) d hd h0 hm
  rw [(due_no hl who).1, (due_no hl who).2] at this
  exact this.mono fun e w' ⟨p, cap, he, hh⟩ => ⟨p, cap, he, hh.rowDrop⟩
theorem tick_behind (hr : ∀ w, R.inv w → RmC w r a c t) {T dl : Int} {n : Int} (h : Rc R W0 w c t [(dl, 0)] T [(1, false, n)]) (hn : 0 ≤ n ∧ n ≤ 1) (d : Int) (hd : 1 ≤ d) (h0 : 0 ≤ T) (hm : T + d ≤ 1099511627776) (hl : dl ≤ T + d) :
    Calls Try.prog 23 #[.pointer (some ⟨r, 0, none⟩), .int .i64 d] w fun e w' => ∃ p cap, e = .returned (.tuple #[.slice p 1 cap, .nilIface]) ∧ Rc R W0 w' c t [] (T + d) [(0, false, n + 1)] := by
  have := rtick_ok hr h (B := 1) (fun y hy => by simp at hy; subst hy; exact hn) (by simp) (by simp) d hd h0 hm
  rw [(due_yes hl 0).1, (due_yes hl 0).2] at this
  exact this.mono fun e w' ⟨p, cap, he, hh⟩ => ⟨p, cap, he, hh.rowDrop⟩
end

/-- Where the loop of RoomTimes stands: woken or not, and by when. -/
def RtI (R : Rest) (W : World) (c t : Nat) (dl : Int) (n : Nat) (bv nv iv : Value) (wl : World) : Prop :=
  ∃ (b : Bool) (T : Int) (k : Nat), bv = .bool b ∧ nv = .int .i64 T ∧ iv = .int .i64 k ∧ k ≤ n ∧ k ≤ T ∧ T ≤ 256 * k ∧ (b = true → 1 ≤ k) ∧ (b = false → T < dl) ∧ Rc R W wl c t (if b then [] else [(dl, 0)]) T [if b then (0, false, 1) else (1, false, 0)]

set_option maxHeartbeats 4000000 in
set_option maxRecDepth 100000 in
theorem times_walk (W : World) (dl wh m : Int) (n cap : Nat) (p : Option Addr) (z : Nat → Int) (h1 : 1 ≤ dl) (h2 : dl ≤ 5000) (hw0 : 0 ≤ wh) (hw1 : wh ≤ 255) (hm : wh % 60 = m) (hn : n ≤ 50)
    (hc : n = 0 ∨ ∃ b off, p = some ⟨b, off, none⟩ ∧ ∀ j, j < n → W.cell? ⟨b, off + j, none⟩ = some (.int .u8 (z j)) ∧ 0 ≤ z j ∧ z j ≤ 255) :
    Calls Try.prog 3 #[.int .i64 dl, .slice p n cap, .int .u8 wh] W fun e w' => e = .returned (.bool true) ∧ Below W.heap.size W w' := by
  have HC := Lib.hid hc
  have HM := Lib.hid hm
  clear hc hm
  go_enter Try.func3, Try.ntmps3
  go_wp2_with fail
  refine (rnew W).mono ?_
  rintro e w1 ⟨r, a, c, t, rfl, hnw⟩
  obtain ⟨R, hR⟩ : ∃ R, R = R0.box W.heap.size r #[.pointer (some ⟨a, 0, none⟩), .pointer (some ⟨c, 0, none⟩), .pointer (some ⟨t, 0, none⟩), .slice none 0 0] 182 := ⟨_, rfl⟩
  have hr : ∀ w, R.inv w → RmC w r a c t := fun w hi => by subst hR; exact RmC.of hi.2.1
  have H1 : Hid (Rc R W w1 c t [] 0 []) := Lib.hid (by subst hR; exact hnw.rc)
  have HR := Lib.hid hr
  have HAC : Hid (∀ w, R.inv w → Calls Try.prog 17 #[.pointer (some ⟨r, 0, none⟩)] w fun e w' => e = .returned (.pointer (some ⟨t, 0, none⟩)) ∧ w = w') := Lib.hid fun w hi => ractors (hr w hi)
  have HCK : Hid (∀ w, R.inv w → Calls Try.prog 20 #[.pointer (some ⟨r, 0, none⟩)] w fun e w' => e = .returned (.pointer (some ⟨c, 0, none⟩)) ∧ w = w') := Lib.hid fun w hi => rclock (hr w hi)
  have HPK : Hid (∀ w, Rc R W w c t [] 0 [(0, false, 0)] → Calls Try.prog 19 #[.pointer (some ⟨r, 0, none⟩), .int .i64 0, .int .i64 dl] w fun e w' => e = .returned (.tuple #[.bool true, .nilIface]) ∧ Rc R W w' c t [(dl, 0)] 0 [(1, false, 0)]) := Lib.hid fun w h => rpark_set hr h 0 0 0 rfl (by decide) dl h1 (by omega) (by omega) (by decide) (by decide) (by decide) (by decide)
  clear hnw hr hR
  go_wp2_with (first
    | (go_at_call 17; refine (HAC.out _ H1.out.inv).mono ?_; rintro e y ⟨rfl, rfl⟩)
    | (go_at_call 18; refine (tadd_c H1.out (by decide)).mono ?_; rintro e w2 ⟨rfl, hh⟩; have H2 := Lib.hid hh; clear hh)
    | (go_at_call 19; refine (HPK.out _ H2.out).mono ?_; rintro e w3 ⟨rfl, hh⟩; have H3 := Lib.hid hh; clear hh)
    | (go_at_call 20; refine (HCK.out _ H3.out.inv).mono ?_; rintro e y ⟨rfl, rfl⟩)
    | (go_at_call 21; refine (waiting_c H3.out).mono ?_; rintro e y ⟨rfl, rfl⟩))
  go_loopw [12, 13, 64] (fun bv nv iv wl => RtI R W c t dl n bv nv iv wl) (fun _ _ i _ => n - (intOf i).toNat)
  case atStart => exact ⟨false, 0, 0, rfl, rfl, rfl, by omega, by omega, by omega, fun h => (by cases h), fun _ => (by omega), H3.out⟩
  case round =>
    obtain ⟨b, T, k, rfl, rfl, rfl, hk, hT0, hT1, hb1, hbf, hrc⟩ := hrel
    have HK := Lib.hid hrc
    clear hrc H1 H2 H3 HPK
    by_cases hlt : k < n
    · obtain ⟨bb, off, rfl, hcell⟩ := HC.out.resolve_left (by omega)
      obtain ⟨hz, hz0, hz1⟩ := hcell k hlt
      have q0 := keepc HK.out.below hz
      generalize z k = x at q0 hz0 hz1
      clear hcell hz
      have HTN : Hid (∀ w, Rc R W w c t [] T [(0, false, 1)] → Calls Try.prog 23 #[.pointer (some ⟨r, 0, none⟩), .int .i64 (x + 1)] w fun e w' => ∃ p cap, e = .returned (.tuple #[.slice p 0 cap, .nilIface]) ∧ Rc R W w' c t [] (T + (x + 1)) [(0, false, 1)]) := Lib.hid fun w h => tick_none HR.out h (by decide) (x + 1) (by omega) (by omega) (by omega)
      have FIN : Hid (∀ (b2 : Bool) (w : World), Rc R W w c t (if b2 then [] else [(dl, 0)]) (T + (x + 1)) [if b2 then (0, false, 1) else (1, false, 0)] → (b2 = false → T + (x + 1) < dl) → RtI R W c t dl n (.bool b2) (.int .i64 (T + (x + 1))) (.int .i64 ((k : Int) + 1)) w) := Lib.hid fun b2 w hh hb2 => ⟨b2, T + (x + 1), k + 1, rfl, rfl, by rw [show ((k + 1 : Nat) : Int) = (k : Int) + 1 by omega], by omega, by omega, by omega, fun _ => by omega, hb2, hh⟩
      cases b with
      | true =>
        have HK2 : Hid (Rc R W wr c t [] T [(0, false, 1)]) := HK
        have hbt := hb1 rfl
        clear HK hb1 hbf
        by_cases hkm : (k : Int) = m
        · have e1 : ((k : Int) == m) = true := by simp [hkm]
          have hm2 := HM.out
          clear hkm
          go_wp2_with (first
            | (go_at_call 23; refine (HTN.out _ HK2.out).mono ?_; rintro e w4 ⟨p4, c4, rfl, hh⟩; have H4 := Lib.hid hh; clear hh)
            | (go_at_call 17; refine (HAC.out _ H4.out.inv).mono ?_; rintro e y ⟨rfl, rfl⟩)
            | (go_at_call 24; refine (tstate_c H4.out 0 (0, false, 1) rfl).mono ?_; rintro e w5 ⟨rfl, hb⟩; have H5 := Lib.hid (H4.out.keep hb); clear hb))
          exact ⟨by have := FIN.out true _ H5.out (fun h => by cases h); simpa using this, by simp [intOf]; omega⟩
        · have e1 : ((k : Int) == m) = false := by simpa using hkm
          have hm2 := HM.out
          clear hkm
          go_wp2_with (first
            | (go_at_call 23; refine (HTN.out _ HK2.out).mono ?_; rintro e w4 ⟨p4, c4, rfl, hh⟩; have H4 := Lib.hid hh; clear hh)
            | (go_at_call 17; refine (HAC.out _ H4.out.inv).mono ?_; rintro e y ⟨rfl, rfl⟩)
            | (go_at_call 24; refine (tstate_c H4.out 0 (0, false, 1) rfl).mono ?_; rintro e w5 ⟨rfl, hb⟩; have H5 := Lib.hid (H4.out.keep hb); clear hb))
          exact ⟨by have := FIN.out true _ H5.out (fun h => by cases h); simpa using this, by simp [intOf]; omega⟩
      | false =>
        have HK2 : Hid (Rc R W wr c t [(dl, 0)] T [(1, false, 0)]) := HK
        have hTd := hbf rfl
        clear HK hb1 hbf
        by_cases hkm : (k : Int) = m
        · have e1 : ((k : Int) == m) = true := by simp [hkm]
          have hm2 := HM.out
          clear hkm
          have HWK : Hid (Calls Try.prog 22 #[.pointer (some ⟨r, 0, none⟩), .int .i64 0] wr fun e w' => e = .returned (.tuple #[.bool true, .nilIface]) ∧ Rc R W w' c t [] T [(0, false, 1)]) := Lib.hid (rwake_ok HR.out HK2.out 0 (1, false, 0) rfl (by decide) (by decide) (by decide) (by simp))
          go_wp2_with (first
            | (go_at_call 22; refine HWK.out.mono ?_; rintro e w3 ⟨rfl, hh⟩; have H3 := Lib.hid hh; clear hh)
            | (go_at_call 20; refine (HCK.out _ H3.out.inv).mono ?_; rintro e y ⟨rfl, rfl⟩)
            | (go_at_call 21; refine (waiting_c H3.out).mono ?_; rintro e y ⟨rfl, rfl⟩)
            | (go_at_call 23; refine (HTN.out _ H3.out).mono ?_; rintro e w4 ⟨p4, c4, rfl, hh⟩; have H4 := Lib.hid hh; clear hh)
            | (go_at_call 17; refine (HAC.out _ H4.out.inv).mono ?_; rintro e y ⟨rfl, rfl⟩)
            | (go_at_call 24; refine (tstate_c H4.out 0 (0, false, 1) rfl).mono ?_; rintro e w5 ⟨rfl, hb⟩; have H5 := Lib.hid (H4.out.keep hb); clear hb))
          exact ⟨by have := FIN.out true _ H5.out (fun h => by cases h); simpa using this, by simp [intOf]; omega⟩
        · have e1 : ((k : Int) == m) = false := by simpa using hkm
          have hm2 := HM.out
          clear hkm
          by_cases hd : T + (x + 1) < dl
          · have HT2 := Lib.hid (tick_ahead HR.out HK2.out (by decide) (x + 1) (by omega) (by omega) (by omega) hd)
            have e2 : decide (dl ≤ T + (x + 1)) = false := decide_eq_false (by omega)
            go_wp2_with (first
              | (go_at_call 23; refine HT2.out.mono ?_; rintro e w4 ⟨p4, c4, rfl, hh⟩; have H4 := Lib.hid hh; clear hh)
              | (go_at_call 17; refine (HAC.out _ H4.out.inv).mono ?_; rintro e y ⟨rfl, rfl⟩)
              | (go_at_call 24; refine (tstate_c H4.out 0 (1, false, 0) rfl).mono ?_; rintro e w5 ⟨rfl, hb⟩; have H5 := Lib.hid (H4.out.keep hb); clear hb))
            exact ⟨by have := FIN.out false _ H5.out (fun _ => hd); simpa using this, by simp [intOf]; omega⟩
          · have HT2 := Lib.hid (tick_behind HR.out HK2.out (by decide) (x + 1) (by omega) (by omega) (by omega) (by omega))
            have e2 : decide (dl ≤ T + (x + 1)) = true := decide_eq_true (by omega)
            go_wp2_with (first
              | (go_at_call 23; refine HT2.out.mono ?_; rintro e w4 ⟨p4, c4, rfl, hh⟩; have H4 := Lib.hid hh; clear hh)
              | (go_at_call 17; refine (HAC.out _ H4.out.inv).mono ?_; rintro e y ⟨rfl, rfl⟩)
              | (go_at_call 24; refine (tstate_c H4.out 0 (0, false, 1) rfl).mono ?_; rintro e w5 ⟨rfl, hb⟩; have H5 := Lib.hid (H4.out.keep hb); clear hb))
            exact ⟨by have := FIN.out true _ H5.out (fun h => by cases h); simpa using this, by simp [intOf]; omega⟩
    · obtain rfl : k = n := by omega
      clear hlt
      by_cases hT : T = 0
      · subst hT
        cases b with
        | true => exact absurd (hb1 rfl) (by omega)
        | false =>
          have HK2 : Hid (Rc R W wr c t [(dl, 0)] 0 [(1, false, 0)]) := HK
          have HP : Hid (Calls Try.prog 19 #[.pointer (some ⟨r, 0, none⟩), .int .i64 0, .int .i64 1] wr fun e w' => e = .returned (.tuple #[.bool true, .nilIface]) ∧ Rc R W w' c t [(1, 0)] 0 [(1, false, 0)]) := Lib.hid (rpark_set HR.out HK2.out 0 1 0 rfl (by decide) 1 (by decide) (by decide) (by decide) (by decide) (by decide) (by simp) (by simp [notHis, keptL]))
          clear HK hb1 hbf
          go_wp2_with (first
            | (go_at_call 20; refine (HCK.out _ (by first | exact H4.out.inv | exact HK2.out.inv)).mono ?_; rintro e y ⟨rfl, rfl⟩)
            | (go_at_call 25; refine (now_c (by first | exact H4.out | exact HK2.out)).mono ?_; rintro e y ⟨rfl, rfl⟩)
            | (go_at_call 19; refine HP.out.mono ?_; rintro e w3 ⟨rfl, hh⟩; have H3 := Lib.hid hh; clear hh)
            | (go_at_call 15; refine (awake14 _).mono ?_; rintro e w4 ⟨rfl, hb⟩; have H4 := Lib.hid (H3.out.keep hb); clear hb))
          go_ret
          exact ⟨rfl, H4.out.below⟩
      · have hmx : max 1 T = T := by omega
        have hT2 : (T == 0) = false := by simpa using hT
        have HP : Hid (Calls Try.prog 19 #[.pointer (some ⟨r, 0, none⟩), .int .i64 0, .int .i64 T] wr fun e w' => e = .returned (.tuple #[.bool false, .nilIface]) ∧ Below wr.heap.size wr w') := Lib.hid (by
          cases b with
          | true => exact rpark_late HR.out HK.out 0 (0, false, 1) rfl (by decide) T (by omega) (by omega) (by omega)
          | false => exact rpark_late HR.out HK.out 0 (1, false, 0) rfl (by decide) T (by omega) (by omega) (by omega))
        clear hb1 hbf hT
        go_wp2_with (first
          | (go_at_call 20; refine (HCK.out _ (by first | exact H4.out.inv | exact HK.out.inv)).mono ?_; rintro e y ⟨rfl, rfl⟩)
          | (go_at_call 25; refine (now_c (by first | exact H4.out | exact HK.out)).mono ?_; rintro e y ⟨rfl, rfl⟩)
          | (go_at_call 19; refine HP.out.mono ?_; rintro e w3 ⟨rfl, hb⟩; have H3 := Lib.hid (HK.out.keep hb); clear hb)
          | (go_at_call 15; refine (awake14 _).mono ?_; rintro e w4 ⟨rfl, hb⟩; have H4 := Lib.hid (H3.out.keep hb); clear hb))
        all_goals go_ret
        all_goals exact ⟨rfl, H4.out.below⟩
end Go.Proofs.Ytndmhnakfhofpaa
