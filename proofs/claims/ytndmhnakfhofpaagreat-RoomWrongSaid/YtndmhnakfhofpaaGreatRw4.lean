/-
  RoomWrong: the walk. No condition.
-/
import Derived.Test.YtndmhnakfhofpaaGreatRw3
namespace Go.Proofs.YtndmhnakfhofpaaGreat
open Go.RowKit
set_option linter.unusedVariables false

theorem Es.get {X w : World} {l : List (Value × Nat × Int)} (h : Es X w l) {E : Value} {d : Nat} {n : Int} (hm : (E, d, n) ∈ l) : Chain w E d n := h.2 _ hm
theorem Es.row {X w : World} {l : List (Value × Nat × Int)} (h : Es X w l) {g : Nat} {zs cs : Array Value} {T : TypeId} {m : Nat × Nat} (hg : w.heap[g]? = some (.cells zs T m)) (hT : T ≠ 202) (hX : X.heap.size ≤ g) : Es X (w.setRow g cs) l := by
  have hf : Frm (fun k => k = g) w (w.setRow g cs) := (Frm.refl (fun k => k = g) w).setRow rfl cs
  refine ⟨bsetRow h.1 hX cs, fun x hx => Held.of_frm hf ?_ _ _ _ (h.2 x hx)⟩
  rintro k c T' m' rfl hk
  rw [hg] at hk
  cases hk
  exact hT

set_option maxHeartbeats 8000000 in
set_option maxRecDepth 100000 in
theorem wrong_walk (W : World) (n who at' : Int) :
    Calls Tryz.prog 7 #[.int .i64 n, .int .i64 who, .int .i64 at'] W fun e w' => e = .returned (.bool true) ∧ Below W.heap.size W w' := by
  have ES0 : Hid (Es W W []) := Lib.hid ⟨Below.refl _ _, by simp⟩
  go_enter Tryz.func7, Tryz.ntmps7
  go_wp2_with (first
    | (go_at_call 23; refine (rnil_ring _ _ _).mono ?_; rintro e w1 ⟨q1, rfl, hn⟩; have ES1 := Lib.hid (ES0.out.cons hn.2 hn.1); clear hn ES0)
    | (go_at_call 24; refine (rnil_claim _ _ _).mono ?_; rintro e w2 ⟨cs, E2, rfl, hz, hr⟩; obtain ⟨q2, rfl, hn⟩ := NewE.of_refused hr; have HZ := Lib.hid hz; have ES2 := Lib.hid (ES1.out.cons hn.2 hn.1); clear hn hz hr ES1)
    | (refine wpList_alloc_cla rfl rfl ?_; intro zs hzs; have HZS := Lib.hid hzs; have HG := Lib.hid (obj_new w2 (.cells zs 66)); have ES3 := Lib.hid (ES2.out.keep (balloc (Below.refl _ _) (.cells zs 66))); have HLE := Lib.hid ES2.out.1.size; clear hzs ES2)
    | (refine wpList_store_row rfl 66 (.tmp 10) (.tmp 41) rfl w2.heap.size cs rfl rfl 66 _ HG.out HZ.out.info (by rw [HZ.out.size, HZS.out]) HZ.out.one ?_; have ES4 := Lib.hid (ES3.out.row (cs := cs) HG.out (by decide) HLE.out); clear ES3 HG HZ HZS HLE; generalize World.setRow _ _ _ = w3 at *)
    | (go_at_call 29; refine (rnil_show _ _ _ _).mono ?_; rintro e w4 ⟨q4, rfl, hn⟩; have ES5 := Lib.hid (ES4.out.cons hn.2 hn.1); clear hn ES4)
    | (go_at_call 20; refine (rnil_signal _ _).mono ?_; rintro e w5 ⟨q5, rfl, hn⟩; have ES6 := Lib.hid (ES5.out.cons hn.2 hn.1); clear hn ES5)
    | (go_at_call 22; refine (rnil_park _ _ _).mono ?_; rintro e w6 ⟨q6, rfl, hn⟩; have ES7 := Lib.hid (ES6.out.cons hn.2 hn.1); clear hn ES6)
    | (go_at_call 42; refine (rnil_wake _ _).mono ?_; rintro e w7 ⟨q7, rfl, hn⟩; have ES8 := Lib.hid (ES7.out.cons hn.2 hn.1); clear hn ES7)
    | (go_at_call 43; refine (rnil_tick _ _).mono ?_; rintro e w8 ⟨q8, rfl, hn⟩; have ES9 := Lib.hid (ES8.out.cons hn.2 hn.1); clear hn ES8)
    | (go_at_call 45; refine (rnil_halt _ _).mono ?_; rintro e w9 ⟨q9, rfl, hn⟩; have ES10 := Lib.hid (ES9.out.cons hn.2 hn.1); clear hn)
    | (go_at_call 17; refine (rnil_enlist _ _ _).mono ?_; rintro e w10 ⟨q10, rfl, hn⟩; have ES11 := Lib.hid (ES10.out.cons hn.2 hn.1); clear hn)
    | (go_at_call 44; refine (isN_chain 2 _ 1 2 (by first | exact ES11.out.get (by simp) | exact ES10.out.get (by simp) | exact ES9.out.get (by simp)) (by decide)).mono ?_; rintro e y ⟨rfl, rfl⟩)
    | (go_at_call 33; refine (rnil_arena _).mono ?_; rintro e y ⟨rfl, rfl⟩)
    | (go_at_call 46; refine (len_nil _).mono ?_; rintro e y ⟨rfl, rfl⟩)
    | (go_at_call 14; refine (rnil_actors _).mono ?_; rintro e y ⟨rfl, rfl⟩)
    | (go_at_call 15; refine (tlen_nil _).mono ?_; rintro e y ⟨rfl, rfl⟩)
    | (go_at_call 47; refine (rnil_clock _).mono ?_; rintro e y ⟨rfl, rfl⟩)
    | (go_at_call 48; refine (now_nil _).mono ?_; rintro e y ⟨rfl, rfl⟩)
    | (go_at_call 16; refine (rnil_rings _).mono ?_; rintro e y ⟨rfl, rfl⟩)
    | (go_at_call 36; refine (rnil_cursor _ _).mono ?_; rintro e w11 ⟨rfl, hb⟩; have ES12 := Lib.hid (ES11.out.keep hb); clear hb)
    | (go_at_call 18; refine (rnil_waiting _ _).mono ?_; rintro e w12 ⟨rfl, hb⟩; have ES13 := Lib.hid (ES12.out.keep hb); clear hb)
    | (go_at_call 37; refine (rnil_gate _ _).mono ?_; rintro e w13 ⟨rfl, hb⟩; have ES14 := Lib.hid (ES13.out.keep hb); clear hb)
    | (go_at_call 49; refine (glen_nil _).mono ?_; rintro e y ⟨rfl, rfl⟩)
    | (go_at_call 39; refine (rnil_slots _ _).mono ?_; rintro e w14 ⟨rfl, hb⟩; have ES15 := Lib.hid (ES14.out.keep hb); clear hb)
    | (go_at_call 50; refine (size_nil _).mono ?_; rintro e w15 ⟨rfl, hb⟩; have ES16 := Lib.hid (ES15.out.keep hb); clear hb)
    | (go_at_call 51; refine (slots_any 0 (by decide) _).mono ?_; rintro e w16 ⟨rfl, hw⟩; have ES17 := Lib.hid (ES16.out.keep (slots_below hw)); clear hw; rw [show two 0 = 1 from rfl])
    | (go_at_call 31; refine (rnil_many _ _).mono ?_; rintro e w17 ⟨rfl, hb⟩; have ES18 := Lib.hid (ES17.out.keep hb); clear hb))
  refine (rnew _).mono ?_
  rintro e w18 ⟨r, a, c, t, rfl, hnw⟩
  have ES19 := Lib.hid (ES18.out.keep hnw.bl)
  obtain ⟨R, hR⟩ : ∃ R, R = R0.box w17.heap.size r #[.pointer (some ⟨a, 0, none⟩), .pointer (some ⟨c, 0, none⟩), .pointer (some ⟨t, 0, none⟩), .slice none 0 0] 109 := ⟨_, rfl⟩
  have hr : ∀ w, R.inv w → RmC w r a c t := fun w hi => by subst hR; exact RmC.of hi.2.1
  have hc3 : ∀ w, R.inv w → w.cell? ⟨r, 3, none⟩ = some (.slice none 0 0) := fun w hi => by subst hR; exact (obj_cell hi.2.1 3).trans rfl
  have H1 : Hid (Rc R w17 w18 c t [] 0 []) := Lib.hid (by subst hR; exact hnw.rc)
  have HAR : Hid (∀ w, R.inv w → Calls Tryz.prog 33 #[.pointer (some ⟨r, 0, none⟩)] w fun e w' => e = .returned (.pointer (some ⟨a, 0, none⟩)) ∧ w = w') := Lib.hid fun w hi => rarena 0 (hr w hi)
  have HLN : Hid (∀ w, Below w18.heap.size w18 w → Calls Tryz.prog 46 #[.pointer (some ⟨a, 0, none⟩)] w fun e w' => e = .returned (.int .i64 0) ∧ w = w') := Lib.hid fun w hb => by
    have := len_mv (hnw.mv.keep hb)
    exact this
  have hwr : Wr [] who 3 := .inl ⟨rfl, by simp; omega⟩
  have HHT : Hid (∀ w, Rc R w17 w c t [] 0 [] → Calls Tryz.prog 45 #[.pointer (some ⟨r, 0, none⟩), .int .i64 who] w fun e w' => ∃ q, e = .returned (Flt q) ∧ NewE w w' q 3) := Lib.hid fun w h => rhalt_bad hr h who 3 hwr
  have HPB : Hid (∀ w, 0 ≤ at' → at' ≤ 1099511627776 → Rc R w17 w c t [] 0 [] → Calls Tryz.prog 22 #[.pointer (some ⟨r, 0, none⟩), .int .i64 who, .int .i64 at'] w fun e w' => ∃ q, e = .returned (.tuple #[.bool false, Flt q]) ∧ NewE w w' q 3) := Lib.hid fun w h0 h1 h => rpark_bad hr h who 3 at' hwr h0 h1
  have HPR : Hid (∀ w, at' < 0 ∨ 1099511627776 < at' → Calls Tryz.prog 22 #[.pointer (some ⟨r, 0, none⟩), .int .i64 who, .int .i64 at'] w fun e w' => ∃ q, e = .returned (.tuple #[.bool false, Flt q]) ∧ NewE w w' q 5) := Lib.hid fun w h => rpark_range who at' h w
  have HC3 := Lib.hid hc3
  have HB0 : Hid (Below w18.heap.size w18 w18) := Lib.hid (Below.refl _ _)
  clear hnw hR hr hc3 hwr ES18
  by_cases hat : at' < 0 ∨ 1099511627776 < at'
  · have hp : decide (at' < 0) || decide (1099511627776 < at') := by simpa using hat
    have HAT := Lib.hid hat
    by_cases h1 : at' < 0
    · have d1 : decide (at' < 0) = true := decide_eq_true h1
      clear hat hp h1
      go_wp2_with (first
        | (go_at_call 23; refine (rring_kind _ _ _).mono ?_; rintro e w19 ⟨q19, rfl, hn⟩; have ES20 := Lib.hid (ES19.out.cons hn.2 hn.1); have H2 := Lib.hid (H1.out.keep hn.2); have HB1 := Lib.hid (bthen HB0.out hn.2); clear hn ES19 H1 HB0)
        | (go_at_call 30; refine (rpublished_none (HC3.out _ H2.out.inv) _ _).mono ?_; rintro e w20 ⟨q20, rfl, hn⟩; have ES21 := Lib.hid (ES20.out.cons hn.2 hn.1); have H3 := Lib.hid (H2.out.keep hn.2); have HB2 := Lib.hid (bthen HB1.out hn.2); clear hn ES20 H2 HB1)
        | (go_at_call 22; refine (HPR.out _ HAT.out).mono ?_; rintro e w21 ⟨q21, rfl, hn⟩; have ES22 := Lib.hid (ES21.out.cons hn.2 hn.1); have H4 := Lib.hid (H3.out.keep hn.2); have HB3 := Lib.hid (bthen HB2.out hn.2); clear hn ES21 H3 HB2)
        | (go_at_call 9; refine (awake14 _).mono ?_; rintro e w22 ⟨rfl, hb⟩; have ES23 := Lib.hid (ES22.out.keep hb); have H5 := Lib.hid (H4.out.keep hb); have HB4 := Lib.hid (bthen HB3.out hb); clear hb ES22 H4 HB3)
        | (go_at_call 45; refine (HHT.out _ H5.out).mono ?_; rintro e w23 ⟨q23, rfl, hn⟩; have ES24 := Lib.hid (ES23.out.cons hn.2 hn.1); have H6 := Lib.hid (H5.out.keep hn.2); have HB5 := Lib.hid (bthen HB4.out hn.2); clear hn)
        | (go_at_call_of 44 (Value.int .i64 1); refine (isN_chain 1 _ 1 1 (ES23.out.get (by simp)) (by decide)).mono ?_; rintro e y ⟨rfl, rfl⟩)
        | (go_at_call_of 44 (Value.int .i64 5); refine (isN_chain 5 _ 1 5 (ES23.out.get (by simp)) (by decide)).mono ?_; rintro e y ⟨rfl, rfl⟩)
        | (go_at_call 44; refine (isN_chain 3 _ 1 3 (by first | exact ES24.out.get (by simp) | exact ES23.out.get (by simp)) (by decide)).mono ?_; rintro e y ⟨rfl, rfl⟩)
        | (go_at_call 33; refine (HAR.out _ H6.out.inv).mono ?_; rintro e y ⟨rfl, rfl⟩)
        | (go_at_call 46; refine (HLN.out _ HB5.out).mono ?_; rintro e y ⟨rfl, rfl⟩))
      go_ret
      exact ⟨rfl, ES24.out.1⟩
    · have d1 : decide (at' < 0) = false := decide_eq_false h1
      have d2 : decide (1099511627776 < at') = true := decide_eq_true (by omega)
      clear hat hp h1
      go_wp2_with (first
        | (go_at_call 23; refine (rring_kind _ _ _).mono ?_; rintro e w19 ⟨q19, rfl, hn⟩; have ES20 := Lib.hid (ES19.out.cons hn.2 hn.1); have H2 := Lib.hid (H1.out.keep hn.2); have HB1 := Lib.hid (bthen HB0.out hn.2); clear hn ES19 H1 HB0)
        | (go_at_call 30; refine (rpublished_none (HC3.out _ H2.out.inv) _ _).mono ?_; rintro e w20 ⟨q20, rfl, hn⟩; have ES21 := Lib.hid (ES20.out.cons hn.2 hn.1); have H3 := Lib.hid (H2.out.keep hn.2); have HB2 := Lib.hid (bthen HB1.out hn.2); clear hn ES20 H2 HB1)
        | (go_at_call 22; refine (HPR.out _ HAT.out).mono ?_; rintro e w21 ⟨q21, rfl, hn⟩; have ES22 := Lib.hid (ES21.out.cons hn.2 hn.1); have H4 := Lib.hid (H3.out.keep hn.2); have HB3 := Lib.hid (bthen HB2.out hn.2); clear hn ES21 H3 HB2)
        | (go_at_call 9; refine (awake14 _).mono ?_; rintro e w22 ⟨rfl, hb⟩; have ES23 := Lib.hid (ES22.out.keep hb); have H5 := Lib.hid (H4.out.keep hb); have HB4 := Lib.hid (bthen HB3.out hb); clear hb ES22 H4 HB3)
        | (go_at_call 45; refine (HHT.out _ H5.out).mono ?_; rintro e w23 ⟨q23, rfl, hn⟩; have ES24 := Lib.hid (ES23.out.cons hn.2 hn.1); have H6 := Lib.hid (H5.out.keep hn.2); have HB5 := Lib.hid (bthen HB4.out hn.2); clear hn)
        | (go_at_call_of 44 (Value.int .i64 1); refine (isN_chain 1 _ 1 1 (ES23.out.get (by simp)) (by decide)).mono ?_; rintro e y ⟨rfl, rfl⟩)
        | (go_at_call_of 44 (Value.int .i64 5); refine (isN_chain 5 _ 1 5 (ES23.out.get (by simp)) (by decide)).mono ?_; rintro e y ⟨rfl, rfl⟩)
        | (go_at_call 44; refine (isN_chain 3 _ 1 3 (by first | exact ES24.out.get (by simp) | exact ES23.out.get (by simp)) (by decide)).mono ?_; rintro e y ⟨rfl, rfl⟩)
        | (go_at_call 33; refine (HAR.out _ H6.out.inv).mono ?_; rintro e y ⟨rfl, rfl⟩)
        | (go_at_call 46; refine (HLN.out _ HB5.out).mono ?_; rintro e y ⟨rfl, rfl⟩))
      go_ret
      exact ⟨rfl, ES24.out.1⟩
  · have h0 : 0 ≤ at' := by omega
    have h1 : at' ≤ 1099511627776 := by omega
    have d1 : decide (at' < 0) = false := decide_eq_false (by omega)
    have d2 : decide (1099511627776 < at') = false := decide_eq_false (by omega)
    clear hat
    go_wp2_with (first
      | (go_at_call 23; refine (rring_kind _ _ _).mono ?_; rintro e w19 ⟨q19, rfl, hn⟩; have ES20 := Lib.hid (ES19.out.cons hn.2 hn.1); have H2 := Lib.hid (H1.out.keep hn.2); have HB1 := Lib.hid (bthen HB0.out hn.2); clear hn ES19 H1 HB0)
      | (go_at_call 30; refine (rpublished_none (HC3.out _ H2.out.inv) _ _).mono ?_; rintro e w20 ⟨q20, rfl, hn⟩; have ES21 := Lib.hid (ES20.out.cons hn.2 hn.1); have H3 := Lib.hid (H2.out.keep hn.2); have HB2 := Lib.hid (bthen HB1.out hn.2); clear hn ES20 H2 HB1)
      | (go_at_call 22; refine (HPB.out _ h0 h1 H3.out).mono ?_; rintro e w21 ⟨q21, rfl, hn⟩; have ES22 := Lib.hid (ES21.out.cons hn.2 hn.1); have H4 := Lib.hid (H3.out.keep hn.2); have HB3 := Lib.hid (bthen HB2.out hn.2); clear hn ES21 H3 HB2)
      | (go_at_call 9; refine (awake14 _).mono ?_; rintro e w22 ⟨rfl, hb⟩; have ES23 := Lib.hid (ES22.out.keep hb); have H5 := Lib.hid (H4.out.keep hb); have HB4 := Lib.hid (bthen HB3.out hb); clear hb ES22 H4 HB3)
      | (go_at_call 45; refine (HHT.out _ H5.out).mono ?_; rintro e w23 ⟨q23, rfl, hn⟩; have ES24 := Lib.hid (ES23.out.cons hn.2 hn.1); have H6 := Lib.hid (H5.out.keep hn.2); have HB5 := Lib.hid (bthen HB4.out hn.2); clear hn)
      | (go_at_call_of 44 (Value.int .i64 1); refine (isN_chain 1 _ 1 1 (ES23.out.get (by simp)) (by decide)).mono ?_; rintro e y ⟨rfl, rfl⟩)
      | (go_at_call_of 44 (Value.int .i64 5); refine (isN_chain 5 _ 1 5 (ES23.out.get (by simp)) (by decide)).mono ?_; rintro e y ⟨rfl, rfl⟩)
      | (go_at_call 44; refine (isN_chain 3 _ 1 3 (by first | exact ES24.out.get (by simp) | exact ES23.out.get (by simp)) (by decide)).mono ?_; rintro e y ⟨rfl, rfl⟩)
      | (go_at_call 33; refine (HAR.out _ H6.out.inv).mono ?_; rintro e y ⟨rfl, rfl⟩)
      | (go_at_call 46; refine (HLN.out _ HB5.out).mono ?_; rintro e y ⟨rfl, rfl⟩))
    go_ret
    exact ⟨rfl, ES24.out.1⟩
end Go.Proofs.YtndmhnakfhofpaaGreat
