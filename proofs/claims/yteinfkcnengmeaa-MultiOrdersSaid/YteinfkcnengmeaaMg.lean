/-
  Claim and New of package multi, by contract. Conditions: the arena has the sequencer's cells and those of who holds it back, New's arena was made by the call and has room; fewer than 2^60 steps.
-/
import Derived.Test.YteinfkcnengmeaaMf
namespace Go.Proofs.Yteinfkcnengmeaa
open Go.RowKit

theorem mClaim_nil (n : Int) (W : World) :
    Calls Try.prog 55 #[.pointer none, .int .i64 n] W fun e w' => ∃ q, e = .returned (.tuple #[.int .i64 0, .iface 164 (.pointer (some ⟨q, 0, none⟩))]) ∧ Chain w' (.iface 164 (.pointer (some ⟨q, 0, none⟩))) 2 2 ∧ Below W.heap.size W w' := by
  go_enter Try.func55, Try.ntmps55
  go_wp2_with (first
    | (go_at_call 99; refine (mlacks_nil _).mono ?_; rintro e w1 ⟨rfl, hb⟩; have HB := Lib.hid hb; clear hb)
    | (go_at_call 100; refine (mclaim_err (mtry_nil n _)).mono ?_; rintro e w2 ⟨q, rfl, hc, hb⟩; have HC := Lib.hid hc; have HB2 := Lib.hid (bthen HB.out hb); clear hc hb))
  go_ret2
  exact ⟨q, rfl, HC.out, HB2.out⟩
theorem mClaim_bad {R : Rest} {W0 W : World} {s : Sh} {c sn sw st : Int} {sh gv : List Int} (h : Lv R W0 W s c sn sh gv sw st) (n : Int) (hn : n < 1 ∨ two s.k < n) :
    Calls Try.prog 55 #[.pointer (some ⟨s.p, 0, none⟩), .int .i64 n] W fun e w' => ∃ q, e = .returned (.tuple #[.int .i64 0, .iface 164 (.pointer (some ⟨q, 0, none⟩))]) ∧ Chain w' (.iface 164 (.pointer (some ⟨q, 0, none⟩))) 2 1 ∧ Below W.heap.size W w' := by
  have HL := Lib.hid h
  have HN := Lib.hid hn
  clear h hn
  go_enter Try.func55, Try.ntmps55
  go_wp2_with (first
    | (go_at_call 99; refine (mlacks HL.out.ms (fun j hj => (HL.out.hin j hj).2)).mono ?_; rintro e w1 ⟨rfl, hb⟩; have HB := Lib.hid hb; clear hb)
    | (go_at_call 100; refine (mclaim_err (mtry_arg (HL.out.keep HB.out).ms.c HL.out.ms.k20 n HN.out)).mono ?_; rintro e w2 ⟨q, rfl, hc, hb⟩; have HC := Lib.hid hc; have HB2 := Lib.hid (bthen HB.out hb); clear hc hb))
  go_ret2
  exact ⟨q, rfl, HC.out, HB2.out⟩
theorem mClaim_run {R : Rest} {W0 W : World} {s : Sh} {c sn sw st : Int} {sh gv : List Int} (h : Lv R W0 W s c sn sh gv sw st) (hc2 : c ≤ 2305843009213693952) (n : Int) (hn1 : 1 ≤ n) (hn2 : n ≤ two s.k) (h0 : 0 ≤ st) (h1 : st < 1152921504606846976) :
    Calls Try.prog 55 #[.pointer (some ⟨s.p, 0, none⟩), .int .i64 n] W fun e w' => Claimed R W0 s c sn sh gv n sw st e w' := by
  have HL := Lib.hid h
  clear h
  go_enter Try.func55, Try.ntmps55
  go_wp2_with (go_at_call 99; refine (mlacks HL.out.ms (fun j hj => (HL.out.hin j hj).2)).mono ?_; rintro e w1 ⟨rfl, hb⟩; have H1 := Lib.hid (HL.out.keep hb); clear hb)
  refine (mclaim_run H1.out hc2 n hn1 hn2 h0 h1).mono ?_
  rintro e w2 (⟨hok, rfl, st', h1, h2, h3⟩ | ⟨hok, q, rfl, hc, st', h1, h2, h3⟩)
  · have HK := Lib.hid hok
    have H3 := Lib.hid h3
    clear hok h3
    go_wp2
    go_ret2
    exact .inl ⟨HK.out, rfl, st', h1, h2, H3.out⟩
  · have HK := Lib.hid hok
    have H3 := Lib.hid h3
    have HC := Lib.hid hc
    clear hok h3 hc
    go_wp2
    go_ret2
    exact .inr ⟨HK.out, q, rfl, HC.out, st', h1, h2, H3.out⟩

/-! New -/
theorem mnew_nil (n : Int) (W : World) :
    Calls Try.prog 53 #[.pointer none, .int .i64 n] W fun e w' => ∃ E, e = .returned (.tuple #[.pointer none, E]) ∧ Refused W w' E 2 := by
  go_enter Try.func53, Try.ntmps53
  go_wp2_with (go_at_call 77; refine (wrap_q _ _ _).mono ?_; rintro e w1 ⟨q, rfl, hr⟩; have HR := Lib.hid hr; clear hr)
  go_ret2
  exact ⟨_, rfl, HR.out⟩
/-- A sequencer's block behind New. -/
def sq0 (b k : Nat) : Array Value := (([.pointer (some ⟨b, 0, none⟩), .int .u8 k, .int .i64 0, .int .i64 0, .pointer none] : List Value) ++ grL [] ++ ([.int .i64 (-1)] : List Value)).toArray
theorem built_sq0 (b k : Nat) : Try.prog.built 156 [(0, .pointer (some ⟨b, 0, none⟩)), (1, .agg #[.int .u8 k]), (6, .int .i64 (-1))] = some (sq0 b k) := by kernel_rfl
theorem sq0_size (b k : Nat) : (sq0 b k).size = 39 := by simp [sq0, grL_len]
theorem sq0_one (b k : Nat) : (sq0 b k).all (·.oneCell') = true := by
  rw [Array.all_eq_true_iff_forall_mem]
  intro y hy
  unfold sq0 at hy
  rw [List.mem_toArray, List.mem_append, List.mem_append] at hy
  rcases hy with (hy | hy) | hy
  · simp only [List.mem_cons, List.not_mem_nil, or_false] at hy
    rcases hy with rfl | rfl | rfl | rfl | rfl <;> rfl
  · unfold grL at hy
    rw [List.mem_map] at hy
    obtain ⟨x, _, rfl⟩ := hy
    rfl
  · simp at hy
    subst hy
    rfl
theorem sq0_at (b k : Nat) {j : Nat} (hj : j < 33) : (sq0 b k)[5 + j]? = (grL [])[j]? := by
  have hl := grL_len (ids := []) (by simp)
  simp only [sq0, List.getElem?_toArray]
  rw [List.getElem?_append_left (by simp [hl]; omega), List.getElem?_append_right (by simp)]
  simp
theorem sq0_gr (b k : Nat) : Gq (sq0 b k) 5 [] := by
  have hl := padI_len (ids := []) (by simp)
  refine ⟨fun j hj => ?_, ?_, by simp⟩
  · rw [sq0_at b k (by omega)]
    simp [grL, List.getElem?_append_left (show j < ((padI []).map (Value.int .i64)).length by simp [hl]; omega), List.getElem?_eq_getElem (show j < (padI []).length by omega)]
  · rw [sq0_at b k (by omega)]
    simp [grL, hl]
theorem sq0_38 (b k : Nat) : (sq0 b k)[38]? = some (.int .i64 (-1)) := by
  have hl := grL_len (ids := []) (by simp)
  simp only [sq0, List.getElem?_toArray]
  rw [List.getElem?_append_right (by simp [hl])]
  simp [hl]
/-- Its cells set one by one. -/
theorem sq0_f (s : Sh) : SqF (((( sq0 s.b s.k).setIfInBounds 2 (.int .i64 s.cur)).setIfInBounds 3 (.int .i64 s.cch)).setIfInBounds 4 (.pointer (some ⟨s.q, 0, none⟩))) s [] (-1) := by
  have hs := sq0_size s.b s.k
  have e : ∀ i, i ≠ 2 → i ≠ 3 → i ≠ 4 → ((((sq0 s.b s.k).setIfInBounds 2 (.int .i64 s.cur)).setIfInBounds 3 (.int .i64 s.cch)).setIfInBounds 4 (.pointer (some ⟨s.q, 0, none⟩)))[i]? = (sq0 s.b s.k)[i]? := fun i h2 h3 h4 => by
    rw [Array.getElem?_setIfInBounds_ne (Ne.symm h4), Array.getElem?_setIfInBounds_ne (Ne.symm h3), Array.getElem?_setIfInBounds_ne (Ne.symm h2)]
  refine ⟨by simpa using hs, (e 0 (by omega) (by omega) (by omega)).trans rfl, (e 1 (by omega) (by omega) (by omega)).trans rfl, ?_, ?_, ?_, ⟨fun j hj => ?_, ?_, by simp⟩, (e 38 (by omega) (by omega) (by omega)).trans (sq0_38 _ _)⟩
  · rw [Array.getElem?_setIfInBounds_ne (by omega), Array.getElem?_setIfInBounds_ne (by omega), Array.getElem?_setIfInBounds_self_of_lt (by omega)]
  · rw [Array.getElem?_setIfInBounds_ne (by omega), Array.getElem?_setIfInBounds_self_of_lt (by simp; omega)]
  · rw [Array.getElem?_setIfInBounds_self_of_lt (by simp; omega)]
  · rw [e _ (by omega) (by omega) (by omega)]
    exact (sq0_gr _ _).nth j hj
  · rw [e _ (by omega) (by omega) (by omega)]
    exact (sq0_gr _ _).n

/-- A sequencer that is being made. -/
structure Nw (R : Rest) (W0 w : World) (b p : Nat) (cs : Array Value) (xs : List Int) (st : Int) : Prop where
  mv : Mv (R.and p cs 156) W0 w b xs st
  low : W0.heap.size ≤ p
  np : ∀ k, R.prot k → k < p
theorem Mv.prot_lt {R : Rest} {W0 W : World} {b : Nat} {xs : List Int} {st : Int} (h : Mv R W0 W b xs st) {k : Nat} (hk : R.prot k) : k < W.heap.size := by
  obtain ⟨v, _, _, _, _, h6⟩ := h
  exact (h6.1 k hk).1
section
variable {R : Rest} {W0 W w w' : World} {b p q k : Nat} {cs : Array Value} {xs : List Int} {st : Int}
theorem Nw.start (h : Mv R W0 W b xs st) (cs : Array Value) : Nw R W0 (W.alloc (.cells cs 156)) b W.heap.size cs xs st := by
  have hb : Below W.heap.size W (W.alloc (.cells cs 156)) := balloc (Below.refl _ _) _
  have h2 := h.keep hb
  refine ⟨h2.turn (S := fun _ => False) (Frm.refl _ _) (fun _ _ _ h => h.elim) ?_ ⟨h2.inv, obj_new _ _⟩, h.below.size, fun k hk => h.prot_lt hk⟩
  rintro g (hg | rfl)
  · exact .inl hg
  · exact .inr ⟨_, _, _, obj_new _ _, by decide, by decide⟩
theorem Nw.blk (h : Nw R W0 w b p cs xs st) : Blk w p cs 156 := h.mv.inv.2
theorem Nw.keep (h : Nw R W0 w b p cs xs st) (hb : Below w.heap.size w w') : Nw R W0 w' b p cs xs st := ⟨h.mv.keep hb, h.low, h.np⟩
theorem Nw.set (h : Nw R W0 w b p cs xs st) (i : Nat) (v : Value) : Nw R W0 (w.setCell ⟨p, i, none⟩ v) b p (cs.setIfInBounds i v) xs st := by
  have hp := h.blk
  have hf : Frm (fun k => k = p) w (w.setCell ⟨p, i, none⟩ v) := (Frm.refl (fun k => k = p) w).setCell (p := ⟨p, i, none⟩) rfl v
  obtain ⟨r, ha, _⟩ := id h.mv
  refine ⟨h.mv.turn hf (fun g o ho e => ?_) (fun g hg => .inl hg) ⟨?_, obj_setCell _ hp⟩, h.low, h.np⟩
  · subst e
    rw [hp] at ho
    cases ho
    exact ⟨h.low, obj_ne hp ha.1 (by decide), fun c e => by injection e with _ e2 _; exact absurd e2 (by decide)⟩
  · exact R.ok _ _ h.mv.inv.1 fun k hk => hf.block k (Nat.lt_trans (h.np k hk) (lt_of_block hp)) (by have := h.np k hk; omega)
/-- Its buffer's place is set: it is made. -/
theorem Nw.done {f : Nat} (h : Av (R.and p cs 156) W0 w b q f k xs st) (hlow : W0.heap.size ≤ p) (hnp : ∀ k, R.prot k → k < p) {s : Sh} (hs : s = ⟨p, b, q, f, k, 0, 1⟩) (hq : SqF (cs.setIfInBounds 4 (.pointer (some ⟨q, 0, none⟩))) s [] (-1)) :
    Ms R W0 (w.setCell ⟨p, 4, none⟩ (.pointer (some ⟨q, 0, none⟩))) s [] (-1) xs st := by
  subst hs
  have hp := h.inv.2
  have hf : Frm (fun k => k = p) w (w.setCell ⟨p, 4, none⟩ (.pointer (some ⟨q, 0, none⟩))) := (Frm.refl (fun k => k = p) w).setCell (p := ⟨p, 4, none⟩) rfl _
  obtain ⟨r, ha, hb, _⟩ := id h
  refine ⟨_, hq, hlow, fun e => Nat.lt_irrefl _ (hnp _ e), h.turn hf (fun g o ho e => ?_) (fun g hg => .inl hg) ⟨?_, obj_setCell _ hp⟩⟩
  · subst e
    rw [hp] at ho
    cases ho
    exact ⟨hlow, obj_ne hp ha.1 (by decide), obj_ne hp hb.1 (by decide), fun c e => by injection e with _ e2 _; exact absurd e2 (by decide)⟩
  · exact R.ok _ _ h.inv.1 fun k hk => hf.block k (Nat.lt_trans (hnp k hk) (lt_of_block hp)) (by have := hnp k hk; omega)
end

theorem Mv.with {R : Rest} {W0 W : World} {b : Nat} {xs : List Int} {st : Int} (h : Mv R W0 W b xs st) {g : Nat} {gs : Array Value} {T : TypeId} (hg : Blk W g gs T) (t1 : T ≠ 135) (t2 : 2 ≠ T) : Mv (R.and g gs T) W0 W b xs st := by
  refine h.turn (S := fun _ => False) (Frm.refl _ _) (fun _ _ _ h => h.elim) ?_ ⟨h.inv, hg⟩
  rintro k (e | rfl)
  · exact .inl e
  · exact .inr ⟨_, _, _, hg, t1, t2⟩

set_option maxHeartbeats 2000000 in
set_option maxRecDepth 100000 in
theorem mnew_ok {R : Rest} {W0 W : World} {b : Nat} {st : Int} (h : Mv R W0 W b [] st) (k n : Nat) (hk : k ≤ 20) (hn : (n : Int) = two k) :
    Calls Try.prog 53 #[.pointer (some ⟨b, 0, none⟩), .int .i64 (two k)] W fun e w' => ∃ s : Sh, e = .returned (.tuple #[.pointer (some ⟨s.p, 0, none⟩), .nilIface]) ∧ s.b = b ∧ s.k = k ∧ Lv R W0 w' s (-1) (-1) (List.replicate n (-1)) [] (-1) st := by
  have HM := Lib.hid h
  have HN := Lib.hid hn
  have t1 := two_le hk
  have t2 := two_pos k
  have hsz := sq0_size b k
  have HBU := Lib.hid (built_sq0 b k)
  have HQF : Hid (∀ p q : Nat, SqF ((((sq0 b k).setIfInBounds 2 (.int .i64 0)).setIfInBounds 3 (.int .i64 1)).setIfInBounds 4 (.pointer (some ⟨q, 0, none⟩))) ⟨p, b, q, 2, k, 0, 1⟩ [] (-1)) := fun p q => sq0_f ⟨p, b, q, 2, k, 0, 1⟩
  have HC : Hid ((sq0 b k)[2]? = some (.int .i64 0) ∧ (sq0 b k)[3]? = some (.int .i64 0) ∧ (sq0 b k)[4]? = some (.pointer none)) := ⟨rfl, rfl, rfl⟩
  have HLEN : Hid (∀ R w, Mv R W0 w b [] st → Calls Try.prog 26 #[.pointer (some ⟨b, 0, none⟩)] w fun e w' => e = .returned (.int .i64 0) ∧ w = w') := fun R w h => len_mv h
  have HA1 : Hid (∀ (R : Rest) w p cs, Nw R W0 w b p cs [] st → Calls Try.prog 31 #[.pointer (some ⟨b, 0, none⟩), .int .i64 (-1)] w fun e w' => e = .returned (.tuple #[.int .i64 0, .nilIface]) ∧ Nw R W0 w' b p cs [-1] st) :=
    fun R w p cs h => (alloc_mv (-1) h.mv (by decide)).mono fun e w' k => ⟨k.1, ⟨k.2, h.low, h.np⟩⟩
  have HA2 : Hid (∀ (R : Rest) w p cs, Nw R W0 w b p cs [-1] st → Calls Try.prog 31 #[.pointer (some ⟨b, 0, none⟩), .int .i64 (-1)] w fun e w' => e = .returned (.tuple #[.int .i64 1, .nilIface]) ∧ Nw R W0 w' b p cs [-1, -1] st) :=
    fun R w p cs h => (alloc_mv (-1) h.mv (by decide)).mono fun e w' k => ⟨k.1, ⟨k.2, h.low, h.np⟩⟩
  have HA3 : Hid (∀ (R : Rest) w, Mv R W0 w b [-1, -1] st → Calls Try.prog 34 #[.pointer (some ⟨b, 0, none⟩), .agg #[.int .u8 k]] w fun e w' => ∃ q, e = .returned (.tuple #[.pointer (some ⟨q, 0, none⟩), .nilIface]) ∧ Av R W0 w' b q 2 k ([-1, -1] ++ List.replicate n (-1)) st) :=
    fun R w h => (anew_ok h k n hk hn (by simp; omega)).mono fun e w' ⟨q, h1, h2, _⟩ => ⟨q, h1, h2⟩
  have d1 : decide (2097152 < two k + 2) = false := decide_eq_false (by omega)
  clear h hn hsz
  generalize sq0 b k = cs at *
  go_enter Try.func53, Try.ntmps53
  go_wp2_with (first
    | (go_at_call 14; refine (of_yes k hk _).mono ?_; rintro e w1 ⟨rfl, hb⟩; have HM1 := Lib.hid (Mv.with (HM.out.keep (balloc hb (.cells #[.int .u8 k] 23))) (obj_new _ _) (by decide) (by decide)); clear hb)
    | (go_at_call 26; refine (HLEN.out _ _ HM1.out).mono ?_; rintro e w' ⟨rfl, rfl⟩; have cz := (obj_cell HM1.out.inv.2 0); generalize w1.alloc (.cells #[.int .u8 k] 23) = w2 at *; generalize w1.heap.size = sb at *)
    | (refine wpList_build3 rfl 156 0 1 6 (.tmp 33) (.tmp 34) (.const (.int .i64 (-1))) rfl _ _ _ rfl rfl rfl cs ?_ ?_; exact HBU.out)
    | (go_at_call 31; have N1 := Lib.hid (Nw.start HM1.out cs); generalize w2.alloc (.cells cs 156) = w3 at *; generalize w2.heap.size = p at *; refine (HA1.out _ _ _ _ N1.out).mono ?_; rintro e w4 ⟨rfl, hn⟩; have N2 := Lib.hid hn; have c2 := (obj_cell hn.blk 2).trans HC.out.1; have f2 := obj_free hn.blk 2; have N3 := Lib.hid (hn.set 2 (.int .i64 0)); clear hn cz)
    | (go_at_call 31; refine (HA2.out _ _ _ _ N3.out).mono ?_; rintro e w5 ⟨rfl, hn⟩; have N4 := Lib.hid hn; have c3 := (obj_cell hn.blk 3).trans ((Array.getElem?_setIfInBounds_ne (by omega)).trans HC.out.2.1); have f3 := obj_free hn.blk 3; have N5 := Lib.hid (hn.set 3 (.int .i64 1)); have cz := (obj_cell N5.out.mv.inv.1.2 0); clear hn c2 f2)
    | (go_at_call 34; refine (HA3.out _ _ N5.out.mv).mono ?_; rintro e w6 ⟨q, rfl, hv⟩; have V6 := Lib.hid hv; have c4 := (obj_cell hv.inv.2 4).trans ((Array.getElem?_setIfInBounds_ne (by omega)).trans ((Array.getElem?_setIfInBounds_ne (by omega)).trans HC.out.2.2)); have f4 := obj_free hv.inv.2 4; clear hv c3 f3 cz))
  go_ret2
  have hms := Nw.done V6.out N1.out.low N1.out.np (s := ⟨p, b, q, 2, k, 0, 1⟩) rfl (HQF.out p q)
  exact ⟨⟨p, b, q, 2, k, 0, 1⟩, rfl, rfl, rfl, by simpa [mk, idsN] using hms.drop, by simp; exact HN.out, rfl, rfl, rfl, Int.le_refl _, Int.le_refl _⟩
end Go.Proofs.Yteinfkcnengmeaa
