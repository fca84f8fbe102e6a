/-
  Claim of package multi, by contract: what it refuses, and what it leaves. Conditions: the cells are there; fewer than 2^60 steps.
  Claim of package multi, by contract: what it refuses, and what it leaves. Conditions: the cells are there; fewer than 2^60 steps.
  Claim of package multi, where its number may be, by contract. Conditions: the arena has the sequencer's cells and those of who holds it back; fewer than 2^60 steps.
  Claim and New of package multi, by contract. Conditions: the arena has the sequencer's cells and those of who holds it back, New's arena was made by the call and has room; fewer than 2^60 steps.
  What may be done to a sequencer of package multi whose arena has its cells alone, by contract; the statements' own example. Conditions: fewer than 2^60 steps.
  What New of package multi refuses by its size, by contract; errors that stay what they are while a sequencer is made. No condition but those that each theorem names.
  Rows and blocks that stand beside an arena, and aren't the rest's: what is known of them as long as they don't turn. No condition.
  Rows beside a sequencer of package multi: made, appended to, set; what is known of it stays. No condition but those that each theorem names.
  A block that is known whole beside a sequencer of package multi and rows: made, set, changed round with a row. No condition but those that each theorem names.
  What a sequencer of package multi keeps while claims and those who hold back go on, in plain numbers. No condition but those that each theorem names.
  Rows and blocks beside an arena: made, appended to, set; what is known of it stays. No condition but those that each theorem names.
-/
import Derived.Test.YtdfcfdcekdmcmaaGreatPk05
import Derived.Test.YtdfcfdcekdmcmaaGreatPk15
set_option linter.unusedVariables false
set_option linter.unusedSimpArgs false
namespace Go.Proofs.YtdfcfdcekdmcmaaGreat
open Go.RowKit
set_option linter.unusedVariables false
structure Lv (R : Rest) (W0 W : World) (s : Sh) (c sn : Int) (sh gv : List Int) (sw st : Int) : Prop where
  lv ::
  ms : Ms R W0 W s (idsN sh.length gv.length) sw (mk c sn sh gv) st
  n : (sh.length : Int) = two s.k
  cur : s.cur = 0
  cch : s.cch = 1
  f : s.f = 2
  c1 : -1 ≤ c
  swc : sw ≤ c
section
variable {R : Rest} {W0 W w : World} {s : Sh} {c sn sw st : Int} {sh gv : List Int}
theorem Lv.keep (h : Lv R W0 W s c sn sh gv sw st) (hb : Below W.heap.size W w) : Lv R W0 w s c sn sh gv sw st := ⟨h.ms.keep hb, h.n, h.cur, h.cch, h.f, h.c1, h.swc⟩
end
end Go.Proofs.YtdfcfdcekdmcmaaGreat
namespace Go.Proofs.YtdfcfdcekdmcmaaGreat
open Go.RowKit
section
variable {R : Rest} {W0 W w : World} {s : Sh} {ids xs : List Int} {sw st : Int} {b : Nat} {ts : Array Value}
end
end Go.Proofs.YtdfcfdcekdmcmaaGreat
namespace Go.Proofs.YtdfcfdcekdmcmaaGreat
open Go.RowKit
end Go.Proofs.YtdfcfdcekdmcmaaGreat
namespace Go.Proofs.YtdfcfdcekdmcmaaGreat
open Go.RowKit
def sq0 (b k : Nat) : Array Value := (([.pointer (some ⟨b, 0, none⟩), .int .u8 k, .int .i64 0, .int .i64 0, .pointer none] : List Value) ++ grL [] ++ ([.int .i64 (-1)] : List Value)).toArray
theorem built_sq0 (b k : Nat) : Tryz.prog.built 219 [(0, .pointer (some ⟨b, 0, none⟩)), (1, .agg #[.int .u8 k]), (6, .int .i64 (-1))] = some (sq0 b k) := by kernel_rfl
theorem sq0_size (b k : Nat) : (sq0 b k).size = 39 := by simp [sq0, grL_len]
theorem sq0_at (b k : Nat) {j : Nat} (hj : j < 33) : (sq0 b k)[5 + j]? = (grL [])[j]? := by
  have hl := grL_len (ids := []) (by simp)
  simp only [sq0, List.getElem?_toArray]
  rw [List.getElem?_append_left (by simp [hl]; omega), List.getElem?_append_right (by simp)]
  simp
theorem sq0_gr (b k : Nat) : Gq (sq0 b k) 5 [] := by
  have hl := padI_len (ids := []) (by simp)
  refine ⟨fun j hj => ?_, ?_, by simp⟩
  · rw [sq0_at b k (by omega)]
    simp [grL, List.getElem?_append_left (show j < ((padI []).map (Value.int .i64)).length by simp [hl]; omega), List.getElem?_eq_getElem (show j < (padI []).length by omega)]
  · rw [sq0_at b k (by omega)]
    simp [grL, hl]
theorem sq0_38 (b k : Nat) : (sq0 b k)[38]? = some (.int .i64 (-1)) := by
  have hl := grL_len (ids := []) (by simp)
  simp only [sq0, List.getElem?_toArray]
  rw [List.getElem?_append_right (by simp [hl])]
  simp [hl]
theorem sq0_f (s : Sh) : SqF (((( sq0 s.b s.k).setIfInBounds 2 (.int .i64 s.cur)).setIfInBounds 3 (.int .i64 s.cch)).setIfInBounds 4 (.pointer (some ⟨s.q, 0, none⟩))) s [] (-1) := by
  have hs := sq0_size s.b s.k
  have e : ∀ i, i ≠ 2 → i ≠ 3 → i ≠ 4 → ((((sq0 s.b s.k).setIfInBounds 2 (.int .i64 s.cur)).setIfInBounds 3 (.int .i64 s.cch)).setIfInBounds 4 (.pointer (some ⟨s.q, 0, none⟩)))[i]? = (sq0 s.b s.k)[i]? := fun i h2 h3 h4 => by
    rw [Array.getElem?_setIfInBounds_ne (Ne.symm h4), Array.getElem?_setIfInBounds_ne (Ne.symm h3), Array.getElem?_setIfInBounds_ne (Ne.symm h2)]
  refine ⟨by simpa using hs, (e 0 (by omega) (by omega) (by omega)).trans rfl, (e 1 (by omega) (by omega) (by omega)).trans rfl, ?_, ?_, ?_, ⟨fun j hj => ?_, ?_, by simp⟩, (e 38 (by omega) (by omega) (by omega)).trans (sq0_38 _ _)⟩
  · rw [Array.getElem?_setIfInBounds_ne (by omega), Array.getElem?_setIfInBounds_ne (by omega), Array.getElem?_setIfInBounds_self_of_lt (by omega)]
  · rw [Array.getElem?_setIfInBounds_ne (by omega), Array.getElem?_setIfInBounds_self_of_lt (by simp; omega)]
  · rw [Array.getElem?_setIfInBounds_self_of_lt (by simp; omega)]
  · rw [e _ (by omega) (by omega) (by omega)]
    exact (sq0_gr _ _).nth j hj
  · rw [e _ (by omega) (by omega) (by omega)]
    exact (sq0_gr _ _).n
structure Nw (R : Rest) (W0 w : World) (b p : Nat) (cs : Array Value) (xs : List Int) (st : Int) : Prop where
  mv : Mv (R.and p cs 219) W0 w b xs st
  low : W0.heap.size ≤ p
  np : ∀ k, R.prot k → k < p
theorem Mv.prot_lt {R : Rest} {W0 W : World} {b : Nat} {xs : List Int} {st : Int} (h : Mv R W0 W b xs st) {k : Nat} (hk : R.prot k) : k < W.heap.size := by
  obtain ⟨v, _, _, _, _, h6⟩ := h
  exact (h6.1 k hk).1
section
variable {R : Rest} {W0 W w w' : World} {b p q k : Nat} {cs : Array Value} {xs : List Int} {st : Int}
theorem Nw.start (h : Mv R W0 W b xs st) (cs : Array Value) : Nw R W0 (W.alloc (.cells cs 219)) b W.heap.size cs xs st := by
  have hb : Below W.heap.size W (W.alloc (.cells cs 219)) := balloc (Below.refl _ _) _
  have h2 := h.keep hb
  refine ⟨h2.turn (S := fun _ => False) (Frm.refl _ _) (fun _ _ _ h => h.elim) ?_ ⟨h2.inv, obj_new _ _⟩, h.below.size, fun k hk => h.prot_lt hk⟩
  rintro g (hg | rfl)
  · exact .inl hg
  · exact .inr ⟨_, _, _, obj_new _ _, by decide, by decide⟩
theorem Nw.blk (h : Nw R W0 w b p cs xs st) : Blk w p cs 219 := h.mv.inv.2
theorem Nw.set (h : Nw R W0 w b p cs xs st) (i : Nat) (v : Value) : Nw R W0 (w.setCell ⟨p, i, none⟩ v) b p (cs.setIfInBounds i v) xs st := by
  have hp := h.blk
  have hf : Frm (fun k => k = p) w (w.setCell ⟨p, i, none⟩ v) := (Frm.refl (fun k => k = p) w).setCell (p := ⟨p, i, none⟩) rfl v
  obtain ⟨r, ha, _⟩ := id h.mv
  refine ⟨h.mv.turn hf (fun g o ho e => ?_) (fun g hg => .inl hg) ⟨?_, obj_setCell _ hp⟩, h.low, h.np⟩
  · subst e
    rw [hp] at ho
    cases ho
    exact ⟨h.low, obj_ne hp ha.1 (by decide), fun c e => by injection e with _ e2 _; exact absurd e2 (by decide)⟩
  · exact R.ok _ _ h.mv.inv.1 fun k hk => hf.block k (Nat.lt_trans (h.np k hk) (lt_of_block hp)) (by have := h.np k hk; omega)
theorem Nw.done {f : Nat} (h : Av (R.and p cs 219) W0 w b q f k xs st) (hlow : W0.heap.size ≤ p) (hnp : ∀ k, R.prot k → k < p) {s : Sh} (hs : s = ⟨p, b, q, f, k, 0, 1⟩) (hq : SqF (cs.setIfInBounds 4 (.pointer (some ⟨q, 0, none⟩))) s [] (-1)) :
    Ms R W0 (w.setCell ⟨p, 4, none⟩ (.pointer (some ⟨q, 0, none⟩))) s [] (-1) xs st := by
  subst hs
  have hp := h.inv.2
  have hf : Frm (fun k => k = p) w (w.setCell ⟨p, 4, none⟩ (.pointer (some ⟨q, 0, none⟩))) := (Frm.refl (fun k => k = p) w).setCell (p := ⟨p, 4, none⟩) rfl _
  obtain ⟨r, ha, hb, _⟩ := id h
  refine ⟨_, hq, hlow, fun e => Nat.lt_irrefl _ (hnp _ e), h.turn hf (fun g o ho e => ?_) (fun g hg => .inl hg) ⟨?_, obj_setCell _ hp⟩⟩
  · subst e
    rw [hp] at ho
    cases ho
    exact ⟨hlow, obj_ne hp ha.1 (by decide), obj_ne hp hb.1 (by decide), fun c e => by injection e with _ e2 _; exact absurd e2 (by decide)⟩
  · exact R.ok _ _ h.inv.1 fun k hk => hf.block k (Nat.lt_trans (hnp k hk) (lt_of_block hp)) (by have := hnp k hk; omega)
end
theorem Mv.with {R : Rest} {W0 W : World} {b : Nat} {xs : List Int} {st : Int} (h : Mv R W0 W b xs st) {g : Nat} {gs : Array Value} {T : TypeId} (hg : Blk W g gs T) (t1 : T ≠ 171) (t2 : 2 ≠ T) : Mv (R.and g gs T) W0 W b xs st := by
  refine h.turn (S := fun _ => False) (Frm.refl _ _) (fun _ _ _ h => h.elim) ?_ ⟨h.inv, hg⟩
  rintro k (e | rfl)
  · exact .inl e
  · exact .inr ⟨_, _, _, hg, t1, t2⟩
set_option maxHeartbeats 2000000 in
set_option maxRecDepth 100000 in
theorem mnew_ok {R : Rest} {W0 W : World} {b : Nat} {st : Int} (h : Mv R W0 W b [] st) (k n : Nat) (hk : k ≤ 20) (hn : (n : Int) = two k) :
    Calls Tryz.prog 121 #[.pointer (some ⟨b, 0, none⟩), .int .i64 (two k)] W fun e w' => ∃ s : Sh, e = .returned (.tuple #[.pointer (some ⟨s.p, 0, none⟩), .nilIface]) ∧ s.b = b ∧ s.k = k ∧ Lv R W0 w' s (-1) (-1) (List.replicate n (-1)) [] (-1) st := by
  have HM := Lib.hid h
  have HN := Lib.hid hn
  have t1 := two_le hk
  have t2 := two_pos k
  have hsz := sq0_size b k
  have HBU := Lib.hid (built_sq0 b k)
  have HQF : Hid (∀ p q : Nat, SqF ((((sq0 b k).setIfInBounds 2 (.int .i64 0)).setIfInBounds 3 (.int .i64 1)).setIfInBounds 4 (.pointer (some ⟨q, 0, none⟩))) ⟨p, b, q, 2, k, 0, 1⟩ [] (-1)) := fun p q => sq0_f ⟨p, b, q, 2, k, 0, 1⟩
  have HC : Hid ((sq0 b k)[2]? = some (.int .i64 0) ∧ (sq0 b k)[3]? = some (.int .i64 0) ∧ (sq0 b k)[4]? = some (.pointer none)) := ⟨rfl, rfl, rfl⟩
  have HLEN : Hid (∀ R w, Mv R W0 w b [] st → Calls Tryz.prog 46 #[.pointer (some ⟨b, 0, none⟩)] w fun e w' => e = .returned (.int .i64 0) ∧ w = w') := fun R w h => len_mv h
  have HA1 : Hid (∀ (R : Rest) w p cs, Nw R W0 w b p cs [] st → Calls Tryz.prog 34 #[.pointer (some ⟨b, 0, none⟩), .int .i64 (-1)] w fun e w' => e = .returned (.tuple #[.int .i64 0, .nilIface]) ∧ Nw R W0 w' b p cs [-1] st) :=
    fun R w p cs h => (alloc_mv (-1) h.mv (by decide)).mono fun e w' k => ⟨k.1, ⟨k.2, h.low, h.np⟩⟩
  have HA2 : Hid (∀ (R : Rest) w p cs, Nw R W0 w b p cs [-1] st → Calls Tryz.prog 34 #[.pointer (some ⟨b, 0, none⟩), .int .i64 (-1)] w fun e w' => e = .returned (.tuple #[.int .i64 1, .nilIface]) ∧ Nw R W0 w' b p cs [-1, -1] st) :=
    fun R w p cs h => (alloc_mv (-1) h.mv (by decide)).mono fun e w' k => ⟨k.1, ⟨k.2, h.low, h.np⟩⟩
  have HA3 : Hid (∀ (R : Rest) w, Mv R W0 w b [-1, -1] st → Calls Tryz.prog 147 #[.pointer (some ⟨b, 0, none⟩), .agg #[.int .u8 k]] w fun e w' => ∃ q, e = .returned (.tuple #[.pointer (some ⟨q, 0, none⟩), .nilIface]) ∧ Av R W0 w' b q 2 k ([-1, -1] ++ List.replicate n (-1)) st) :=
    fun R w h => (anew_ok h k n hk hn (by simp; omega)).mono fun e w' ⟨q, h1, h2, _⟩ => ⟨q, h1, h2⟩
  have d1 : decide (2097152 < two k + 2) = false := decide_eq_false (by omega)
  clear h hn hsz
  generalize sq0 b k = cs at *
  go_enter Tryz.func121, Tryz.ntmps121
  go_wp2_with (first
    | (go_at_call 79; refine (of_yes k hk _).mono ?_; rintro e w1 ⟨rfl, hb⟩; have HM1 := Lib.hid (Mv.with (HM.out.keep (balloc hb (.cells #[.int .u8 k] 100))) (obj_new _ _) (by decide) (by decide)); clear hb)
    | (go_at_call 46; refine (HLEN.out _ _ HM1.out).mono ?_; rintro e w' ⟨rfl, rfl⟩; have cz := (obj_cell HM1.out.inv.2 0); generalize w1.alloc (.cells #[.int .u8 k] 100) = w2 at *; generalize w1.heap.size = sb at *)
    | (refine wpList_build3 rfl 219 0 1 6 (.tmp 33) (.tmp 34) (.const (.int .i64 (-1))) rfl _ _ _ rfl rfl rfl cs ?_ ?_; exact HBU.out)
    | (go_at_call 34; have N1 := Lib.hid (Nw.start HM1.out cs); generalize w2.alloc (.cells cs 219) = w3 at *; generalize w2.heap.size = p at *; refine (HA1.out _ _ _ _ N1.out).mono ?_; rintro e w4 ⟨rfl, hn⟩; have N2 := Lib.hid hn; have c2 := (obj_cell hn.blk 2).trans HC.out.1; have f2 := obj_free hn.blk 2; have N3 := Lib.hid (hn.set 2 (.int .i64 0)); clear hn cz)
    | (go_at_call 34; refine (HA2.out _ _ _ _ N3.out).mono ?_; rintro e w5 ⟨rfl, hn⟩; have N4 := Lib.hid hn; have c3 := (obj_cell hn.blk 3).trans ((Array.getElem?_setIfInBounds_ne (by omega)).trans HC.out.2.1); have f3 := obj_free hn.blk 3; have N5 := Lib.hid (hn.set 3 (.int .i64 1)); have cz := (obj_cell N5.out.mv.inv.1.2 0); clear hn c2 f2)
    | (go_at_call 147; refine (HA3.out _ _ N5.out.mv).mono ?_; rintro e w6 ⟨q, rfl, hv⟩; have V6 := Lib.hid hv; have c4 := (obj_cell hv.inv.2 4).trans ((Array.getElem?_setIfInBounds_ne (by omega)).trans ((Array.getElem?_setIfInBounds_ne (by omega)).trans HC.out.2.2)); have f4 := obj_free hv.inv.2 4; clear hv c3 f3 cz))
  go_ret2
  have hms := Nw.done V6.out N1.out.low N1.out.np (s := ⟨p, b, q, 2, k, 0, 1⟩) rfl (HQF.out p q)
  exact ⟨⟨p, b, q, 2, k, 0, 1⟩, rfl, rfl, rfl, by simpa [mk, idsN] using hms.drop, by simp; exact HN.out, rfl, rfl, rfl, Int.le_refl _, Int.le_refl _⟩
end Go.Proofs.YtdfcfdcekdmcmaaGreat
namespace Go.Proofs.YtdfcfdcekdmcmaaGreat
open Go.RowKit
section
variable {R : Rest} {W0 W w : World} {s : Sh} {c sn sw st : Int} {sh gv : List Int}
end
end Go.Proofs.YtdfcfdcekdmcmaaGreat
namespace Go.Proofs.YtdfcfdcekdmcmaaGreat
open Go.RowKit
end Go.Proofs.YtdfcfdcekdmcmaaGreat
namespace Go.Proofs.YtdfcfdcekdmcmaaGreat
open Go.RowKit
set_option linter.unusedVariables false
def Rest.row (R : Rest) (B : Nat) (T : TypeId) (z : Nat) (v : Value) (n : Nat) (xs : List Value) : Rest :=
  ⟨fun k => R.prot k ∨ v.ownBlock = some k, fun w => R.inv w ∧ w.ownsRow B T z v n xs ∧ ∀ k, R.prot k → v.ownBlock ≠ some k, fun w w' h hk => by
    refine ⟨R.ok _ _ h.1 fun k h => hk k (.inl h), ?_, h.2.2⟩
    obtain ⟨h1, h2⟩ := h.2.1
    refine ⟨h1, ?_⟩
    rcases h2 with h2 | ⟨g, cap, cur, rfl, hg, hh, r⟩
    · exact .inl h2
    · exact .inr ⟨g, cap, cur, rfl, hg, (hk g (.inr (by simp [Value.ownBlock]))).trans hh, r⟩⟩
def Rest.box (R : Rest) (B p : Nat) (cs : Array Value) (U : TypeId) : Rest :=
  ⟨fun k => R.prot k ∨ k = p, fun w => R.inv w ∧ w.heap[p]? = some (.cells cs U (0, 0)) ∧ ¬ R.prot p ∧ B ≤ p, fun w w' h hk => ⟨R.ok _ _ h.1 fun k h => hk k (.inl h), (hk p (.inr rfl)).trans h.2.1, h.2.2⟩⟩
end Go.Proofs.YtdfcfdcekdmcmaaGreat
namespace Go.Proofs.YtdfcfdcekdmcmaaGreat
open Go.RowKit
theorem Av.turn2 {R R' : Rest} {S : Nat → Prop} {W0 W w : World} {b q f k : Nat} {xs : List Int} {st : Int} (h : Av R W0 W b q f k xs st) (hf : Frm S W w) (hS : ∀ g, S g → W0.heap.size ≤ g ∧ R.prot g ∧ g ≠ q) (hR : ∀ g, R'.prot g → R.prot g ∨ (W.heap.size ≤ g ∧ g < w.heap.size)) (hI : R'.inv w) : Av R' W0 w b q f k xs st := by
  obtain ⟨v, h1, h2, h3, h4, h5, h6⟩ := h
  have n1 : ¬ S b := fun e => (h6.1 b (hS b e).2.1).2.1 rfl
  have n2 : ¬ S q := fun e => (hS q e).2.2 rfl
  have n3 : ∀ g, v.ownBlock = some g → ¬ S g := fun g hg e => (h6.1 g (hS g e).2.1).2.2 hg
  have ha' := h1.keep hf n1 n3
  refine ⟨v, ha', h2.keep hf n2, h3.trans ⟨hf.os, hf.tape, hf.output, hf.size, fun k hk => ?_⟩, h4, h5, fun g hg => ?_, hI⟩
  · by_cases hs : S k
    · have := (hS k hs).1
      omega
    · exact hf.block k (Nat.lt_of_lt_of_le hk h3.size) hs
  · rcases hR g hg with hg | ⟨g1, g2⟩
    · exact ⟨Nat.lt_of_lt_of_le (h6.1 g hg).1 hf.size, (h6.1 g hg).2⟩
    · refine ⟨g2, fun e => ?_, fun e => ?_⟩
      · have := lt_of_block h1.1
        omega
      · obtain ⟨cur, hc⟩ := ownsRow_obj h1.2 e
        have := lt_of_block hc
        omega
theorem Ms.turn2 {R R' : Rest} {S : Nat → Prop} {W0 W w : World} {s : Sh} {ids xs : List Int} {sw st : Int} (h : Ms R W0 W s ids sw xs st) (hf : Frm S W w) (hS : ∀ g, S g → W0.heap.size ≤ g ∧ R.prot g ∧ ∀ c m, W.heap[g]? ≠ some (.cells c 268 m)) (hR : ∀ g, R'.prot g → R.prot g ∨ (W.heap.size ≤ g ∧ g < w.heap.size)) (hI : R'.inv w) : Ms R' W0 w s ids sw xs st := by
  obtain ⟨cs, h1, h2, h3, h4⟩ := h
  have hp := h4.inv.2
  have hn : ¬ S s.p := fun e => h3 (hS _ e).2.1
  have hp2 := hf.obj hp hn
  obtain ⟨v, ha, hq, _⟩ := id h4
  refine ⟨cs, h1, h2, ?_, h4.turn2 hf (fun g hs => ⟨(hS g hs).1, .inl (hS g hs).2.1, ?_⟩) ?_ ⟨hI, hp2⟩⟩
  · intro e
    rcases hR _ e with e | e
    · exact h3 e
    · have := lt_of_block hp
      omega
  · rintro rfl
    exact (hS _ hs).2.2 _ _ hq.1
  · rintro g (e | e)
    · rcases hR g e with e | e
      · exact .inl (.inl e)
      · exact .inr e
    · exact .inl (.inr e)
section
variable {R : Rest} {W0 W w : World} {s : Sh} {ids cs : List Int} {sw st : Int} {T : TypeId} {z n : Nat} {v v' : Value} {xs : List Value}
theorem Ms.more (h : Ms R W0 W s ids sw cs st) (hf : Frm (fun _ => False) W w) (ho : w.ownsRow W.heap.size T z v n xs) : Ms (R.row W0.heap.size T z v n xs) W0 w s ids sw cs st := by
  have h0 := h.below.size
  refine h.turn2 hf (fun _ h => h.elim) (fun g hg => ?_) ⟨R.ok _ _ h.inv fun k hk => hf.block k (h.prot_lt hk) id, row_up ho fun g hg => ?_, fun k hk e => ?_⟩
  · rcases hg with hg | hg
    · exact .inl hg
    · exact .inr (ho.lt g hg)
  · have := (ho.lt g hg).1
    omega
  · have := (ho.lt k e).1
    have := h.prot_lt hk
    omega
theorem Lv.of_ms {R' : Rest} {c sn : Int} {sh gv : List Int} (h : Lv R W0 W s c sn sh gv sw st) (hm : Ms R' W0 w s (idsN sh.length gv.length) sw (mk c sn sh gv) st) : Lv R' W0 w s c sn sh gv sw st := ⟨hm, h.n, h.cur, h.cch, h.f, h.c1, h.swc⟩
end
end Go.Proofs.YtdfcfdcekdmcmaaGreat
namespace Go.Proofs.YtdfcfdcekdmcmaaGreat
open Go.RowKit
section
variable {R : Rest} {W0 W w : World} {s : Sh} {ids xs : List Int} {sw st : Int} {T U : TypeId} {z n p : Nat} {v : Value} {ys : List Value} {cs : Array Value}
theorem Ms.boxIs (h : Ms (R.box W0.heap.size p cs U) W0 W s ids sw xs st) : W.heap[p]? = some (.cells cs U (0, 0)) := h.inv.2.1
theorem Ms.boxNew (h : Ms R W0 W s ids sw xs st) (cs : Array Value) (U : TypeId) : Ms (R.box W0.heap.size W.heap.size cs U) W0 (W.alloc (.cells cs U)) s ids sw xs st := by
  have h0 := h.below.size
  have hf : Frm (fun _ => False) W (W.alloc (.cells cs U)) := (Frm.refl _ _).alloc _
  refine h.turn2 hf (fun _ h => h.elim) (fun g hg => ?_) ⟨R.ok _ _ h.inv fun k hk => hf.block k (h.prot_lt hk) id, obj_new _ _, fun e => Nat.lt_irrefl _ (h.prot_lt e), h0⟩
  rcases hg with hg | rfl
  · exact .inl hg
  · exact .inr ⟨Nat.le_refl _, by simp⟩
theorem Ms.boxTurn {cs' : Array Value} (h : Ms (R.box W0.heap.size p cs U) W0 W s ids sw xs st) (hU : U ≠ 268) (hf : Frm (fun k => k = p) W w) (hb : w.heap[p]? = some (.cells cs' U (0, 0))) : Ms (R.box W0.heap.size p cs' U) W0 w s ids sw xs st := by
  have hi := h.inv
  refine h.turn2 hf (fun k hk => ?_) (fun g hg => .inl hg) ⟨R.ok _ _ hi.1 fun k hk => hf.block k (h.prot_lt (.inl hk)) fun e => hi.2.2.1 (e ▸ hk), hb, hi.2.2⟩
  subst hk
  refine ⟨hi.2.2.2, .inr rfl, fun c m e => ?_⟩
  rw [hi.2.1] at e
  cases e
  exact hU rfl
theorem Ms.boxSet (h : Ms (R.box W0.heap.size p cs U) W0 W s ids sw xs st) (hU : U ≠ 268) (i : Nat) (u : Value) : Ms (R.box W0.heap.size p (cs.setIfInBounds i u) U) W0 (W.setCell ⟨p, i, none⟩ u) s ids sw xs st :=
  h.boxTurn hU ((Frm.refl (fun k => k = p) W).setCell (p := ⟨p, i, none⟩) rfl u) (obj_setCell _ h.boxIs)
theorem Ms.rowTo {v' : Value} {n' : Nat} {zs : List Value} (h : Ms R W0 W s ids sw xs st) (hb : Below W.heap.size W w) (ho : w.ownsRow W.heap.size T z v' n' zs) : Ms (R.row W0.heap.size T z v' n' zs) W0 w s ids sw xs st :=
  h.more (Frm.of_below hb fun _ => False) ho
end
end Go.Proofs.YtdfcfdcekdmcmaaGreat
namespace Go.Proofs.YtdfcfdcekdmcmaaGreat
open Go.RowKit
end Go.Proofs.YtdfcfdcekdmcmaaGreat
namespace Go.Proofs.YtdfcfdcekdmcmaaGreat
open Go.RowKit
set_option linter.unusedVariables false
section
variable {R : Rest} {W0 W w w' : World} {a : Nat} {xs : List Int} {st : Int}
theorem Mv.less {R' : Rest} (h : Mv R W0 W a xs st) (hp : ∀ g, R'.prot g → R.prot g) (hi : R'.inv W) : Mv R' W0 W a xs st :=
  h.turn (S := fun _ => False) (Frm.refl _ _) (fun _ _ _ h => h.elim) (fun k hk => .inl (hp k hk)) hi
theorem load_mv (h : Mv R W0 W a xs st) (i : Nat) (x : Int) (hx : xs[i]? = some x) (h0 : 0 ≤ st) (h1 : st < 4611686018427387904) :
    Calls Tryz.prog 35 #[.pointer (some ⟨a, 0, none⟩), .int .i64 i] W fun e w' => e = .returned (.tuple #[.int .i64 x, .nilIface]) ∧ Mv R W0 w' a xs (st + 1) := by
  obtain ⟨v, ha, h3, h4, h5, h6⟩ := h
  exact (load_some i W a v xs st x ha hx h0 h1).mono fun _ _ ⟨he, hs⟩ => ⟨he, Mv.step ha h3 h4 h5 h6 hs⟩
end
section
variable {R R' : Rest} {S : Nat → Prop} {W0 W w : World} {b : Nat} {cs : List Int} {st : Int} {T U : TypeId} {z n p : Nat} {v v' : Value} {xs : List Value} {bx : Array Value}
theorem Mv.turn2 (h : Mv R W0 W b cs st) (hf : Frm S W w) (hS : ∀ g, S g → W0.heap.size ≤ g ∧ R.prot g) (hR : ∀ g, R'.prot g → R.prot g ∨ (W.heap.size ≤ g ∧ g < w.heap.size)) (hI : R'.inv w) : Mv R' W0 w b cs st := by
  obtain ⟨v, h1, h3, h4, h5, h6⟩ := h
  have n1 : ¬ S b := fun e => (h6.1 b (hS b e).2).2.1 rfl
  have n3 : ∀ g, v.ownBlock = some g → ¬ S g := fun g hg e => (h6.1 g (hS g e).2).2.2 hg
  have ha' := h1.keep hf n1 n3
  refine ⟨v, ha', h3.trans ⟨hf.os, hf.tape, hf.output, hf.size, fun k hk => ?_⟩, h4, h5, fun g hg => ?_, hI⟩
  · by_cases hs : S k
    · have := (hS k hs).1
      omega
    · exact hf.block k (Nat.lt_of_lt_of_le hk h3.size) hs
  · rcases hR g hg with hg | ⟨g1, g2⟩
    · exact ⟨Nat.lt_of_lt_of_le (h6.1 g hg).1 hf.size, (h6.1 g hg).2⟩
    · refine ⟨g2, fun e => ?_, fun e => ?_⟩
      · have := lt_of_block h1.1
        omega
      · obtain ⟨cur, hc⟩ := ownsRow_obj h1.2 e
        have := lt_of_block hc
        omega
theorem Mv.rowIs (h : Mv (R.row W0.heap.size T z v n xs) W0 W b cs st) : W.ownsRow W0.heap.size T z v n xs := h.inv.2.1
theorem Mv.rowDrop (h : Mv (R.row W0.heap.size T z v n xs) W0 W b cs st) : Mv R W0 W b cs st := h.less (fun _ k => .inl k) h.inv.1
theorem Mv.boxIs (h : Mv (R.box W0.heap.size p bx U) W0 W b cs st) : W.heap[p]? = some (.cells bx U (0, 0)) := h.inv.2.1
theorem Mv.boxDrop (h : Mv (R.box W0.heap.size p bx U) W0 W b cs st) : Mv R W0 W b cs st := h.less (fun _ k => .inl k) h.inv.1
theorem Mv.nil (h : Mv R W0 W b cs st) (T : TypeId) (z : Nat) : Mv (R.row W0.heap.size T z (.slice none 0 0) 0 []) W0 W b cs st := by
  refine h.turn2 (S := fun _ => False) (Frm.refl _ _) (fun _ h => h.elim) (fun g hg => .inl ?_) ⟨h.inv, World.ownsRow_nil _ _ _ _, fun k _ e => by simp [Value.ownBlock] at e⟩
  rcases hg with hg | hg
  · exact hg
  · simp [Value.ownBlock] at hg
theorem Mv.more (h : Mv R W0 W b cs st) (hb : Below W.heap.size W w) (ho : w.ownsRow W.heap.size T z v n xs) : Mv (R.row W0.heap.size T z v n xs) W0 w b cs st := by
  have h0 := h.below.size
  have hf := Frm.of_below hb fun _ => False
  refine h.turn2 hf (fun _ h => h.elim) (fun g hg => ?_) ⟨R.ok _ _ h.inv fun k hk => hf.block k (h.prot_lt hk) id, row_up ho fun g hg => ?_, fun k hk e => ?_⟩
  · rcases hg with hg | hg
    · exact .inl hg
    · exact .inr (ho.lt g hg)
  · have := (ho.lt g hg).1
    omega
  · have := (ho.lt k e).1
    have := h.prot_lt hk
    omega
theorem Mv.app (h : Mv (R.row W0.heap.size T z v n xs) W0 W b cs st) {n' : Nat} {ys : List Value} (hown : w.ownsRow 0 T z v' n' ys) (hf : Frm (fun k => v.ownBlock = some k) W w) (hv : v'.ownBlock = v.ownBlock ∨ ∀ g, v'.ownBlock = some g → W.heap.size ≤ g) :
    Mv (R.row W0.heap.size T z v' n' ys) W0 w b cs st := by
  have h0 := h.below.size
  have hr := h.inv.2.1
  have hlow : ∀ g, v'.ownBlock = some g → W0.heap.size ≤ g := fun g hg => by
    rcases hv with hv | hv
    · exact (hr.lt g (hv ▸ hg)).1
    · have := hv g hg
      omega
  refine h.turn2 hf (fun g hg => ⟨(hr.lt g hg).1, .inr hg⟩) (fun g hg => ?_) ⟨R.ok _ _ h.inv.1 fun k hk => hf.block k (h.prot_lt (.inl hk)) (h.inv.2.2 k hk), row_up hown hlow, fun k hk e => ?_⟩
  · rcases hg with hg | hg
    · exact .inl (.inl hg)
    · rcases hv with hv | hv
      · exact .inl (.inr (hv ▸ hg))
      · exact .inr ⟨hv g hg, (hown.lt g hg).2⟩
  · rcases hv with hv | hv
    · exact h.inv.2.2 k hk (hv ▸ e)
    · have := hv k e
      have := h.prot_lt (k := k) (.inl hk)
      omega
theorem Mv.boxNew (h : Mv R W0 W b cs st) (bx : Array Value) (U : TypeId) : Mv (R.box W0.heap.size W.heap.size bx U) W0 (W.alloc (.cells bx U)) b cs st := by
  have h0 := h.below.size
  have hf : Frm (fun _ => False) W (W.alloc (.cells bx U)) := (Frm.refl _ _).alloc _
  refine h.turn2 hf (fun _ h => h.elim) (fun g hg => ?_) ⟨R.ok _ _ h.inv fun k hk => hf.block k (h.prot_lt hk) id, obj_new _ _, fun e => Nat.lt_irrefl _ (h.prot_lt e), h0⟩
  rcases hg with hg | rfl
  · exact .inl hg
  · exact .inr ⟨Nat.le_refl _, by simp⟩
theorem Mv.boxTurn {bx' : Array Value} (h : Mv (R.box W0.heap.size p bx U) W0 W b cs st) (hf : Frm (fun k => k = p) W w) (hb : w.heap[p]? = some (.cells bx' U (0, 0))) : Mv (R.box W0.heap.size p bx' U) W0 w b cs st := by
  have hi := h.inv
  refine h.turn2 hf (fun k hk => ?_) (fun g hg => .inl hg) ⟨R.ok _ _ hi.1 fun k hk => hf.block k (h.prot_lt (.inl hk)) fun e => hi.2.2.1 (e ▸ hk), hb, hi.2.2⟩
  subst hk
  exact ⟨hi.2.2.2, .inr rfl⟩
theorem Mv.boxSet (h : Mv (R.box W0.heap.size p bx U) W0 W b cs st) (i : Nat) (u : Value) : Mv (R.box W0.heap.size p (bx.setIfInBounds i u) U) W0 (W.setCell ⟨p, i, none⟩ u) b cs st :=
  h.boxTurn ((Frm.refl (fun k => k = p) W).setCell (p := ⟨p, i, none⟩) rfl u) (obj_setCell _ h.boxIs)
theorem Mv.boxRow (h : Mv (R.box W0.heap.size p bx U) W0 W b cs st) (bx' : Array Value) : Mv (R.box W0.heap.size p bx' U) W0 (W.setRow p bx') b cs st :=
  h.boxTurn ((Frm.refl (fun k => k = p) W).setRow rfl bx') (setRow_heap _ _ _ _ _ _ h.boxIs)
end
end Go.Proofs.YtdfcfdcekdmcmaaGreat
