/-
  A sequencer of package multi beside the document's: the document's box and its rows, changed round; what both answer to a claim, by one plain answer. No condition but those that each theorem names.
  MultiPlays: what holds at each op. No condition but those that each theorem names.
  Two rows appended to in one statement that draws its order, beside a sequencer of package multi. No condition but those that each theorem names.
-/
import Derived.Test.YtjadapjjilegnaaMj
import Derived.Test.YtjadapjjilegnaaRp
import Derived.Test.YtjadapjjilegnaaAP0
import Derived.Test.YtjadapjjilegnaaMem2
namespace Go.Proofs.Ytjadapjjilegnaa
open Go.RowKit
set_option linter.unusedVariables false

/-! What is known, in another order -/
/-- Who knows the one knows the other. -/
def Rest.le (R R' : Rest) : Prop := (∀ k, R'.prot k → R.prot k) ∧ ∀ w, R.inv w → R'.inv w
section
variable {R R' R2 : Rest} {B p q : Nat} {T U V : TypeId} {z n n2 z2 : Nat} {v v2 : Value} {xs xs2 : List Value} {cs ds : Array Value}
theorem Rest.le.trans (h : R.le R') (k : R'.le R2) : R.le R2 := ⟨fun i hi => h.1 i (k.1 i hi), fun w hw => k.2 w (h.2 w hw)⟩
theorem Rest.le.row (h : R.le R') : (R.row B T z v n xs).le (R'.row B T z v n xs) := ⟨fun k hk => hk.imp (h.1 k) id, fun w hw => ⟨h.2 w hw.1, hw.2.1, fun k hk => hw.2.2 k (h.1 k hk)⟩⟩
theorem Rest.le.box (h : R.le R') : (R.box B p cs U).le (R'.box B p cs U) := ⟨fun k hk => hk.imp (h.1 k) id, fun w hw => ⟨h.2 w hw.1, hw.2.1, fun e => hw.2.2.1 (h.1 _ e), hw.2.2.2⟩⟩
theorem Rest.rr : ((R.row B T z v n xs).row B U z2 v2 n2 xs2).le ((R.row B U z2 v2 n2 xs2).row B T z v n xs) := by
  refine ⟨fun k hk => ?_, fun w hw => ?_⟩
  · rcases hk with (hk | hk) | hk
    · exact .inl (.inl hk)
    · exact .inr hk
    · exact .inl (.inr hk)
  · obtain ⟨⟨i1, i2, i3⟩, i4, i5⟩ := hw
    refine ⟨⟨i1, i4, fun k hk => i5 k (.inl hk)⟩, i2, fun k hk => ?_⟩
    rcases hk with hk | hk
    · exact i3 k hk
    · exact fun e => i5 k (.inr e) hk
theorem Rest.rb : ((R.row B T z v n xs).box B p cs U).le ((R.box B p cs U).row B T z v n xs) := by
  refine ⟨fun k hk => ?_, fun w hw => ?_⟩
  · rcases hk with (hk | hk) | hk
    · exact .inl (.inl hk)
    · exact .inr hk
    · exact .inl (.inr hk)
  · obtain ⟨⟨i1, i5, i6⟩, i2, i3, i4⟩ := hw
    refine ⟨⟨i1, i2, fun e => i3 (.inl e), i4⟩, i5, fun k hk => ?_⟩
    rcases hk with hk | rfl
    · exact i6 k hk
    · exact fun e => i3 (.inr e)
theorem Rest.br : ((R.box B p cs U).row B T z v n xs).le ((R.row B T z v n xs).box B p cs U) := by
  refine ⟨fun k hk => ?_, fun w hw => ?_⟩
  · rcases hk with (hk | hk) | hk
    · exact .inl (.inl hk)
    · exact .inr hk
    · exact .inl (.inr hk)
  · obtain ⟨⟨i1, i2, i3, i4⟩, i5, i6⟩ := hw
    refine ⟨⟨i1, i5, fun k hk => i6 k (.inl hk)⟩, i2, fun e => ?_, i4⟩
    rcases e with e | e
    · exact i3 e
    · exact i6 p (.inr rfl) e
theorem Rest.bb : ((R.box B p cs U).box B q ds V).le ((R.box B q ds V).box B p cs U) := by
  refine ⟨fun k hk => ?_, fun w hw => ?_⟩
  · rcases hk with (hk | hk) | hk
    · exact .inl (.inl hk)
    · exact .inr hk
    · exact .inl (.inr hk)
  · obtain ⟨⟨i1, i2, i3, i4⟩, i5, i6, i7⟩ := hw
    refine ⟨⟨i1, i5, fun e => i6 (.inl e), i7⟩, i2, fun e => ?_, i4⟩
    rcases e with e | e
    · exact i3 e
    · exact i6 (.inr e.symm)
theorem Rest.boxLe : (R.box B p cs U).le R := ⟨fun _ h => .inl h, fun _ h => h.1⟩
theorem Rest.rowLe : (R.row B T z v n xs).le R := ⟨fun _ h => .inl h, fun _ h => h.1⟩
end

section
variable {R R' : Rest} {W0 W w : World} {s : Sh} {c sn sw st : Int} {sh gv : List Int} {T U : TypeId} {z n : Nat} {v v' : Value} {xs : List Value}
theorem Lv.le (h : Lv R W0 W s c sn sh gv sw st) (hl : R.le R') : Lv R' W0 W s c sn sh gv sw st := h.less hl.1 (hl.2 _ h.ms.inv)
/-- A row is appended to, at any world. -/
theorem Ms.app2 {ids cs : List Int} (h : Ms (R.row W0.heap.size T z v n xs) W0 W s ids sw cs st) (hT : T ≠ 212) {n' : Nat} {ys : List Value} (hown : w.ownsRow 0 T z v' n' ys) (hf : Frm (fun k => v.ownBlock = some k) W w) (hv : v'.ownBlock = v.ownBlock ∨ ∀ g, v'.ownBlock = some g → W.heap.size ≤ g) :
    Ms (R.row W0.heap.size T z v' n' ys) W0 w s ids sw cs st := by
  have h0 := h.below.size
  have hr := h.inv.2.1
  have hlow : ∀ g, v'.ownBlock = some g → W0.heap.size ≤ g := fun g hg => by
    rcases hv with hv | hv
    · exact (hr.lt g (hv ▸ hg)).1
    · have := hv g hg
      omega
  refine h.turn2 hf (fun g hg => ⟨(hr.lt g hg).1, .inr hg, fun c m e => ?_⟩) (fun g hg => ?_) ⟨R.ok _ _ h.inv.1 fun k hk => hf.block k (h.prot_lt (.inl hk)) (h.inv.2.2 k hk), row_up hown hlow, fun k hk e => ?_⟩
  · obtain ⟨cur, hc⟩ := ownsRow_obj h.inv.2.1 hg
    rw [hc] at e
    cases e
    exact hT rfl
  · rcases hg with hg | hg
    · exact .inl (.inl hg)
    · rcases hv with hv | hv
      · exact .inl (.inr (hv ▸ hg))
      · exact .inr ⟨hv g hg, (hown.lt g hg).2⟩
  · rcases hv with hv | hv
    · exact h.inv.2.2 k hk (hv ▸ e)
    · have := hv k e
      have := h.prot_lt (k := k) (.inl hk)
      omega
end

/-- The document's sequencer in a block, its two rows, and the law's own row of cells; and whatever else. -/
def RP (R : Rest) (B mb : Nat) (bx : Array Value) (vi : Value) (il : List Int) (vg : Value) (gl : List Int) (vs : Value) (ss : List Int) : Rest :=
  (((R.row B 2 1 vs ss.length (ss.map (Value.int .i64))).row B 3 1 vi il.length (il.map (Value.int .i64))).row B 2 1 vg gl.length (gl.map (Value.int .i64))).box B mb bx 125
theorem RP.push {R : Rest} {B mb ob : Nat} {bx oc : Array Value} {vi vg vs : Value} {il gl ss : List Int} {T : TypeId} : ((RP R B mb bx vi il vg gl vs ss).box B ob oc T).le (RP (R.box B ob oc T) B mb bx vi il vg gl vs ss) :=
  Rest.bb.trans (Rest.rb.trans (Rest.rb.trans Rest.rb.row).row).box
theorem RP.mono {R R' : Rest} {B mb : Nat} {bx : Array Value} {vi vg vs : Value} {il gl ss : List Int} (h : R.le R') : (RP R B mb bx vi il vg gl vs ss).le (RP R' B mb bx vi il vg gl vs ss) := h.row.row.row.box

section
variable {R R' : Rest} {W0 W w : World} {s : Sh} {c sn sw st : Int} {sh gv : List Int} {mb : Nat} {bx : Array Value} {vi vg vs vi' vg' vs' : Value} {il gl ss : List Int}
theorem lp_box (h : Lv (RP R W0.heap.size mb bx vi il vg gl vs ss) W0 W s c sn sh gv sw st) : B10 W mb bx := h.ms.boxIs
theorem lp_low (h : Lv (RP R W0.heap.size mb bx vi il vg gl vs ss) W0 W s c sn sh gv sw st) : W0.heap.size ≤ mb := h.ms.inv.2.2.2
theorem lp_g (h : Lv (RP R W0.heap.size mb bx vi il vg gl vs ss) W0 W s c sn sh gv sw st) : W.ownsRow W0.heap.size 2 1 vg gl.length (gl.map (Value.int .i64)) := h.ms.boxDrop.rowIs
theorem lp_i (h : Lv (RP R W0.heap.size mb bx vi il vg gl vs ss) W0 W s c sn sh gv sw st) : W.ownsRow W0.heap.size 3 1 vi il.length (il.map (Value.int .i64)) := h.ms.boxDrop.rowDrop.rowIs
theorem lp_s (h : Lv (RP R W0.heap.size mb bx vi il vg gl vs ss) W0 W s c sn sh gv sw st) : W.ownsRow W0.heap.size 2 1 vs ss.length (ss.map (Value.int .i64)) := h.ms.boxDrop.rowDrop.rowDrop.rowIs
theorem lp_rest (h : Lv (RP R W0.heap.size mb bx vi il vg gl vs ss) W0 W s c sn sh gv sw st) : R.inv W := h.ms.boxDrop.rowDrop.rowDrop.rowDrop.inv
theorem lp_lng (h : Lv (RP R W0.heap.size mb bx vi il vg gl vs ss) W0 W s c sn sh gv sw st) : LngAt W vg gl := .of_row (lp_g h)
theorem lp_lns (h : Lv (RP R W0.heap.size mb bx vi il vg gl vs ss) W0 W s c sn sh gv sw st) : LngAt W vs ss := .of_row (lp_s h)
theorem lp_srow (h : Lv (RP R W0.heap.size mb bx vi il vg gl vs ss) W0 W s c sn sh gv sw st) (hs : ∀ x ∈ ss, 0 ≤ x ∧ x ≤ 4611686018427387904) : SRow W vs ss := ⟨row_base (lp_s h) (Nat.zero_le _), hs⟩
theorem lp_set (h : Lv (RP R W0.heap.size mb bx vi il vg gl vs ss) W0 W s c sn sh gv sw st) (i : Nat) (u : Value) : Lv (RP R W0.heap.size mb (bx.setIfInBounds i u) vi il vg gl vs ss) W0 (W.setCell ⟨mb, i, none⟩ u) s c sn sh gv sw st := h.of_ms (h.ms.boxSet (by decide) i u)
theorem lp_row (h : Lv (RP R W0.heap.size mb bx vi il vg gl vs ss) W0 W s c sn sh gv sw st) (bx' : Array Value) : Lv (RP R W0.heap.size mb bx' vi il vg gl vs ss) W0 (W.setRow mb bx') s c sn sh gv sw st := h.of_ms (h.ms.boxRow (by decide) bx')
theorem lp_gput {g cap : Nat} (h : Lv (RP R W0.heap.size mb bx vi il (.slice (some ⟨g, 0, none⟩) gl.length cap) gl vs ss) W0 W s c sn sh gv sw st) (j : Nat) (x : Int) :
    Lv (RP R W0.heap.size mb bx vi il (.slice (some ⟨g, 0, none⟩) gl.length cap) (gl.set j x) vs ss) W0 (W.setCell ⟨g, j, none⟩ (.int .i64 x)) s c sn sh gv sw st := by
  have h1 := h.le Rest.rb
  have h2 := (h1.of_ms (h1.ms.put (by decide) j (.int .i64 x))).le Rest.br
  rw [show (gl.map (Value.int .i64)).set j (.int .i64 x) = (gl.set j x).map (Value.int .i64) by simp [List.map_set]] at h2
  have e : RP R W0.heap.size mb bx vi il (.slice (some ⟨g, 0, none⟩) gl.length cap) (gl.set j x) vs ss = (((R.row W0.heap.size 2 1 vs ss.length (ss.map (Value.int .i64))).row W0.heap.size 3 1 vi il.length (il.map (Value.int .i64))).row W0.heap.size 2 1 (.slice (some ⟨g, 0, none⟩) gl.length cap) gl.length ((gl.set j x).map (Value.int .i64))).box W0.heap.size mb bx 125 := by
    unfold RP
    rw [List.length_set]
  rw [e]
  exact h2
theorem lp_gapp (h : Lv (RP R W0.heap.size mb bx vi il vg gl vs ss) W0 W s c sn sh gv sw st) (x : Int) (hown : w.ownsRow 0 2 1 vg' (gl.length + 1) (gl.map (Value.int .i64) ++ [.int .i64 x])) (hf : Frm (fun k => vg.ownBlock = some k) W w) (hv : vg'.ownBlock = vg.ownBlock ∨ ∀ g, vg'.ownBlock = some g → W.heap.size ≤ g) :
    Lv (RP R W0.heap.size mb bx vi il vg' (gl ++ [x]) vs ss) W0 w s c sn sh gv sw st := by
  have h1 := h.le Rest.rb
  have h2 := (h1.of_ms (h1.ms.app2 (by decide) hown hf hv)).le Rest.br
  rw [show gl.map (Value.int .i64) ++ [.int .i64 x] = (gl ++ [x]).map (Value.int .i64) by simp, show gl.length + 1 = (gl ++ [x]).length by simp] at h2
  exact h2
theorem lp_iapp (h : Lv (RP R W0.heap.size mb bx vi il vg gl vs ss) W0 W s c sn sh gv sw st) (x : Int) (hown : w.ownsRow 0 3 1 vi' (il.length + 1) (il.map (Value.int .i64) ++ [.int .i64 x])) (hf : Frm (fun k => vi.ownBlock = some k) W w) (hv : vi'.ownBlock = vi.ownBlock ∨ ∀ g, vi'.ownBlock = some g → W.heap.size ≤ g) :
    Lv (RP R W0.heap.size mb bx vi' (il ++ [x]) vg gl vs ss) W0 w s c sn sh gv sw st := by
  have h1 := h.le (Rest.rr.box.trans Rest.rb)
  have h2 := (h1.of_ms (h1.ms.app2 (by decide) hown hf hv)).le (Rest.br.trans Rest.rr.box)
  rw [show il.map (Value.int .i64) ++ [.int .i64 x] = (il ++ [x]).map (Value.int .i64) by simp, show il.length + 1 = (il ++ [x]).length by simp] at h2
  exact h2
theorem lp_snew (h : Lv (RP R W0.heap.size mb bx vi il vg gl vs ss) W0 W s c sn sh gv sw st) {ss' : List Int} (hb : Below W.heap.size W w) (ho : w.ownsRow W.heap.size 2 1 vs' ss'.length (ss'.map (Value.int .i64))) :
    Lv (RP R W0.heap.size mb bx vi il vg gl vs' ss') W0 w s c sn sh gv sw st := by
  have h1 := h.le (((Rest.rr.row).trans Rest.rr).box.trans Rest.rb)
  exact (h1.of_ms (h1.ms.rowDrop.rowTo hb ho)).le (Rest.br.trans (Rest.rr.trans Rest.rr.row).box)
/-- The document's sequencer is made. -/
theorem lp_new (h : Lv R W0 W s c sn sh gv sw st) (bx : Array Value) : Lv (RP R W0.heap.size W.heap.size bx (.slice none 0 0) [] (.slice none 0 0) [] (.slice none 0 0) []) W0 (W.alloc (.cells bx 125)) s c sn sh gv sw st := by
  exact h.of_ms ((((h.ms.nil 2 1).nil 3 1).nil 2 1).boxNew bx 125)
end

/-! A claim -/
/-- What a claim answers, and what it leaves. -/
def ClP (N c sn n : Int) (gv : List Int) (x f c' sn' : Int) : Prop :=
  ((n < 1 ∨ N < n) ∧ x = 0 ∧ f = 1 ∧ c' = c ∧ sn' = sn) ∨
  (1 ≤ n ∧ n ≤ N ∧ okP N c sn n gv ∧ x = c + n ∧ f = 0 ∧ c' = c + n ∧ sn' = snP N c sn n gv) ∨
  (1 ≤ n ∧ n ≤ N ∧ ¬ okP N c sn n gv ∧ x = 0 ∧ f = 10 ∧ c' = c ∧ sn' = sn)
theorem clP_any (N c sn n : Int) (gv : List Int) : ∃ x f c' sn', ClP N c sn n gv x f c' sn' := by
  by_cases h1 : n < 1 ∨ N < n
  · exact ⟨_, _, _, _, .inl ⟨h1, rfl, rfl, rfl, rfl⟩⟩
  · by_cases h2 : okP N c sn n gv
    · exact ⟨_, _, _, _, .inr (.inl ⟨by omega, by omega, h2, rfl, rfl, rfl, rfl⟩)⟩
    · exact ⟨_, _, _, _, .inr (.inr ⟨by omega, by omega, h2, rfl, rfl, rfl, rfl⟩)⟩
theorem mclaim_any {R : Rest} {W0 W : World} {s : Sh} {c sn sw st n x f c' sn' : Int} {sh gv : List Int} (h : Lv R W0 W s c sn sh gv sw st) (hp : ClP (two s.k) c sn n gv x f c' sn') (hc2 : c ≤ 2305843009213693952) (h0 : 0 ≤ st) (h1 : st < 1152921504606846976) :
    Calls Try.prog 73 #[.pointer (some ⟨s.p, 0, none⟩), .int .i64 n] W fun e w' => ∃ E, e = .returned (.tuple #[.int .i64 x, E]) ∧ ErrAt w' E f ∧ ∃ sw' st', st ≤ st' ∧ st' ≤ st + 40 ∧ Lv R W0 w' s c' sn' sh gv sw' st' := by
  rcases hp with ⟨hn, rfl, rfl, rfl, rfl⟩ | ⟨n1, n2, hok, rfl, rfl, rfl, rfl⟩ | ⟨n1, n2, hok, rfl, rfl, rfl, rfl⟩
  · refine (mClaim_bad h n hn).mono ?_
    rintro e w' ⟨q, rfl, hc, hb⟩
    exact ⟨_, rfl, .inr ⟨by decide, ⟨q, rfl⟩, _, hc⟩, sw, st, Int.le_refl _, by omega, h.keep hb⟩
  · refine (mClaim_run h hc2 n n1 n2 h0 h1).mono ?_
    rintro e w' (⟨_, rfl, st', a1, a2, hl⟩ | ⟨hno, _⟩)
    · exact ⟨_, rfl, .none _, _, st', a1, a2, hl⟩
    · exact absurd hok hno
  · refine (mClaim_run h hc2 n n1 n2 h0 h1).mono ?_
    rintro e w' (⟨hyes, _⟩ | ⟨_, q, rfl, hc, st', a1, a2, hl⟩)
    · exact absurd hyes hok
    · exact ⟨_, rfl, .inr ⟨by decide, ⟨q, rfl⟩, _, hc⟩, sw, st', a1, a2, hl⟩
theorem rclaim_any {W : World} {vg vs : Value} {gl : List Int} {N c sn n x f c' sn' : Int} (h : LngAt W vg gl) (hbig : gl.length ≤ 1000000) (hp : ClP N c sn n gl x f c' sn') (hN : 0 ≤ N ∧ N ≤ 1048576) (hc : -1 ≤ c ∧ c ≤ 2305843009213693952) (hn : -9223372036854775808 ≤ n ∧ n ≤ 9223372036854775807) (hg1 : vg.oneCell' = true) (hs1 : vs.oneCell' = true) (hl : -1 ≤ leastP c gl) :
    Calls Try.prog 75 #[.agg (s10 N c vg sn vs), .int .i64 n] W fun e w' => e = .returned (.tuple #[.agg (s10 N c' vg sn' vs), .int .i64 x, .int .i64 f]) ∧ Below W.heap.size W w' := by
  rcases hp with ⟨hw, rfl, rfl, rfl, rfl⟩ | ⟨n1, n2, hok, rfl, rfl, rfl, rfl⟩ | ⟨n1, n2, hok, rfl, rfl, rfl, rfl⟩
  · exact rclaim10_bad h hbig N _ _ n vs hN hc hn hg1 hs1 1 (by unfold wrongP; rw [if_pos hw]) rfl
  · by_cases he : enoughP N c sn n
    · rw [show snP N c sn n gl = sn by unfold snP; rw [if_pos he]]
      exact rclaim10_seen h hbig N c sn n vs hN hc ⟨n1, n2⟩ hg1 hs1 he
    · rw [show snP N c sn n gl = leastP c gl by unfold snP; rw [if_neg he]]
      exact rclaim10_fits h hbig N c sn n vs hN hc ⟨n1, n2⟩ hg1 hs1 he hl (hok.resolve_left he)
  · exact rclaim10_full h hbig N _ _ n vs hN hc ⟨n1, n2⟩ hg1 hs1 (fun e => hok (.inl e)) hl (by have : ¬ (c' + n - N ≤ leastP c' gl) := fun e => hok (.inr e); omega)
theorem Seen.cl {N c sn n x f c' sn' : Int} {gv : List Int} (h : Seen c sn gv) (hp : ClP N c sn n gv x f c' sn') : Seen c' sn' gv := by
  rcases hp with ⟨hn, rfl, rfl, rfl, rfl⟩ | ⟨n1, n2, hok, rfl, rfl, rfl, rfl⟩ | ⟨n1, n2, hok, rfl, rfl, rfl, rfl⟩
  · exact h
  · exact h.claim n1
  · exact h
end Go.Proofs.Ytjadapjjilegnaa
namespace Go.Proofs.Ytjadapjjilegnaa
open Go.RowKit
set_option linter.unusedVariables false

/-- The plain numbers: fewer than so many steps, so many claimed. -/
structure MpI (k : Nat) (c sn : Int) (sh gv ss : List Int) (st T : Int) (m : Nat) : Prop where
  seen : Seen c sn gv
  g1 : ∀ x ∈ gv, -1 ≤ x
  gl : gv.length ≤ 20
  apr : APr 0 k ss sh
  sb : ∀ x ∈ ss, 0 ≤ x ∧ x ≤ 4611686018427387904
  sl : ss.length ≤ 64 * m
  c0 : -1 ≤ c
  c2 : c ≤ 64 * m
  st0 : 0 ≤ st
  st1 : st ≤ T
  g2 : ∀ x ∈ gv, x ≤ c
theorem MpI.least {k m : Nat} {c sn st T : Int} {sh gv ss : List Int} (h : MpI k c sn sh gv ss st T m) : -1 ≤ leastP c gv := le_least.2 ⟨h.c0, h.g1⟩
theorem MpI.mono {k m m' : Nat} {c sn st T T' : Int} {sh gv ss : List Int} (h : MpI k c sn sh gv ss st T m) (h1 : T ≤ T') (h2 : m ≤ m') : MpI k c sn sh gv ss st T' m' :=
  ⟨h.seen, h.g1, h.gl, h.apr, h.sb, by have := h.sl; omega, h.c0, by have := h.c2; omega, h.st0, by have := h.st1; omega, h.g2⟩
theorem MpI.cl {k m : Nat} {c sn st st' T T' x f c' sn' n : Int} {sh gv ss : List Int} (h : MpI k c sn sh gv ss st T m) (hp : ClP (two k) c sn n gv x f c' sn') (hk : two k ≤ 64) (a1 : st ≤ st') (a2 : st' ≤ T') : MpI k c' sn' sh gv ss st' T' (m + 1) := by
  refine ⟨h.seen.cl hp, h.g1, h.gl, h.apr, h.sb, by have := h.sl; omega, ?_, ?_, by have := h.st0; omega, a2, fun y hy => ?_⟩
  · have := h.c0
    rcases hp with ⟨hn, rfl, rfl, rfl, rfl⟩ | ⟨n1, n2, hok, rfl, rfl, rfl, rfl⟩ | ⟨n1, n2, hok, rfl, rfl, rfl, rfl⟩ <;> omega
  · have := h.c2
    rcases hp with ⟨hn, rfl, rfl, rfl, rfl⟩ | ⟨n1, n2, hok, rfl, rfl, rfl, rfl⟩ | ⟨n1, n2, hok, rfl, rfl, rfl, rfl⟩ <;> omega
  · have := h.g2 y hy
    rcases hp with ⟨hn, rfl, rfl, rfl, rfl⟩ | ⟨n1, n2, hok, rfl, rfl, rfl, rfl⟩ | ⟨n1, n2, hok, rfl, rfl, rfl, rfl⟩ <;> omega
/-- All that is kept beside a rest. -/
def MPs (R : Rest) (W0 w : World) (s : Sh) (mb : Nat) (T : Int) (m : Nat) (vi : Value) : Prop :=
  ∃ c sn sh gv ss sw st vg vs, Lv (RP R W0.heap.size mb (s10 (two s.k) c vg sn vs) vi (idsN sh.length gv.length) vg gv vs ss) W0 w s c sn sh gv sw st ∧ MpI s.k c sn sh gv ss st T m
theorem two64 {k : Nat} (h : k < 7) : two k ≤ 64 := by
  have : k = 0 ∨ k = 1 ∨ k = 2 ∨ k = 3 ∨ k = 4 ∨ k = 5 ∨ k = 6 := by omega
  rcases this with rfl | rfl | rfl | rfl | rfl | rfl | rfl <;> decide
theorem MpI.start {k n : Nat} (hn : (n : Int) = two k) : MpI k (-1) (-1) (List.replicate n (-1)) [] [] 0 0 0 := by
  refine ⟨by simp [Seen, leastP], by simp, by simp, ?_, by simp, by simp, by simp, by simp, by simp, by simp, by simp⟩
  have := APr.start 0 k n hn
  simpa using this
/-- What the cells of the boxed sequencer are, later too. -/
theorem k7_keep {w w' : World} {A : Nat} {N c sn : Int} {gv : Value} (h : K7 w A N c gv sn) (hb : Below w.heap.size w w') : K7 w' A N c gv sn := ⟨keepc hb h.k0, keepc hb h.k1, keepc hb h.k2, keepc hb h.k3, keepc hb h.k4, keepc hb h.k5⟩
/-- Cells of a block that is the rest's. -/
theorem lp_ob {R : Rest} {W0 W : World} {s : Sh} {c sn sw st : Int} {sh gv : List Int} {mb ob : Nat} {bx oc : Array Value} {vi vg vs : Value} {il gl ss : List Int} {T : TypeId} (h : Lv (RP (R.box W0.heap.size ob oc T) W0.heap.size mb bx vi il vg gl vs ss) W0 W s c sn sh gv sw st) : W.heap[ob]? = some (.cells oc T (0, 0)) := (lp_rest h).2.1
/-- Errors stay what they are where no fault's block turns. -/
theorem chain_frm {S : Nat → Prop} {W w : World} {E : Value} {d : Nat} {n : Int} (hf : Frm S W w) (hS : ∀ k c m, W.heap[k]? = some (.cells c 243 m) → ¬ S k) (hc : Chain W E d n) : Chain w E d n := by
  induction hc with
  | num n => exact .num n
  | fault q op seq E d n h0 _ ih => exact .fault q op seq E d n (hf.obj h0 (hS _ _ _ h0)) ih
theorem ErrAt.frm {S : Nat → Prop} {W w : World} {E : Value} {n : Int} (h : ErrAt W E n) (hf : Frm S W w) (hS : ∀ k c m, W.heap[k]? = some (.cells c 243 m) → ¬ S k) : ErrAt w E n := by
  rcases h with h | ⟨h0, h1, d, h2⟩
  · exact .inl h
  · exact .inr ⟨h0, h1, d, chain_frm hf hS h2⟩
theorem ErrAt.row {W : World} {E : Value} {n : Int} {g : Nat} {cs cs' : Array Value} {T : TypeId} {m : Nat × Nat} (h : ErrAt W E n) (hg : W.heap[g]? = some (.cells cs T m)) (hT : T ≠ 243) : ErrAt (W.setRow g cs') E n :=
  h.frm ((Frm.refl (fun k => k = g) W).setRow rfl cs') fun k c m e hk => by
    subst hk
    rw [hg] at e
    cases e
    exact hT rfl
section
variable {R : Rest} {W0 W : World} {s : Sh} {c sn sw st : Int} {sh gv : List Int} {mb : Nat} {bx : Array Value} {vi vg vs : Value} {il gl ss : List Int} {g cap m i : Nat} {x : Int}
theorem lp_gat (h : Lv (RP R W0.heap.size mb bx vi il (.slice (some ⟨g, 0, none⟩) m cap) gl vs ss) W0 W s c sn sh gv sw st) (hm : gl.length = m) (hx : gl[i]? = some x) : W.cell? ⟨g, i, none⟩ = some (.int .i64 x) := by
  subst hm
  have hi : i < gl.length := by
    rcases Nat.lt_or_ge i gl.length with h | h
    · exact h
    · rw [List.getElem?_eq_none h] at hx
      cases hx
  rw [(lp_g h).cellAt i (by omega), List.getElem?_map, hx]
  rfl
theorem lp_iat (h : Lv (RP R W0.heap.size mb bx (.slice (some ⟨g, 0, none⟩) m cap) il vg gl vs ss) W0 W s c sn sh gv sw st) (hm : il.length = m) (hx : il[i]? = some x) : W.cell? ⟨g, i, none⟩ = some (.int .i64 x) := by
  subst hm
  have hi : i < il.length := by
    rcases Nat.lt_or_ge i il.length with h | h
    · exact h
    · rw [List.getElem?_eq_none h] at hx
      cases hx
  rw [(lp_i h).cellAt i (by omega), List.getElem?_map, hx]
  rfl
theorem idsN_get (n m : Nat) {i : Nat} (h : i < m) : (idsN n m)[i]? = some ((n + 2 + i : Nat) : Int) := by
  have hl : i < (idsN n m).length := by rw [idsN_len]; exact h
  have := idsN_at n m h
  rw [List.getElem?_eq_getElem hl]
  simpa [List.getD, List.getElem?_eq_getElem hl] using this
end
end Go.Proofs.Ytjadapjjilegnaa
namespace Go.Proofs.Ytjadapjjilegnaa
open Go.RowKit
set_option linter.unusedVariables false

theorem infoN : (Try.prog.info? 3).map (fun i => (i.zero, i.size, i.bytes)) = some (some (.int .i64 0), 1, 8) := by kernel_rfl
/-- The rows, of so many cells each. -/
def St (R : Rest) (W0 w : World) (s : Sh) (mb : Nat) (bx : Array Value) (c sn : Int) (sh gv : List Int) (sw st : Int) (vi : Value) (m : Nat) (il : List Int) (vg : Value) (q : Nat) (gl : List Int) (vs : Value) (ss : List Int) : Prop :=
  Lv (RP R W0.heap.size mb bx vi il vg gl vs ss) W0 w s c sn sh gv sw st ∧ il.length = m ∧ gl.length = q
section
variable {R : Rest} {W0 W w : World} {s : Sh} {c sn sw st : Int} {sh gv : List Int} {mb : Nat} {bx : Array Value} {vi vg vs vi' vg' : Value} {il gl ss : List Int} {m q : Nat}
theorem St.keep (h : St R W0 W s mb bx c sn sh gv sw st vi m il vg q gl vs ss) (hb : Below W.heap.size W w) : St R W0 w s mb bx c sn sh gv sw st vi m il vg q gl vs ss := ⟨h.1.keep hb, h.2⟩
theorem St.rowI (h : St R W0 W s mb bx c sn sh gv sw st vi m il vg q gl vs ss) : W.ownsRow 0 3 1 vi m (il.map (Value.int .i64)) := by
  have := row_base (lp_i h.1) (Nat.zero_le _)
  rwa [h.2.1] at this
theorem St.rowG (h : St R W0 W s mb bx c sn sh gv sw st vi m il vg q gl vs ss) : W.ownsRow 0 2 1 vg q (gl.map (Value.int .i64)) := by
  have := row_base (lp_g h.1) (Nat.zero_le _)
  rwa [h.2.2] at this
theorem St.appI (h : St R W0 W s mb bx c sn sh gv sw st vi m il vg q gl vs ss) (x : Int) (hown : w.ownsRow 0 3 1 vi' (m + 1) (il.map (Value.int .i64) ++ [.int .i64 x])) (hf : Frm (fun k => vi.ownBlock = some k) W w) (hv : vi'.ownBlock = vi.ownBlock ∨ ∀ g, vi'.ownBlock = some g → W.heap.size ≤ g) :
    St R W0 w s mb bx c sn sh gv sw st vi' (m + 1) (il ++ [x]) vg q gl vs ss :=
  ⟨lp_iapp h.1 x (by rw [h.2.1]; exact hown) hf hv, by simp [h.2.1], h.2.2⟩
theorem St.appG (h : St R W0 W s mb bx c sn sh gv sw st vi m il vg q gl vs ss) (x : Int) (hown : w.ownsRow 0 2 1 vg' (q + 1) (gl.map (Value.int .i64) ++ [.int .i64 x])) (hf : Frm (fun k => vg.ownBlock = some k) W w) (hv : vg'.ownBlock = vg.ownBlock ∨ ∀ g, vg'.ownBlock = some g → W.heap.size ≤ g) :
    St R W0 w s mb bx c sn sh gv sw st vi m il vg' (q + 1) (gl ++ [x]) vs ss :=
  ⟨lp_gapp h.1 x (by rw [h.2.2]; exact hown) hf hv, h.2.1, by simp [h.2.2]⟩
theorem St.k3 {N : Int} (h : St R W0 W s mb (s10 N c vg' sn vs) c sn sh gv sw st vi m il vg q gl vs ss) : W.cell? ⟨mb, 3, none⟩ = some vg' := (lp_box h.1).k.k3
end
/-- A new block's one cell. -/
theorem newcell {w : World} {x : Value} {t : TypeId} {g : Nat} (h : g = w.heap.size) : (w.alloc (.cells #[x] t)).cell? ⟨g, 0, none⟩ = some x := by
  subst h
  exact (obj_cell (obj_new _ _) 0).trans rfl
theorem newcell2 {w : World} {x : Value} {t : TypeId} {g : Nat} {o : Obj} (h : g = w.heap.size) : ((w.alloc (.cells #[x] t)).alloc o).cell? ⟨g, 0, none⟩ = some x :=
  keepc (balloc (Below.refl _ _) o) (newcell h)
theorem news1 {w : World} {g : Nat} {x : Value} (h : w.cell? ⟨g, 0, none⟩ = some x) : ∀ j u, [x][j]? = some u → w.cell? ((⟨g, 0, none⟩ : Addr).add j) = some u := by
  intro j u hj
  have : j = 0 := by
    rcases Nat.eq_zero_or_pos j with e | e
    · exact e
    · rw [List.getElem?_eq_none (by simp; omega)] at hj
      cases hj
  subst this
  simp at hj
  subst hj
  simpa [Addr.add] using h
end Go.Proofs.Ytjadapjjilegnaa
