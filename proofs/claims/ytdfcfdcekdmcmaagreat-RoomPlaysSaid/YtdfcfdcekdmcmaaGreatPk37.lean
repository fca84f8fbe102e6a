/-
  A step of a claim of package multi, whatever is next, wherever in the arena the sequencer's cells are; by contract. Conditions: the numbers are modest; fewer than 2^62 steps.
  A claim of package multi under way while nobody else claims, wherever its cells lie, in plain numbers: each of its steps, and how it ends. No condition but those that each theorem names.
  How a law's row is closed where the call leaves all that was there as it was, and only makes new memory. No condition but those that it names.
  AvailRounds' walk. No condition but that its arguments are of their kinds.
  A ring of a room as a law sees it that claims and publishes in order, whatever the ring's kind: what its calls do. No condition: a structure of facts.
  A ring from which one claims, whom nobody holds back, or one who stands at -1, as a law sees it that claims and publishes in order. No condition but those that each theorem names.
  A ring from which many claim, whom nobody holds back, or one who stands at -1, as a law sees it that claims and publishes in order. No condition but those that each theorem names.
  How a law's row is closed where the call leaves all that was there as it was, whatever its arguments reach; and a list of things to be done, as its cells. No condition but those that each names.
  How a list of things to be done lies in memory where it is read as data: 3 numbers each. Condition: it is read as data.
  How a list of things to be done lies in memory where it is read as data: 5 numbers each. Condition: it is read as data.
-/
import Derived.Test.YtdfcfdcekdmcmaaGreatPk07
import Derived.Test.YtdfcfdcekdmcmaaGreatPk15
import Derived.Test.YtdfcfdcekdmcmaaGreatPk25
import Derived.Test.YtdfcfdcekdmcmaaGreatChecked
import Derived.WalkKit
import Derived.ProofKit
import Derived.OpenShut
import Derived.Below
import Derived.ChangeSame
import Derived.Deep.DeepCutAuto
import Derived.Deep.CutBlock
import Derived.Deep.Slices
import Derived.Deep.Fields
import Derived.Carry
set_option linter.unusedVariables false
set_option linter.unusedSimpArgs false
set_option linter.unusedSimpArgs false
namespace Go.Proofs.YtdfcfdcekdmcmaaGreat
open Go.RowKit
def stepG (cur cch : Nat) (N : Int) (ids xs : List Int) (sw : Int) (t : Tr) : List Int × Int × Tr :=
  if t.stg = 1 then (xs, sw, { t with had := xs.getD cur 0, last := xs.getD cur 0 + t.n, stg := 2 })
  else if t.stg = 2 then
    if xs.getD cch 0 ≤ t.had ∧ t.last - N ≤ xs.getD cch 0 then (xs, sw, { t with stg := 5 }) else (xs, sw, judgeT N { t with ids := ids, seen := 0, least := t.had })
  else if t.stg = 3 then (xs, sw, judgeT N { t with seen := t.seen + 1, least := min t.least (xs.getD (t.ids.getD t.seen 0).toNat 0) })
  else if t.stg = 4 then (xs.set cch t.least, sw, { t with stg := 5 })
  else if t.stg = 5 then
    if xs.getD cur 0 = t.had then (xs.set cur t.last, t.last, { t with stg := 6 }) else (xs, sw, tr0 t.n)
  else (xs, sw, t)
structure TOkG (cur cch : Nat) (xs : List Int) (t : Tr) : Prop where
  n1 : 1 ≤ t.n
  n2 : t.n ≤ 1048576
  s1 : 1 ≤ t.stg
  s7 : t.stg ≤ 7
  c1 : -1 ≤ xs.getD cur 0
  c2 : xs.getD cur 0 ≤ 4611686018427387904 - t.n
  l1 : -4611686018427387905 ≤ t.last
  l2 : t.last ≤ 4611686018427387904
  lu : cur < xs.length
  lc : cch < xs.length
  sc : t.stg = 3 → t.ids.length ≤ 32 ∧ t.seen < t.ids.length ∧ 0 ≤ t.ids.getD t.seen 0 ∧ t.ids.getD t.seen 0 < xs.length
theorem tstep_gen {ts : Array Value} {R : Rest} {W0 W : World} {s : Sh} {ids xs : List Int} {sw st : Int} {t : Tr} (h : TyF ts s.p t) (hm : Ms R W0 W s ids sw xs st) (hk : TOkG s.cur s.cch xs t) (h0 : 0 ≤ st) (h1 : st < 4611686018427387904) :
    Calls Tryz.prog 85 #[.agg ts] W fun e w' => ∃ st', st ≤ st' ∧ st' ≤ st + 1 ∧ Did R W0 s ids (stepG s.cur s.cch (two s.k) ids xs sw t).1 (stepG s.cur s.cch (two s.k) ids xs sw t).2.1 st' (stepG s.cur s.cch (two s.k) ids xs sw t).2.2 e w' := by
  have x0 := getD_some (xs := xs) (i := s.cur) hk.lu
  have x1 := getD_some (xs := xs) (i := s.cch) hk.lc
  have go : ∀ {xs' : List Int} {sw' st' : Int} {t' : Tr}, stepG s.cur s.cch (two s.k) ids xs sw t = (xs', sw', t') → st ≤ st' → st' ≤ st + 1 →
      Calls Tryz.prog 85 #[.agg ts] W (Did R W0 s ids xs' sw' st' t') → Calls Tryz.prog 85 #[.agg ts] W fun e w' => ∃ st', st ≤ st' ∧ st' ≤ st + 1 ∧ Did R W0 s ids (stepG s.cur s.cch (two s.k) ids xs sw t).1 (stepG s.cur s.cch (two s.k) ids xs sw t).2.1 st' (stepG s.cur s.cch (two s.k) ids xs sw t).2.2 e w' := by
    intro xs' sw' st' t' he h1 h2 hc
    rw [he]
    exact hc.mono fun e w' hd => ⟨st', h1, h2, hd⟩
  have hs := hk.s1
  have hs7 := hk.s7
  by_cases e1 : t.stg = 1
  · refine go (st' := st + 1) (by unfold stepG; rw [if_pos e1]) (by omega) (by omega) (tstep_of h hm fun R W hm => tnext_1 h e1 hm fun R W hm => ?_)
    exact tbegin h hm x0 hk.n1 hk.n2 hk.c1 hk.c2 h0 h1
  by_cases e2 : t.stg = 2
  · by_cases hy : xs.getD s.cch 0 ≤ t.had
    · by_cases he : t.last - two s.k ≤ xs.getD s.cch 0
      · refine go (st' := st + 1) (by unfold stepG; rw [if_neg e1, if_pos e2, if_pos ⟨hy, he⟩]) (by omega) (by omega) (tstep_of h hm fun R W hm => tnext_2 h e2 hm fun R W hm => ?_)
        exact trecall_yes h hm x1 hk.l1 hk.l2 h0 h1 hy he
      · refine go (st' := st + 1) (by unfold stepG; rw [if_neg e1, if_pos e2, if_neg (fun e => he e.2)]) (by omega) (by omega) (tstep_of h hm fun R W hm => tnext_2 h e2 hm fun R W hm => ?_)
        exact trecall_few h hm x1 hk.l1 hk.l2 h0 h1 hy (by omega)
    · refine go (st' := st + 1) (by unfold stepG; rw [if_neg e1, if_pos e2, if_neg (fun e => hy e.1)]) (by omega) (by omega) (tstep_of h hm fun R W hm => tnext_2 h e2 hm fun R W hm => ?_)
      exact trecall_far h hm x1 hk.l1 hk.l2 h0 h1 (by omega)
  by_cases e3 : t.stg = 3
  · obtain ⟨q1, q2, q3, q4⟩ := hk.sc e3
    refine go (st' := st + 1) (by unfold stepG; rw [if_neg e1, if_neg e2, if_pos e3]) (by omega) (by omega) (tstep_of h hm fun R W hm => tnext_3 h e3 hm fun R W hm => ?_)
    exact tlook (z := (t.ids.getD t.seen 0).toNat) h hm q1 q2 (by omega) (getD_some (by omega)) hk.l1 hk.l2 h0 h1
  by_cases e4 : t.stg = 4
  · refine go (st' := st + 1) (by unfold stepG; rw [if_neg e1, if_neg e2, if_neg e3, if_pos e4]) (by omega) (by omega) (tstep_of h hm fun R W hm => tnext_4 h e4 hm fun R W hm => ?_)
    exact tremember h hm hk.lc h0 h1
  by_cases e5 : t.stg = 5
  · by_cases hx : xs.getD s.cur 0 = t.had
    · refine go (st' := st + 1) (by unfold stepG; rw [if_neg e1, if_neg e2, if_neg e3, if_neg e4, if_pos e5, if_pos hx]) (by omega) (by omega) (tstep_of h hm fun R W hm => tnext_5 h e5 hm fun R W hm => ?_)
      exact tswap_yes h hm (by rw [x0, hx]) h0 h1
    · refine go (st' := st + 1) (by unfold stepG; rw [if_neg e1, if_neg e2, if_neg e3, if_neg e4, if_pos e5, if_neg hx]) (by omega) (by omega) (tstep_of h hm fun R W hm => tnext_5 h e5 hm fun R W hm => ?_)
      exact tswap_no h hm x0 (by simpa using hx) h0 h1
  · refine go (st' := st) (by unfold stepG; rw [if_neg e1, if_neg e2, if_neg e3, if_neg e4, if_neg e5]) (by omega) (by omega) (tstep_of h hm fun R W hm => tnext_done h (by omega) hm)
end Go.Proofs.YtdfcfdcekdmcmaaGreat
namespace Go.Proofs.YtdfcfdcekdmcmaaGreat
open Go.RowKit
set_option linter.unusedVariables false
section
variable {N c sn n sw0 sw : Int} {u h : Nat} {X ids xs : List Int} {t : Tr}
end
end Go.Proofs.YtdfcfdcekdmcmaaGreat
namespace Go.Proofs.YtdfcfdcekdmcmaaGreat
open Go.RowKit Go.WideShapes Go.ChangeShapes
theorem u8_wf {a : Int} (h : (Lit.int .u8 a).wf = true) : 0 ≤ a ∧ a ≤ 255 := by
  simp [Lit.wf, IntKind.min, IntKind.max, IntKind.bits, IntKind.signed] at h
  omega
theorem i64_wf {a : Int} (h : (Lit.int .i64 a).wf = true) : -9223372036854775808 ≤ a ∧ a ≤ 9223372036854775807 := by
  simp [Lit.wf, IntKind.min, IntKind.max, IntKind.bits, IntKind.signed] at h
  omega
end Go.Proofs.YtdfcfdcekdmcmaaGreat
namespace Go.Proofs.YtdfcfdcekdmcmaaGreat
open Go.RowKit
end Go.Proofs.YtdfcfdcekdmcmaaGreat
set_option linter.unusedSimpArgs false
namespace Go.Proofs.YtdfcfdcekdmcmaaGreat
open Go.RowKit
set_option linter.unusedVariables false
end Go.Proofs.YtdfcfdcekdmcmaaGreat
namespace Go.Proofs.YtdfcfdcekdmcmaaGreat
open Go.RowKit
set_option linter.unusedVariables false
section
variable (W0 : World) (f : Rest → Rest) (J : List Int → Prop) (E : Int) (q : Option Nat) (p a k u : Nat)
end
theorem bx_ex {W0 : World} {ι : Type} {P : ι → Rest → World → Prop} (hB : ∀ i, Bx W0 (P i)) : Bx W0 fun R w => ∃ i, P i R w where
  keep h hb := h.elim fun i h => ⟨i, (hB i).keep h hb⟩
  inv h := h.elim fun i h => (hB i).inv h
  new bx V h := h.elim fun i h => ⟨i, (hB i).new bx V h⟩
  turn hU h hf hb := h.elim fun i h => ⟨i, (hB i).turn hU h hf hb⟩
  le h hp hi := h.elim fun i h => ⟨i, (hB i).le h hp hi⟩
theorem bx_and {W0 : World} {Pd : Rest → World → Prop} (C : Prop) (hB : Bx W0 Pd) : Bx W0 fun R w => C ∧ Pd R w where
  keep h hb := ⟨h.1, hB.keep h.2 hb⟩
  inv h := hB.inv h.2
  new bx V h := ⟨h.1, hB.new bx V h.2⟩
  turn hU h hf hb := ⟨h.1, hB.turn hU h.2 hf hb⟩
  le h hp hi := ⟨h.1, hB.le h.2 hp hi⟩
section
variable {W0 : World} {f : Rest → Rest} {J : List Int → Prop} {E : Int} {q : Option Nat} {p a k u r i0 g : Nat} {sl uu : Value}
theorem tyz_size : tyz.size = 40 := tyz_f.size
end
end Go.Proofs.YtdfcfdcekdmcmaaGreat
namespace Go.Proofs.YtdfcfdcekdmcmaaGreat
open Go.RowKit
set_option linter.unusedVariables false
section
variable {X ids : List Int} {f k h : Nat} {x y s b lo : Int}
end
section
variable (W0 : World) (f : Rest → Rest) (J : List Int → Prop) (E : Int) (q : Option Nat) (s : Sh)
end
section
variable {W0 : World} {f : Rest → Rest} {J : List Int → Prop} {E : Int} {q : Option Nat} {s : Sh} {r i0 g : Nat} {sl o uu : Value}
theorem manyg_publish {R : Rest} {W : World} {ids X : List Int} {sw st c : Int} (sl o u : Value) (h : Ms R W0 W s ids sw X st) (hx : X[s.cur]? = some c) (hsw : sw ≤ c) (hl : (X.length : Int) ≤ 2097152) (hfl : s.f + two s.k ≤ (X.length : Int)) (at' hi : Int) (h1 : 0 ≤ at') (h2 : at' ≤ c) (hc2 : c ≤ 4611686018427387904) (h0 : 0 ≤ st) (hs : st < 1152921504606846976) :
    Calls Tryz.prog 91 #[.agg #[sl, o, .pointer (some ⟨s.p, 0, none⟩), u], .int .i64 at', .int .i64 hi] W fun e w' => e = .returned (.tuple #[.int .i64 at', .nilIface]) ∧ Ms R W0 w' s ids sw (showN X s.f s.k at' 1) (st + 1) := by
  have HP : Hid (∀ w, Ms R W0 w s ids sw X st → Calls Tryz.prog 132 #[.pointer (some ⟨s.p, 0, none⟩), .int .i64 at', .int .i64 at'] w fun e w' => e = .returned .nilIface ∧ Ms R W0 w' s ids sw (showN X s.f s.k at' 1) (st + 1)) := Lib.hid fun w hw => by
    have := mpub_ok hw hx hsw hl at' at' h1 (Int.le_refl _) (by have := two_pos s.k; omega) h2 hc2 1 (by omega) hfl h0 hs
    simpa using this
  have HH := Lib.hid h
  clear h hfl hl hx
  go_enter Tryz.func91, Tryz.ntmps91
  go_wp2_with (go_at_call 132; refine (HP.out _ (HH.out.keep (balloc (Below.refl _ _) _))).mono ?_; rintro e w1 ⟨rfl, hg⟩; have HG := Lib.hid hg; clear hg)
  go_ret2
  exact ⟨rfl, HG.out⟩
end
end Go.Proofs.YtdfcfdcekdmcmaaGreat
namespace Go.Proofs.YtdfcfdcekdmcmaaGreat
open Go.RowKit Go.ChangeShapes Go.WideShapes Go.Deep
theorem addr_add (b o j : Nat) : (⟨b, o, none⟩ : Addr).add j = ⟨b, o + j, none⟩ := by unfold Addr.add; split <;> simp_all
def OpsAt (w : World) (v : Value) (n F : Nat) (fld : Nat → Nat → Int) : Prop :=
  ∃ p cap, v = .slice p n cap ∧ n ≤ maxLen ∧ (n = 0 ∨ ∃ b off, p = some ⟨b, off, none⟩ ∧ ∀ j, j < n → ∀ f, f < F → w.cell? ⟨b, off + j * F + f, none⟩ = some (.int .i64 (fld j f)) ∧ -9223372036854775808 ≤ fld j f ∧ fld j f ≤ 9223372036854775807)
theorem shut_same {H : Type} {enc : TypeId × Value → H} {P : Program} {f : Func} {s : ChangeSpec} {apart fresh handsOn : Bool} {W W' : World} {args : Array Value} {v : Value} {ds gs : List (DataW H)} {before : List MemPlace}
    (hb : Below W.heap.size W W') (hW : DataW.Whole enc P f.params.toList s.vars apart W args.toList ds gs before)
    (hres : ∀ (b : Nat) (sp : Nat → Bool) (hd : Bool), DataW.TrodAll enc P W' b sp hd f.resultTypes.toList (v.resultList f.resultTypes.size) (s.fn H (ds ++ gs)).results [])
    (hargs : DataW.TrodAll enc P W' 0 (fun b => decide (b < W.heap.size)) true f.params.toList args.toList (s.fn H (ds ++ gs)).args before)
    (hvars : DataW.TrodVars enc P W' (fun b => decide (b < W.heap.size)) s.vars (s.fn H (ds ++ gs)).vars []) :
    s.post enc P f apart fresh handsOn false W args v W' :=
  ⟨ds, gs, before, [], before, [], hW, hres _ _ _, hargs, hvars, World.keptBut_mono (fun p hp => ⟨hp, Or.inr (Or.inl hp)⟩) (hb.frame (· ∈ before)), fun h => absurd h (by decide)⟩
end Go.Proofs.YtdfcfdcekdmcmaaGreat
namespace Go.Proofs.YtdfcfdcekdmcmaaGreat
open Go.RowKit Go.ChangeShapes Go.WideShapes Go.Deep
end Go.Proofs.YtdfcfdcekdmcmaaGreat
namespace Go.Proofs.YtdfcfdcekdmcmaaGreat
open Go.RowKit Go.ChangeShapes Go.WideShapes Go.Deep
theorem some_of5 {α : Type} : ∀ {l : List α}, l.length = 5 → ∃ a0 a1 a2 a3 a4, l = [a0, a1, a2, a3, a4]
  | [a0, a1, a2, a3, a4], _ => ⟨a0, a1, a2, a3, a4, rfl⟩
theorem six_of5 {P : Nat → Prop} (h0 : P 0) (h1 : P 1) (h2 : P 2) (h3 : P 3) (h4 : P 4) : ∀ f, f < 5 → P f := by
  intro f hf
  match f, hf with
  | 0, _ => exact h0
  | 1, _ => exact h1
  | 2, _ => exact h2
  | 3, _ => exact h3
  | 4, _ => exact h4
section
variable {H : Type} {enc : TypeId × Value → H} {w : World} {base : Nat} {spare : Nat → Bool} {held : Bool}
theorem open_ops {fuel : Nat} {v : Value} {x : DataW H × List MemPlace} (h : DataW.trod enc Tryz.prog w base spare held fuel 22 [v] = some x) :
    ∃ (n : Nat) (fld : Nat → Nat → Int), OpsAt w v n 5 fld := by
  rcases open_slice Tryz.underlying22 h with ⟨h0, _⟩ | ⟨a, len, cap, m, n, D, Pl, hcs, _, hl, hm, hmm, _, hi⟩
  · simp at h0; subst h0
    exact ⟨0, fun _ _ => 0, none, 0, rfl, Nat.zero_le _, Or.inl rfl⟩
  · simp at hcs; subst hcs
    have hlm : len ≤ m := by rw [hmm]; split <;> omega
    have hC : Tryz.prog.cellsOf 30 = 5 := by kernel_rfl
    have each : ∀ i, i < len → ∃ y : Nat → Int, ∀ f, f < 5 → w.cell? (a.add (i * 5 + f)) = some (.int .i64 (y f)) ∧ (Lit.int .i64 (y f)).wf = true := by
      intro i hlt
      obtain ⟨cs', hc, ht⟩ := hi i (by omega)
      rw [hC] at hc
      obtain ⟨ys, n', hn', hy, hlen, hyl, hf⟩ := DataW.trod_struct Tryz.underlying30 ht
      obtain ⟨_, _, hat⟩ := World.cells?_some hc
      rw [hC] at hlen
      have hy2 : ys.length = 5 := hyl
      obtain ⟨c0, c1, c2, c3, c4, rfl⟩ := some_of5 hlen
      obtain ⟨y0, y1, y2, y3, y4, rfl⟩ := some_of5 hy2
      have f0 := hf 0 _ rfl
      have f1 := hf 1 _ rfl
      have f2 := hf 2 _ rfl
      have f3 := hf 3 _ rfl
      have f4 := hf 4 _ rfl
      simp only [List.getElem_toArray, List.getElem_cons_zero, List.getElem_cons_succ] at f0 f1 f2 f3 f4
      rw [show Tryz.prog.cellsOf 3 = 1 by kernel_rfl] at f0
      rw [show Tryz.prog.cellsOf 3 = 1 by kernel_rfl] at f1
      rw [show Tryz.prog.cellsOf 3 = 1 by kernel_rfl] at f2
      rw [show Tryz.prog.cellsOf 2 = 1 by kernel_rfl] at f3
      rw [show Tryz.prog.cellsOf 2 = 1 by kernel_rfl] at f4
      simp only [List.drop_zero, List.drop_succ_cons, List.take_succ_cons, List.take_zero, List.getElem?_cons_zero, List.getElem?_cons_succ] at f0 f1 f2 f3 f4
      obtain ⟨q0, hq0, _, hwf0⟩ := DataW.trod_int Tryz.underlying3 f0
      obtain ⟨q1, hq1, _, hwf1⟩ := DataW.trod_int Tryz.underlying3 f1
      obtain ⟨q2, hq2, _, hwf2⟩ := DataW.trod_int Tryz.underlying3 f2
      obtain ⟨q3, hq3, _, hwf3⟩ := DataW.trod_int Tryz.underlying2 f3
      obtain ⟨q4, hq4, _, hwf4⟩ := DataW.trod_int Tryz.underlying2 f4
      have a0 := hat 0 (by decide)
      have a1 := hat 1 (by decide)
      have a2 := hat 2 (by decide)
      have a3 := hat 3 (by decide)
      have a4 := hat 4 (by decide)
      simp at hq0 a0 hq1 a1 hq2 a2 hq3 a3 hq4 a4
      subst hq0
      subst hq1
      subst hq2
      subst hq3
      subst hq4
      rw [add_add] at a0 a1 a2 a3 a4
      refine ⟨fun f => [q0, q1, q2, q3, q4].getD f 0, six_of5 ⟨a0, hwf0⟩ ⟨a1, hwf1⟩ ⟨a2, hwf2⟩ ⟨a3, hwf3⟩ ⟨a4, hwf4⟩⟩
    have each2 : ∃ g : Nat → Nat → Int, ∀ i, i < len → ∀ f, f < 5 → w.cell? (a.add (i * 5 + f)) = some (.int .i64 (g i f)) ∧ (Lit.int .i64 (g i f)).wf = true := by
      refine ⟨fun i => if h : i < len then (each i h).choose else fun _ => 0, fun i hi => ?_⟩
      simp only [dif_pos hi]
      exact (each i hi).choose_spec
    obtain ⟨g, hg⟩ := each2
    refine ⟨len, g, _, cap, rfl, by omega, ?_⟩
    rcases Nat.eq_zero_or_pos len with rfl | hpos
    · exact Or.inl rfl
    · obtain ⟨b, off, spot⟩ := a
      have hspot : spot = none := by simpa [Addr.add] using World.cell?_spot (hg 0 hpos 0 (by decide)).1
      subst hspot
      refine Or.inr ⟨b, off, rfl, fun j hj f hf => ?_⟩
      obtain ⟨h1, h2⟩ := hg j hj f hf
      rw [addr_add] at h1
      exact ⟨by rw [Nat.add_assoc]; exact h1, i64_wf h2⟩
end
end Go.Proofs.YtdfcfdcekdmcmaaGreat
