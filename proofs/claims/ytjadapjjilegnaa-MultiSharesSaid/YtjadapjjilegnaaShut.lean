/-
  How a law's row is closed where the call leaves all that was there as it was, whatever its arguments reach; and a list of things to be done, as its cells. No condition but those that each names.
  How a list of things to be done lies in memory where it is read as data: 3 numbers each. Condition: it is read as data.
-/
import Derived.Test.YtjadapjjilegnaaPost
import Derived.Deep.Slices
import Derived.Deep.Fields
import Derived.ChangeSame
import Derived.Carry
namespace Go.Proofs.Ytjadapjjilegnaa
open Go.RowKit Go.ChangeShapes Go.WideShapes Go.Deep

theorem addr_add (b o j : Nat) : (⟨b, o, none⟩ : Addr).add j = ⟨b, o + j, none⟩ := by unfold Addr.add; split <;> simp_all

/-- A slice of n things, F numbers each, as its cells. -/
def OpsAt (w : World) (v : Value) (n F : Nat) (fld : Nat → Nat → Int) : Prop :=
  ∃ p cap, v = .slice p n cap ∧ n ≤ maxLen ∧ (n = 0 ∨ ∃ b off, p = some ⟨b, off, none⟩ ∧ ∀ j, j < n → ∀ f, f < F → w.cell? ⟨b, off + j * F + f, none⟩ = some (.int .i64 (fld j f)) ∧ -9223372036854775808 ≤ fld j f ∧ fld j f ≤ 9223372036854775807)

/-- A call that only makes new memory leaves what was read as it was read. -/
theorem shut_same {H : Type} {enc : TypeId × Value → H} {P : Program} {f : Func} {s : ChangeSpec} {apart fresh handsOn : Bool} {W W' : World} {args : Array Value} {v : Value} {ds gs : List (DataW H)} {before : List MemPlace}
    (hb : Below W.heap.size W W') (hW : DataW.Whole enc P f.params.toList s.vars apart W args.toList ds gs before)
    (hres : ∀ (b : Nat) (sp : Nat → Bool) (hd : Bool), DataW.TrodAll enc P W' b sp hd f.resultTypes.toList (v.resultList f.resultTypes.size) (s.fn H (ds ++ gs)).results [])
    (hargs : DataW.TrodAll enc P W' 0 (fun b => decide (b < W.heap.size)) true f.params.toList args.toList (s.fn H (ds ++ gs)).args before)
    (hvars : DataW.TrodVars enc P W' (fun b => decide (b < W.heap.size)) s.vars (s.fn H (ds ++ gs)).vars []) :
    s.post enc P f apart fresh handsOn false W args v W' :=
  ⟨ds, gs, before, [], before, [], hW, hres _ _ _, hargs, hvars, World.keptBut_mono (fun p hp => ⟨hp, Or.inr (Or.inl hp)⟩) (hb.frame (· ∈ before)), fun h => absurd h (by decide)⟩
end Go.Proofs.Ytjadapjjilegnaa
namespace Go.Proofs.Ytjadapjjilegnaa
open Go.RowKit Go.ChangeShapes Go.WideShapes Go.Deep

theorem some_of3 {α : Type} : ∀ {l : List α}, l.length = 3 → ∃ a0 a1 a2, l = [a0, a1, a2]
  | [a0, a1, a2], _ => ⟨a0, a1, a2, rfl⟩
theorem six_of3 {P : Nat → Prop} (h0 : P 0) (h1 : P 1) (h2 : P 2) : ∀ f, f < 3 → P f := by
  intro f hf
  match f, hf with
  | 0, _ => exact h0
  | 1, _ => exact h1
  | 2, _ => exact h2
section
variable {H : Type} {enc : TypeId × Value → H} {w : World} {base : Nat} {spare : Nat → Bool} {held : Bool}
theorem open_ops {fuel : Nat} {v : Value} {x : DataW H × List MemPlace} (h : DataW.trod enc Try.prog w base spare held fuel 158 [v] = some x) :
    ∃ (n : Nat) (fld : Nat → Nat → Int), OpsAt w v n 3 fld := by
  rcases open_slice Try.underlying158 h with ⟨h0, _⟩ | ⟨a, len, cap, m, n, D, Pl, hcs, _, hl, hm, hmm, _, hi⟩
  · simp at h0; subst h0
    exact ⟨0, fun _ _ => 0, none, 0, rfl, Nat.zero_le _, Or.inl rfl⟩
  · simp at hcs; subst hcs
    have hlm : len ≤ m := by rw [hmm]; split <;> omega
    have hC : Try.prog.cellsOf 162 = 3 := by kernel_rfl
    have each : ∀ i, i < len → ∃ y : Nat → Int, ∀ f, f < 3 → w.cell? (a.add (i * 3 + f)) = some (.int .i64 (y f)) ∧ (Lit.int .i64 (y f)).wf = true := by
      intro i hlt
      obtain ⟨cs', hc, ht⟩ := hi i (by omega)
      rw [hC] at hc
      obtain ⟨ys, n', hn', hy, hlen, hyl, hf⟩ := DataW.trod_struct Try.underlying162 ht
      obtain ⟨_, _, hat⟩ := World.cells?_some hc
      rw [hC] at hlen
      have hy2 : ys.length = 3 := hyl
      obtain ⟨c0, c1, c2, rfl⟩ := some_of3 hlen
      obtain ⟨y0, y1, y2, rfl⟩ := some_of3 hy2
      have f0 := hf 0 _ rfl
      have f1 := hf 1 _ rfl
      have f2 := hf 2 _ rfl
      simp only [List.getElem_toArray, List.getElem_cons_zero, List.getElem_cons_succ] at f0 f1 f2
      rw [show Try.prog.cellsOf 3 = 1 by kernel_rfl] at f0
      rw [show Try.prog.cellsOf 3 = 1 by kernel_rfl] at f1
      rw [show Try.prog.cellsOf 3 = 1 by kernel_rfl] at f2
      simp only [List.drop_zero, List.drop_succ_cons, List.take_succ_cons, List.take_zero, List.getElem?_cons_zero, List.getElem?_cons_succ] at f0 f1 f2
      obtain ⟨q0, hq0, _, hwf0⟩ := DataW.trod_int Try.underlying3 f0
      obtain ⟨q1, hq1, _, hwf1⟩ := DataW.trod_int Try.underlying3 f1
      obtain ⟨q2, hq2, _, hwf2⟩ := DataW.trod_int Try.underlying3 f2
      have a0 := hat 0 (by decide)
      have a1 := hat 1 (by decide)
      have a2 := hat 2 (by decide)
      simp at hq0 a0 hq1 a1 hq2 a2
      subst hq0
      subst hq1
      subst hq2
      rw [add_add] at a0 a1 a2
      refine ⟨fun f => [q0, q1, q2].getD f 0, six_of3 ⟨a0, hwf0⟩ ⟨a1, hwf1⟩ ⟨a2, hwf2⟩⟩
    have each2 : ∃ g : Nat → Nat → Int, ∀ i, i < len → ∀ f, f < 3 → w.cell? (a.add (i * 3 + f)) = some (.int .i64 (g i f)) ∧ (Lit.int .i64 (g i f)).wf = true := by
      refine ⟨fun i => if h : i < len then (each i h).choose else fun _ => 0, fun i hi => ?_⟩
      simp only [dif_pos hi]
      exact (each i hi).choose_spec
    obtain ⟨g, hg⟩ := each2
    refine ⟨len, g, _, cap, rfl, by omega, ?_⟩
    rcases Nat.eq_zero_or_pos len with rfl | hpos
    · exact Or.inl rfl
    · obtain ⟨b, off, spot⟩ := a
      have hspot : spot = none := by simpa [Addr.add] using World.cell?_spot (hg 0 hpos 0 (by decide)).1
      subst hspot
      refine Or.inr ⟨b, off, rfl, fun j hj f hf => ?_⟩
      obtain ⟨h1, h2⟩ := hg j hj f hf
      rw [addr_add] at h1
      exact ⟨by rw [Nat.add_assoc]; exact h1, i64_wf h2⟩
end
end Go.Proofs.Ytjadapjjilegnaa
