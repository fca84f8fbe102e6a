/-
  How a law's row is closed where the call leaves all that was there as it was, whatever its arguments reach; and a list of things to be done, as its cells. No condition but those that each names.
  How a list of things to be done lies in memory where it is read as data: 3 numbers each. Condition: it is read as data.
-/
import Derived.Test.YtnblkkmandlllaaPost
import Derived.Deep.Slices
import Derived.Deep.Fields
import Derived.ChangeSame
import Derived.Carry
namespace Go.Proofs.Ytnblkkmandlllaa
open Go.RowKit Go.ChangeShapes Go.WideShapes Go.Deep

theorem addr_add (b o j : Nat) : (⟨b, o, none⟩ : Addr).add j = ⟨b, o + j, none⟩ := by unfold Addr.add; split <;> simp_all

/-- A slice of n things, F numbers each, as its cells. -/
def OpsAt (w : World) (v : Value) (n F : Nat) (fld : Nat → Nat → Int) : Prop :=
  ∃ p cap, v = .slice p n cap ∧ n ≤ maxLen ∧ (n = 0 ∨ ∃ b off, p = some ⟨b, off, none⟩ ∧ ∀ j, j < n → ∀ f, f < F → w.cell? ⟨b, off + j * F + f, none⟩ = some (.int .i64 (fld j f)) ∧ -9223372036854775808 ≤ fld j f ∧ fld j f ≤ 9223372036854775807)

/-- A call that only makes new memory leaves what was read as it was read. -/
theorem shut_same {H : Type} {enc : TypeId × Value → H} {P : Program} {f : Func} {s : ChangeSpec} {apart fresh handsOn : Bool} {W W' : World} {args : Array Value} {v : Value} {ds gs : List (DataW H)} {before : List MemPlace}
    (hb : Below W.heap.size W W') (hW : DataW.Whole enc P f.params.toList s.vars apart W args.toList ds gs before)
    (hres : ∀ (b : Nat) (sp : Nat → Bool) (hd : Bool), DataW.TrodAll enc P W' b sp hd f.resultTypes.toList (v.resultList f.resultTypes.size) (s.fn H (ds ++ gs)).results [])
    (hargs : DataW.TrodAll enc P W' 0 (fun b => decide (b < W.heap.size)) true f.params.toList args.toList (s.fn H (ds ++ gs)).args before)
    (hvars : DataW.TrodVars enc P W' (fun b => decide (b < W.heap.size)) s.vars (s.fn H (ds ++ gs)).vars []) :
    s.post enc P f apart fresh handsOn false W args v W' :=
  ⟨ds, gs, before, [], before, [], hW, hres _ _ _, hargs, hvars, World.keptBut_mono (fun p hp => ⟨hp, Or.inr (Or.inl hp)⟩) (hb.frame (· ∈ before)), fun h => absurd h (by decide)⟩
end Go.Proofs.Ytnblkkmandlllaa
namespace Go.Proofs.Ytnblkkmandlllaa
open Go.RowKit Go.ChangeShapes Go.WideShapes Go.Deep

theorem some_of3 {α : Type} : ∀ {l : List α}, l.length = 3 → ∃ a0 a1 a2, l = [a0, a1, a2]
  | [a0, a1, a2], _ => ⟨a0, a1, a2, rfl⟩
theorem six_of3 {P : Nat → Prop} (h0 : P 0) (h1 : P 1) (h2 : P 2) : ∀ f, f < 3 → P f := by
  intro f hf
  match f, hf with
  | 0, _ => exact h0
  | 1, _ => exact h1
  | 2, _ => exact h2
end Go.Proofs.Ytnblkkmandlllaa
