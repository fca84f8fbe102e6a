/-
  AvailPlays: what holds of the arena's cells and of the row of what was shown. No condition but those that each names.
-/
import Derived.Test.YtjadapjjilegnaaAv5
import Derived.Test.YtjadapjjilegnaaLst
import Derived.Test.YtjadapjjilegnaaRd0
namespace Go.Proofs.Ytjadapjjilegnaa
open Go.RowKit

/-- What a slot's cell has. -/
def cellOf (n : Int) : Option Int → Int
  | some t => t / n
  | none => -1
/-- Each slot's cell has the round of the last index that was shown there; what lies ahead is as it was. -/
def APr (f k : Nat) (ss xs : List Int) : Prop :=
  (∀ (s : Int) (i : Nat), s % two k = i → xs[f + i]? = some (cellOf (two k) (lastS ss (two k) s))) ∧ (∀ i, i < f → xs[i]? = some (-5)) ∧ (f : Int) + two k ≤ (xs.length : Int)
theorem APr.start (f k n : Nat) (hn : (n : Int) = two k) : APr f k [] (List.replicate f (-5) ++ List.replicate n (-1)) := by
  refine ⟨fun s i hi => ?_, fun i hi => ?_, by simp; omega⟩
  · have h0 := two_pos k
    have h2 := Int.emod_lt_of_pos s h0
    rw [List.getElem?_append_right (by simp), List.getElem?_replicate, if_pos (by simp; omega)]
    rfl
  · rw [List.getElem?_append_left (by simpa using hi), List.getElem?_replicate, if_pos hi]
theorem APr.show {f k : Nat} {ss xs : List Int} (h : APr f k ss xs) (s : Int) : APr f k (ss ++ [s]) (xs.set (f + (s % two k).toNat) (s / two k)) := by
  obtain ⟨h1, h2, h3⟩ := h
  obtain ⟨i, hi, hil⟩ := mod_nat k s
  rw [hi]
  simp only [Int.toNat_natCast]
  refine ⟨fun t j hj => ?_, fun j hj => ?_, by rw [List.length_set]; exact h3⟩
  · rw [lastS_snoc]
    by_cases e : i = j
    · subst e
      rw [if_pos (by omega), List.getElem?_set_self (by omega)]
      rfl
    · rw [if_neg (by omega), List.getElem?_set_ne (by omega)]
      exact h1 t j hj
  · rw [List.getElem?_set_ne (by omega)]
    exact h2 j hj
/-- So many indexes one behind the other. -/
def spanS (lo : Int) (m : Nat) : List Int := (List.range m).map fun (i : Nat) => lo + (i : Int)
theorem spanS_succ (lo : Int) (m : Nat) : spanS lo (m + 1) = spanS lo m ++ [lo + m] := by
  unfold spanS
  rw [List.range_succ, List.map_append, List.map_singleton]
theorem spanS_len (lo : Int) (m : Nat) : (spanS lo m).length = m := by simp [spanS]
theorem spanS_in (lo : Int) (m : Nat) (h0 : 0 ≤ lo) (h1 : lo + m ≤ 4611686018427387905) : ∀ s ∈ spanS lo m, 0 ≤ s ∧ s ≤ 4611686018427387904 := by
  intro s hs
  unfold spanS at hs
  rw [List.mem_map] at hs
  obtain ⟨i, hi, rfl⟩ := hs
  rw [List.mem_range] at hi
  omega
theorem APr.span {f k : Nat} {ss xs : List Int} (h : APr f k ss xs) (lo : Int) (m : Nat) : APr f k (ss ++ spanS lo m) (showN xs f k lo m) := by
  induction m with
  | zero => simpa [spanS, showN] using h
  | succ m ih =>
    have := ih.show (lo + m)
    rw [List.append_assoc, ← spanS_succ] at this
    exact this
theorem lastS_mod {ss : List Int} {n seq t : Int} (h : lastS ss n seq = some t) : t % n = seq % n ∧ t ∈ ss := by
  unfold lastS at h
  refine ⟨by simpa using List.find?_some h, ?_⟩
  have := List.mem_of_find?_eq_some h
  simpa using this
theorem shown_eq {f k : Nat} {ss xs : List Int} (h : APr f k ss xs) (s : Int) (h0 : 0 ≤ s) : shownB xs f k s = isL ss (two k) s := by
  have hk := two_pos k
  obtain ⟨i, hi, _⟩ := mod_nat k s
  rw [shownB_at hi (h.1 s i hi)]
  unfold isL
  cases hl : lastS ss (two k) s with
  | none =>
    have := Int.ediv_nonneg h0 (show 0 ≤ two k by omega)
    simp only [cellOf]
    rw [beq_eq_false_iff_ne.2 (by omega)]
    rfl
  | some t =>
    obtain ⟨hm, _⟩ := lastS_mod hl
    simp only [cellOf]
    rw [Bool.eq_iff_iff]
    simp only [beq_iff_eq, Option.some.injEq]
    constructor
    · intro e
      have e1 := Int.emod_add_mul_ediv t (two k)
      have e2 := Int.emod_add_mul_ediv s (two k)
      rw [hm, e] at e1
      omega
    · intro e; rw [e]
/-- A new cell leaves what else there is. -/
theorem alloc_mb (x : Int) (W0 W : World) (b : Nat) (xs : List Int) (st : Int) (h : Mine W0 W b xs st) (hl : (xs.length : Int) < 2097152) {sb : Nat} {cs : Array Value} {T : TypeId} {m : Nat × Nat} (hb : W.heap[sb]? = some (.cells cs T m)) (n1 : T ≠ 194) (n2 : 2 ≠ T) :
    Calls Try.prog 78 #[.pointer (some ⟨b, 0, none⟩), .int .i64 x] W fun e w' => e = .returned (.tuple #[.int .i64 xs.length, .nilIface]) ∧ Mine W0 w' b (xs ++ [x]) st ∧ w'.heap[sb]? = some (.cells cs T m) := by
  obtain ⟨v, ha, hb0, h1, h2⟩ := h
  refine (alloc_some x W b v xs st ha hl).mono fun _ _ ⟨he, hs⟩ => ⟨he, Mine.step ha hb0 h1 h2 hs, ?_⟩
  obtain ⟨v', _, hf, _⟩ := hs
  refine hf.obj hb ?_
  rintro (e | e)
  · exact obj_ne hb ha.1 n1 e
  · exact row_ne ha.2 hb n2 e
/-- How many cells there are. -/
theorem len_is {R : Rest} {W0 W : World} {b q f k : Nat} {xs : List Int} {st l : Int} (h : Av R W0 W b q f k xs st) (hl : (xs.length : Int) = l) :
    Calls Try.prog 29 #[.pointer (some ⟨b, 0, none⟩)] W fun e w' => e = .returned (.int .i64 l) ∧ W = w' := by
  subst hl; exact len_v h
end Go.Proofs.Ytjadapjjilegnaa
