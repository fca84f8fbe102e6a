/-
  Who is ahead of whom, by the table of all pairs, and how deep, by rounds over all: what the document reckons, in plain lists. No condition but those that each theorem names; nothing here speaks of a program.
-/
import Derived.Test.YtggjimeligbmcabGr6
namespace Go.Proofs.Ytggjimeligbmcab
set_option linter.unusedVariables false

/-- Ahead by nodes below k. -/
inductive Pk (G : List Nd) (k : Nat) : Nat → Nat → Prop
  | one {i a : Nat} : a ∈ aft G i → Pk G k i a
  | more {i a b : Nat} : a ∈ aft G i → a < k → Pk G k a b → Pk G k i b
theorem Pk.rch {G : List Nd} {k i j : Nat} (h : Pk G k i j) : Rch G i j := by
  induction h with
  | one ha => exact .one ha
  | more ha _ _ ih => exact .more ha ih
theorem Pk.split {G : List Nd} {k i j : Nat} (h : Pk G (k + 1) i j) : Pk G k i j ∨ (Pk G k i k ∧ Pk G k k j) := by
  induction h with
  | one ha => exact .inl (.one ha)
  | @more i a b ha hk _ ih =>
    rcases Nat.lt_or_ge a k with h | h
    · rcases ih with ih | ⟨h1, h2⟩
      · exact .inl (.more ha h ih)
      · exact .inr ⟨.more ha h h1, h2⟩
    · obtain rfl : a = k := by omega
      rcases ih with ih | ⟨_, h2⟩
      · exact .inr ⟨.one ha, ih⟩
      · exact .inr ⟨.one ha, h2⟩
theorem Pk.all {G : List Nd} (hG : GOk G) {i j : Nat} (h : Rch G i j) : Pk G G.length i j := by
  induction h with
  | one ha => exact .one ha
  | more ha _ ih => exact .more ha (hG.aft_lt ha) ih
theorem Pk.zero {G : List Nd} {i j : Nat} (h : Pk G 0 i j) : j ∈ aft G i := by
  cases h with
  | one ha => exact ha
  | more _ h _ => exact absurd h (Nat.not_lt_zero _)
/-- A table amid the loops: all pairs ahead of (i0, j0) in round k are done. -/
structure Tab (G : List Nd) (k i0 j0 : Nat) (t : Nat → Nat → Bool) : Prop where
  snd : ∀ i j, t i j = true → Rch G i j
  old : ∀ i j, Pk G k i j → t i j = true
  new : ∀ i j, i < i0 ∨ (i = i0 ∧ j < j0) → Pk G (k + 1) i j → t i j = true
def setT (t : Nat → Nat → Bool) (i j : Nat) : Nat → Nat → Bool := fun x y => if x = i ∧ y = j then true else t x y
theorem setT_mono {t : Nat → Nat → Bool} {i j x y : Nat} (h : t x y = true) : setT t i j x y = true := by
  unfold setT
  split <;> simp [h]
theorem Tab.start {G : List Nd} {t : Nat → Nat → Bool} (h : ∀ i j, t i j = true ↔ j ∈ aft G i) : Tab G 0 0 0 t :=
  ⟨fun i j e => .one ((h i j).1 e), fun i j e => (h i j).2 e.zero, fun i j e => by omega⟩
theorem Tab.set {G : List Nd} {k i0 j0 : Nat} {t : Nat → Nat → Bool} (h : Tab G k i0 j0 t) (h1 : t i0 k = true) (h2 : t k j0 = true) : Tab G k i0 (j0 + 1) (setT t i0 j0) := by
  refine ⟨fun i j e => ?_, fun i j e => setT_mono (h.old i j e), fun i j e p => ?_⟩
  · by_cases c : i = i0 ∧ j = j0
    · obtain ⟨rfl, rfl⟩ := c
      exact (h.snd _ _ h1).trans (h.snd _ _ h2)
    · exact h.snd i j (by simpa [setT, c] using e)
  · by_cases c : i = i0 ∧ j = j0
    · simp [setT, c]
    · exact setT_mono (h.new i j (by omega) p)
theorem Tab.skip {G : List Nd} {k i0 j0 : Nat} {t : Nat → Nat → Bool} (h : Tab G k i0 j0 t) (h1 : ¬ (t i0 k = true ∧ t k j0 = true)) : Tab G k i0 (j0 + 1) t := by
  refine ⟨h.snd, h.old, fun i j e p => ?_⟩
  by_cases c : i = i0 ∧ j = j0
  · obtain ⟨rfl, rfl⟩ := c
    rcases p.split with p | ⟨p1, p2⟩
    · exact h.old _ _ p
    · exact absurd ⟨h.old _ _ p1, h.old _ _ p2⟩ h1
  · exact h.new i j (by omega) p
theorem Tab.row {G : List Nd} {k i0 : Nat} {t : Nat → Nat → Bool} (hG : GOk G) (h : Tab G k i0 G.length t) : Tab G k (i0 + 1) 0 t :=
  ⟨h.snd, h.old, fun i j e p => h.new i j (by
    have : j < G.length := has_lt (hG.rch_has p.rch)
    omega) p⟩
theorem Tab.round {G : List Nd} {k : Nat} {t : Nat → Nat → Bool} (hG : GOk G) (h : Tab G k G.length 0 t) : Tab G (k + 1) 0 0 t :=
  ⟨h.snd, fun i j p => h.new i j (by
    have : i < G.length := by
      cases p with
      | one ha => exact hG.of_lt ha
      | more ha _ _ => exact hG.of_lt ha
    omega) p, fun i j e => by omega⟩
theorem Tab.done {G : List Nd} {t : Nat → Nat → Bool} (hG : GOk G) (h : Tab G G.length 0 0 t) (i j : Nat) : t i j = true ↔ Rch G i j :=
  ⟨h.snd i j, fun e => h.old i j (Pk.all hG e)⟩

/-! Rounds over all -/
/-- Amid the rounds: nothing is more than it is deep; after r rounds, and the nodes below n of one more, what is less deep than r (than r + 1) has its depth. -/
structure Rnd (G : List Nd) (d : Nat → Nat) (r n : Nat) (m : Nat → Nat) : Prop where
  le : ∀ x, m x ≤ d x
  old : ∀ x, d x < r → m x = d x
  new : ∀ x, x < n → d x < r + 1 → m x = d x
theorem Rnd.start (G : List Nd) (d : Nat → Nat) : Rnd G d 0 0 fun _ => 0 := ⟨fun x => Nat.zero_le _, fun x h => absurd h (Nat.not_lt_zero _), fun x h => absurd h (Nat.not_lt_zero _)⟩
theorem Rnd.step {G : List Nd} {d m : Nat → Nat} {r n v : Nat} (h : Rnd G d r n m) (hd : DepOk G d) (hv : v = dmx m (aft G n) (m n)) : Rnd G d r (n + 1) (setD m n v) := by
  have hle : v ≤ d n := by
    rw [hv]
    refine dmx_le (fun a ha => ?_) (h.le n)
    have h1 := h.le a
    have h2 := dmx_ge (d := d) ha 0
    rw [hd n]
    omega
  refine ⟨fun x => ?_, fun x hx => ?_, fun x hx hr => ?_⟩
  · by_cases e : x = n
    · subst e; rw [setD_self]; exact hle
    · rw [setD_ne _ _ e]; exact h.le x
  · by_cases e : x = n
    · subst e
      rw [setD_self]
      have h1 := h.old x hx
      have h2 := dmx_start (d := m) (l := aft G x) (m x)
      omega
    · rw [setD_ne _ _ e]; exact h.old x hx
  · by_cases e : x = n
    · subst e
      rw [setD_self]
      refine Nat.le_antisymm hle ?_
      rw [hv, hd x]
      refine dmx_le (fun a ha => ?_) (Nat.zero_le _)
      have h2 := dmx_ge (d := d) ha 0
      rw [← hd x] at h2
      rw [← h.old a (by omega)]
      exact dmx_ge ha _
    · rw [setD_ne _ _ e]; exact h.new x (by omega) hr
theorem Rnd.round {G : List Nd} {d m : Nat → Nat} {r : Nat} (hG : GOk G) (hd : DepOk G d) (h : Rnd G d r G.length m) : Rnd G d (r + 1) 0 m :=
  ⟨h.le, fun x hx => by
    rcases Nat.lt_or_ge x G.length with k | k
    · exact h.new x k hx
    · have hx2 : hasB G x = false := by unfold hasB; rw [nd_out k]; rfl
      have h0 := hd.off hG hx2
      have := h.le x
      omega, fun x hx => by omega⟩
theorem Rnd.done {G : List Nd} {d m : Nat → Nat} (hG : GOk G) (hd : DepOk G d) (h : Rnd G d G.length 0 m) (x : Nat) : m x = d x := by
  cases e : hasB G x
  · have h0 := hd.off hG e
    have := h.le x
    omega
  · obtain ⟨p, s, e2⟩ := List.append_of_mem (ordG_all hG e)
    have := hd.at_ hG p x s e2
    have hl := (ordG_ok G).len
    rw [e2] at hl
    simp at hl
    exact h.old x (by omega)
end Go.Proofs.Ytggjimeligbmcab
