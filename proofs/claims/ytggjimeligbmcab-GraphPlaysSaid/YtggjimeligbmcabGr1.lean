/-
  A graph of package graph in memory, for those who read it; Len and Has, and slices' Contains and Clone at its rows, by contract. No condition but those that each theorem names.
-/
import Derived.Test.YtggjimeligbmcabGr0
import Derived.Test.YtggjimeligbmcabShelf
import Derived.Test.YtggjimeligbmcabRefused
import Derived.Test.YtggjimeligbmcabMem3
import Derived.LoopTactic
import Derived.Deep.MidRow
import Derived.Deep.CutBlock
import Derived.Deep.DeepCutAuto
namespace Go.Proofs.Ytggjimeligbmcab
open Go.RowKit
set_option linter.unusedVariables false

/-- Numbers as cells. -/
def ints (l : List Nat) : List Value := l.map fun (n : Nat) => Value.int .i64 (n : Int)
theorem ints_len (l : List Nat) : (ints l).length = l.length := by simp [ints]
theorem ints_at {l : List Nat} {j : Nat} (h : j < l.length) : (ints l)[j]? = some (.int .i64 ((l.getD j 0 : Nat) : Int)) := by
  simp [ints, h]
/-- A slice that reads as numbers. -/
def IntsN (w : World) (v : Value) (l : List Nat) : Prop := ∃ p c, v = .slice p l.length c ∧ (l.length = 0 ∨ ∃ b off, p = some ⟨b, off, none⟩ ∧ ∀ j, j < l.length → w.cell? ⟨b, off + j, none⟩ = some (.int .i64 ((l.getD j 0 : Nat) : Int)))
theorem IntsN.keep {w w' : World} {v : Value} {l : List Nat} (h : IntsN w v l) (hb : Below w.heap.size w w') : IntsN w' v l := by
  obtain ⟨p, c, rfl, h⟩ := h
  refine ⟨p, c, rfl, h.imp id ?_⟩
  rintro ⟨b, off, rfl, hc⟩
  exact ⟨b, off, rfl, fun j hj => keepc hb (hc j hj)⟩
theorem IntsN.of_row {w : World} {B : Nat} {v : Value} {l : List Nat} (h : w.ownsRow B 3 1 v l.length (ints l)) : IntsN w v l := by
  obtain ⟨p, c, rfl, _⟩ := row_form h
  refine ⟨p, c, rfl, ?_⟩
  rcases Nat.eq_zero_or_pos l.length with hz | hz
  · exact .inl hz
  · obtain ⟨g, cap, he, _, _⟩ := row_some h hz
    simp only [Value.slice.injEq] at he
    obtain ⟨rfl, _, rfl⟩ := he
    refine .inr ⟨g, 0, rfl, fun j hj => ?_⟩
    have := h.cells (g := g) rfl j _ (ints_at hj)
    rwa [Addr.add_mid] at this
theorem map_getD {l : List Nat} {j : Nat} (h : j < l.length) : (l.map fun (n : Nat) => (n : Int)).getD j 0 = ((l.getD j 0 : Nat) : Int) := by
  simp [h]
/-- Is a number among some? -/
def inI (l : List Nat) (x : Int) : Bool := (l.map fun (n : Nat) => (n : Int)).contains x
theorem inI_nat (l : List Nat) (k : Nat) : inI l (k : Int) = decide (k ∈ l) := by
  unfold inI
  rw [Bool.eq_iff_iff]
  simp only [List.contains_iff_mem, List.mem_map, decide_eq_true_eq]
  exact ⟨fun ⟨a, ha, e⟩ => by rwa [← Int.ofNat_inj.1 e], fun h => ⟨k, h, rfl⟩⟩
theorem contains_n {w : World} {v : Value} {l : List Nat} (h : IntsN w v l) (x : Int) (hl : l.length ≤ 64) :
    Calls Try.prog 39 #[v, .int .i64 x] w fun e w' => e = .returned (.bool (inI l x)) ∧ w = w' := by
  obtain ⟨p, c, rfl, h⟩ := h
  rcases h with hz | ⟨b, off, rfl, hc⟩
  · have e : l = [] := List.eq_nil_of_length_eq_zero hz
    subst e
    exact (Try.slices_Contains_int_empty p c x w).mono fun e w' ⟨h1, h2⟩ => ⟨h1, h2.symm⟩
  · have := Try.slices_Contains_int b off l.length c (l.map fun (n : Nat) => (n : Int)) x w (by simp) (by omega) (fun j hj => by
      rw [List.length_map] at hj
      rw [hc j hj, map_getD hj])
    rw [show (l.map fun (n : Nat) => (n : Int)).take l.length = l.map fun (n : Nat) => (n : Int) by rw [List.take_of_length_le]; simp] at this
    exact this.mono fun e w' ⟨h1, h2⟩ => ⟨h1, h2.symm⟩
theorem clone_n {w : World} {v : Value} {l : List Nat} (h : IntsN w v l) (hl : l.length ≤ 64) :
    Calls Try.prog 36 #[v] w fun e w' => ∃ v', e = .returned v' ∧ w'.ownsRow w.heap.size 3 1 v' l.length (ints l) ∧ Below w.heap.size w w' := by
  obtain ⟨p, c, rfl, h⟩ := h
  have z0 : l.length = 0 → Calls Try.prog 36 #[.slice p l.length c] w fun e w' => ∃ v', e = .returned v' ∧ w'.ownsRow w.heap.size 3 1 v' l.length (ints l) ∧ Below w.heap.size w w' := by
    intro hz
    have e : l = [] := List.eq_nil_of_length_eq_zero hz
    subst e
    cases p with
    | none => exact (Try.slices_Clone_int_nil 0 c w).mono fun e w' ⟨h1, h2⟩ => by subst h2; exact ⟨_, h1, World.ownsRow_nil _ _ _ _, Below.refl _ _⟩
    | some a => exact (Try.slices_Clone_int_zero a c w).mono fun e w' ⟨v', h1, h2, _, h4⟩ => ⟨v', h1, h2, h4⟩
  rcases h with hz | ⟨b, off, rfl, hc⟩
  · exact z0 hz
  · have := Try.slices_Clone_int b off l.length c (l.map fun (n : Nat) => (n : Int)) w (by simp) (by omega) (fun j hj => by
      rw [List.length_map] at hj
      rw [hc j hj, map_getD hj])
    rw [show (l.map fun (n : Nat) => (n : Int)).take l.length = l.map fun (n : Nat) => (n : Int) by rw [List.take_of_length_le]; simp] at this
    refine this.mono fun e w' ⟨v', h1, h2, _, h4⟩ => ⟨v', h1, ?_, h4⟩
    rw [List.map_map] at h2
    exact h2

/-- A graph that can be read. -/
structure Gr (w : World) (g : Nat) (G : List Nd) (pn : Option Addr) (c q : Nat) (S : List Value) : Prop where
  c0 : w.cell? ⟨g, 0, none⟩ = some (.slice pn G.length c)
  at_ : 0 < G.length → pn = some ⟨q, 0, none⟩
  gone : ∀ i, i < G.length → w.cell? ⟨q, i * 2, none⟩ = some (.bool (nd G i).gone)
  af : ∀ i, i < G.length → w.cell? ⟨q, i * 2 + 1, none⟩ = some (S.getD i (.slice none 0 0))
  ns : ∀ i, i < G.length → IntsN w (S.getD i (.slice none 0 0)) (aft G i)
section
variable {w w' : World} {g c q : Nat} {G : List Nd} {pn : Option Addr} {S : List Value}
theorem Gr.keep (h : Gr w g G pn c q S) (hb : Below w.heap.size w w') : Gr w' g G pn c q S :=
  ⟨keepc hb h.c0, h.at_, fun i hi => keepc hb (h.gone i hi), fun i hi => keepc hb (h.af i hi), fun i hi => (h.ns i hi).keep hb⟩
theorem glen_some (h : Gr w g G pn c q S) :
    Calls Try.prog 19 #[.pointer (some ⟨g, 0, none⟩)] w fun e w' => e = .returned (.int .i64 (G.length : Int)) ∧ w = w' := by
  have c0 := h.c0
  clear h
  go_enter Try.func19, Try.ntmps19
  go_wp2
  go_ret
  exact ⟨rfl, rfl⟩
theorem glen_nil (w : World) :
    Calls Try.prog 19 #[.pointer none] w fun e w' => e = .returned (.int .i64 0) ∧ w = w' := by
  go_enter Try.func19, Try.ntmps19
  go_wp2
  go_ret
  exact ⟨rfl, rfl⟩
/-- Is it there? -/
def hasI (G : List Nd) (x : Int) : Bool := decide (0 ≤ x) && hasB G x.toNat
theorem hasI_nat (G : List Nd) (k : Nat) : hasI G (k : Int) = hasB G k := by simp [hasI]
theorem hasI_yes {G : List Nd} {x : Int} (h : hasI G x = true) : ∃ k : Nat, x = k ∧ hasB G k = true := by
  simp [hasI] at h
  exact ⟨x.toNat, by omega, h.2⟩
theorem ghas_nil (x : Int) (w : World) :
    Calls Try.prog 22 #[.pointer none, .int .i64 x] w fun e w' => e = .returned (.bool false) ∧ w = w' := by
  by_cases h : 0 ≤ x
  · have d0 : decide (0 ≤ x) = true := decide_eq_true h
    have d1 : decide (x < 0) = false := decide_eq_false (by omega)
    go_enter Try.func22, Try.ntmps22
    go_wp2_with (go_at_call 19; refine (glen_nil _).mono ?_; rintro e w1 ⟨rfl, rfl⟩)
    go_ret
    exact ⟨rfl, rfl⟩
  · have d0 : decide (0 ≤ x) = false := decide_eq_false h
    go_enter Try.func22, Try.ntmps22
    go_wp2_with (go_at_call 19; refine (glen_nil _).mono ?_; rintro e w1 ⟨rfl, rfl⟩)
    go_ret
    exact ⟨rfl, rfl⟩
theorem ghas_some (h : Gr w g G pn c q S) (x : Int) :
    Calls Try.prog 22 #[.pointer (some ⟨g, 0, none⟩), .int .i64 x] w fun e w' => e = .returned (.bool (hasI G x)) ∧ w = w' := by
  have c0 := h.c0
  by_cases h0 : 0 ≤ x
  · obtain ⟨k, rfl⟩ : ∃ k : Nat, x = k := ⟨x.toNat, by omega⟩
    rw [hasI_nat]
    by_cases hk : k < G.length
    · obtain rfl := h.at_ (by omega)
      have cg := h.gone k hk
      have HB : Hid (hasB G k = !(nd G k).gone) := Lib.hid rfl
      have HH := Lib.hid h
      generalize (nd G k).gone = bg at *
      have d0 : decide ((k : Int) < (G.length : Int)) = true := decide_eq_true (by omega)
      clear h
      go_enter Try.func22, Try.ntmps22
      go_wp2_with (go_at_call 19; refine (glen_some HH.out).mono ?_; rintro e w1 ⟨rfl, rfl⟩)
      go_ret
      exact ⟨by rw [HB.out]; rfl, rfl⟩
    · have HB : Hid (hasB G k = false) := Lib.hid (by unfold hasB; rw [nd_out (by omega)]; rfl)
      have HH := Lib.hid h
      have d0 : decide ((k : Int) < (G.length : Int)) = false := decide_eq_false (by omega)
      clear h
      go_enter Try.func22, Try.ntmps22
      go_wp2_with (go_at_call 19; refine (glen_some HH.out).mono ?_; rintro e w1 ⟨rfl, rfl⟩)
      go_ret
      exact ⟨by rw [HB.out]; rfl, rfl⟩
  · have HB : Hid (hasI G x = false) := Lib.hid (by simp [hasI, h0])
    have d0 : decide (0 ≤ x) = false := decide_eq_false h0
    have HH := Lib.hid h
    clear h h0
    go_enter Try.func22, Try.ntmps22
    go_wp2_with (go_at_call 19; refine (glen_some HH.out).mono ?_; rintro e w1 ⟨rfl, rfl⟩)
    go_ret
    exact ⟨by rw [HB.out]; rfl, rfl⟩
end
end Go.Proofs.Ytggjimeligbmcab
