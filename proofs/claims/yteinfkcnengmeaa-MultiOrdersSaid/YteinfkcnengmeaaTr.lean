/-
  A claim of package multi that is done step by step, as a value of forty cells: what they are; Done, Full, Last, the beginning, and how it goes on behind a scan, by contract. No condition but those that each theorem names.
-/
import Derived.Test.YteinfkcnengmeaaMs
namespace Go.Proofs.Yteinfkcnengmeaa
open Go.RowKit

/-- A claim step by step, in plain numbers. -/
structure Tr where
  n : Int
  stg : Int
  had : Int
  last : Int
  ids : List Int
  seen : Nat
  least : Int
/-- What its cells are. -/
structure TyF (ts : Array Value) (p : Nat) (t : Tr) : Prop where
  size : ts.size = 40
  one : ts.all (·.oneCell') = true
  c0 : ts[0]? = some (.pointer (some ⟨p, 0, none⟩))
  c1 : ts[1]? = some (.int .i64 t.n)
  c2 : ts[2]? = some (.int .i64 t.stg)
  c3 : ts[3]? = some (.int .i64 t.had)
  c4 : ts[4]? = some (.int .i64 t.last)
  sc : Sc (ts.extract 5 40) t.ids t.seen t.least

theorem all_set {ts : Array Value} (h : ts.all (·.oneCell') = true) (i : Nat) (v : Value) (hv : v.oneCell' = true) : (ts.setIfInBounds i v).all (·.oneCell') = true := by
  rw [Array.all_eq_true_iff_forall_mem] at h ⊢
  intro y hy
  rcases Array.mem_or_eq_of_mem_setIfInBounds hy with hy | rfl
  · exact h y hy
  · exact hv
theorem ext_set {ts : Array Value} {i : Nat} (h : i < 5) (v : Value) : (ts.setIfInBounds i v).extract 5 40 = ts.extract 5 40 := by
  apply Array.ext_getElem?
  intro j
  simp only [Array.getElem?_extract, Array.size_setIfInBounds]
  split
  · rw [Array.getElem?_setIfInBounds_ne (by omega)]
  · rfl
theorem TyF.stg {ts : Array Value} {p : Nat} {t : Tr} (h : TyF ts p t) (x : Int) : TyF (ts.setIfInBounds 2 (.int .i64 x)) p { t with stg := x } := by
  have hs := h.size
  refine ⟨by simpa using hs, all_set h.one _ _ rfl, ?_, ?_, ?_, ?_, ?_, by rw [ext_set (by omega)]; exact h.sc⟩
  · rw [Array.getElem?_setIfInBounds_ne (by omega)]; exact h.c0
  · rw [Array.getElem?_setIfInBounds_ne (by omega)]; exact h.c1
  · rw [Array.getElem?_setIfInBounds_self_of_lt (by omega)]
  · rw [Array.getElem?_setIfInBounds_ne (by omega)]; exact h.c3
  · rw [Array.getElem?_setIfInBounds_ne (by omega)]; exact h.c4
theorem TyF.had {ts : Array Value} {p : Nat} {t : Tr} (h : TyF ts p t) (x : Int) : TyF (ts.setIfInBounds 3 (.int .i64 x)) p { t with had := x } := by
  have hs := h.size
  refine ⟨by simpa using hs, all_set h.one _ _ rfl, ?_, ?_, ?_, ?_, ?_, by rw [ext_set (by omega)]; exact h.sc⟩
  · rw [Array.getElem?_setIfInBounds_ne (by omega)]; exact h.c0
  · rw [Array.getElem?_setIfInBounds_ne (by omega)]; exact h.c1
  · rw [Array.getElem?_setIfInBounds_ne (by omega)]; exact h.c2
  · rw [Array.getElem?_setIfInBounds_self_of_lt (by omega)]
  · rw [Array.getElem?_setIfInBounds_ne (by omega)]; exact h.c4
theorem TyF.last {ts : Array Value} {p : Nat} {t : Tr} (h : TyF ts p t) (x : Int) : TyF (ts.setIfInBounds 4 (.int .i64 x)) p { t with last := x } := by
  have hs := h.size
  refine ⟨by simpa using hs, all_set h.one _ _ rfl, ?_, ?_, ?_, ?_, ?_, by rw [ext_set (by omega)]; exact h.sc⟩
  · rw [Array.getElem?_setIfInBounds_ne (by omega)]; exact h.c0
  · rw [Array.getElem?_setIfInBounds_ne (by omega)]; exact h.c1
  · rw [Array.getElem?_setIfInBounds_ne (by omega)]; exact h.c2
  · rw [Array.getElem?_setIfInBounds_ne (by omega)]; exact h.c3
  · rw [Array.getElem?_setIfInBounds_self_of_lt (by omega)]
/-- The scan put in. -/
def putSc (ts cs : Array Value) : Array Value := (ts.toList.take 5 ++ cs.toList).toArray
theorem TyF.scan {ts cs : Array Value} {p : Nat} {t : Tr} (h : TyF ts p t) {ids : List Int} {seen : Nat} {least : Int} (hc : Sc cs ids seen least) : TyF (putSc ts cs) p { t with ids := ids, seen := seen, least := least } := by
  have hs := h.size
  have hcs := hc.size
  have hl : (ts.toList.take 5).length = 5 := by simp; omega
  have lo : ∀ i, i < 5 → (putSc ts cs)[i]? = ts[i]? := fun i hi => by
    simp only [putSc, List.getElem?_toArray]
    rw [List.getElem?_append_left (by omega), List.getElem?_take, if_pos hi]
    simp
  refine ⟨by simp [putSc]; omega, ?_, (lo 0 (by omega)).trans h.c0, (lo 1 (by omega)).trans h.c1, (lo 2 (by omega)).trans h.c2, (lo 3 (by omega)).trans h.c3, (lo 4 (by omega)).trans h.c4, ?_⟩
  · have h1 := h.one
    have h2 := hc.one
    rw [Array.all_eq_true_iff_forall_mem] at h1 h2 ⊢
    intro y hy
    simp only [putSc, List.mem_toArray, List.mem_append] at hy
    rcases hy with hy | hy
    · exact h1 y (by simpa using List.mem_of_mem_take hy)
    · exact h2 y (by simpa using hy)
  · have : (putSc ts cs).extract 5 40 = cs := by
      apply Array.ext_getElem?
      intro j
      simp only [Array.getElem?_extract, putSc, List.getElem?_toArray, List.size_toArray, List.length_append, hl, Array.length_toList, hcs]
      by_cases hj : j < 35
      · rw [if_pos (by omega), List.getElem?_append_right (by omega), hl]
        simp
      · rw [if_neg (by omega), Array.getElem?_eq_none (by omega)]
    rw [this]
    exact hc

theorem TyF.info {ts : Array Value} {p : Nat} {t : Tr} (h : TyF ts p t) : (Try.prog.info? 116).map (·.size) = some ts.size := by
  rw [h.size]
  kernel_rfl

section
variable {ts : Array Value} {W : World}
theorem tdone {x : Int} (h2 : ts[2]? = some (.int .i64 x)) (W : World) :
    Calls Try.prog 67 #[.agg ts] W fun e w' => e = .returned (.bool (x == 0 || x == 6 || x == 7)) ∧ Below W.heap.size W w' := by
  by_cases h0 : x = 0
  · subst h0
    go_enter Try.func67, Try.ntmps67
    go_wp2
    go_ret
    exact ⟨rfl, (Below.refl _ _).alloc (Nat.le_refl _) _⟩
  · have b0 : (x == 0) = false := by simpa using h0
    by_cases h6 : x = 6
    · subst h6
      clear h0 b0
      go_enter Try.func67, Try.ntmps67
      go_wp2
      go_ret
      exact ⟨rfl, (Below.refl _ _).alloc (Nat.le_refl _) _⟩
    · have b6 : (x == 6) = false := by simpa using h6
      clear h0 h6
      go_enter Try.func67, Try.ntmps67
      go_wp2
      go_ret
      exact ⟨by simp [b0, b6], (Below.refl _ _).alloc (Nat.le_refl _) _⟩
theorem tfull {x : Int} (h2 : ts[2]? = some (.int .i64 x)) (W : World) :
    Calls Try.prog 71 #[.agg ts] W fun e w' => e = .returned (.bool (x == 7)) ∧ Below W.heap.size W w' := by
  go_enter Try.func71, Try.ntmps71
  go_wp2
  go_ret
  exact ⟨rfl, (Below.refl _ _).alloc (Nat.le_refl _) _⟩
/-- The last index that it claimed. -/
def lastOf (x y : Int) : Int := if x = 6 then y else -1
theorem tlast {x y : Int} (h2 : ts[2]? = some (.int .i64 x)) (h4 : ts[4]? = some (.int .i64 y)) (W : World) :
    Calls Try.prog 68 #[.agg ts] W fun e w' => e = .returned (.int .i64 (lastOf x y)) ∧ Below W.heap.size W w' := by
  by_cases h6 : x = 6
  · subst h6
    go_enter Try.func68, Try.ntmps68
    go_wp2
    go_ret
    exact ⟨rfl, (Below.refl _ _).alloc (Nat.le_refl _) _⟩
  · have b6 : (x == 6) = false := by simpa using h6
    have HL : Hid (lastOf x y = -1) := by unfold lastOf; rw [if_neg h6]; exact rfl
    clear h6
    go_enter Try.func68, Try.ntmps68
    go_wp2
    go_ret
    exact ⟨by rw [HL.out]; rfl, (Below.refl _ _).alloc (Nat.le_refl _) _⟩
end

/-- A claim that has read nothing. -/
def tr0 (n : Int) : Tr := ⟨n, 1, 0, 0, [], 0, 0⟩
theorem ty_of {p : Nat} {t : Tr} {cs : Array Value} (hc : Sc cs t.ids t.seen t.least) : TyF ((([.pointer (some ⟨p, 0, none⟩), .int .i64 t.n, .int .i64 t.stg, .int .i64 t.had, .int .i64 t.last] : List Value) ++ cs.toList).toArray) p t := by
  have hcs := hc.size
  refine ⟨by simp; omega, ?_, rfl, rfl, rfl, rfl, rfl, ?_⟩
  · have h2 := hc.one
    rw [Array.all_eq_true_iff_forall_mem] at h2 ⊢
    intro y hy
    rw [List.mem_toArray, List.mem_append] at hy
    rcases hy with hy | hy
    · simp only [List.mem_cons, List.not_mem_nil, or_false] at hy
      rcases hy with rfl | rfl | rfl | rfl | rfl <;> rfl
    · exact h2 y (by simpa using hy)
  · have : (([Value.pointer (some ⟨p, 0, none⟩), .int .i64 t.n, .int .i64 t.stg, .int .i64 t.had, .int .i64 t.last] ++ cs.toList).toArray).extract 5 40 = cs := by
      apply Array.ext_getElem?
      intro j
      simp only [Array.getElem?_extract, List.getElem?_toArray, List.size_toArray, List.length_append, List.length_cons, List.length_nil, Array.length_toList, hcs]
      by_cases hj : j < 35
      · rw [if_pos (by omega), List.getElem?_append_right (by simp)]
        simp
      · rw [if_neg (by omega), Array.getElem?_eq_none (by omega)]
    rw [this]
    exact hc
def ty0 (p : Nat) (n : Int) : Array Value := ([Value.pointer (some ⟨p, 0, none⟩), .int .i64 n, .int .i64 1, .int .i64 0, .int .i64 0] ++ (scC [] 0 0).toList).toArray
theorem built_ty0 (p : Nat) (n : Int) : Try.prog.built 116 [(0, .pointer (some ⟨p, 0, none⟩)), (1, .int .i64 n), (2, .int .i64 1)] = some (ty0 p n) := by kernel_rfl
theorem ty0_f (p : Nat) (n : Int) : TyF (ty0 p n) p (tr0 n) := ty_of (p := p) (t := tr0 n) (sc_of (ids := []) (by simp) 0 0)
section
variable {P : Program} {ops : Array Oper} {rest : List Oper} {o : Oper} {a : Act} {w : World} {Q : Exit → Act → World → Prop}
theorem wpList_build3 (hg : o.guard = none) (t : TypeId) (i j k : Nat) (x y z : Operand) (ho : o.op = .build t #[(i, x), (j, y), (k, z)]) (u v r : Value) (hx : a.eval x = u) (hy : a.eval y = v) (hz : a.eval z = r) (cells : Array Value)
    (hb : P.built t [(i, u), (j, v), (k, r)] = some cells) (h : wpList P ops Q rest (a.put o.dst (.agg cells)) w) : wpList P ops Q (o :: rest) a w := by
  subst hx hy hz
  have e : P.built t ((#[(i, x), (j, y), (k, z)] : Array (Nat × Operand)).map fun (i, x) => (i, a.eval x)).toList = some cells := by simpa using hb
  exact wpList_build hg t _ ho (by rw [e]; rfl) (by rw [e]; exact h)
end
end Go.Proofs.Yteinfkcnengmeaa
