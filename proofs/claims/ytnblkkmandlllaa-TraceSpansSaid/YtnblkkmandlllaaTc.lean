/-
  Maps that count: how often a number came. No condition but those that each theorem names.
-/
import Derived.Test.YtnblkkmandlllaaTn
import Derived.Maps.OwnSet
namespace Go.Proofs.Ytnblkkmandlllaa
open Go.RowKit Go.Maps
set_option linter.unusedVariables false

theorem i64_lit {a : Int} (h : i64Ok a) : (Lit.int .i64 a).wf = true := by
  obtain ⟨h1, h2⟩ := h
  simp [Lit.wf, IntKind.min, IntKind.max, IntKind.bits, IntKind.signed]
  omega

/-- A map in a block says how often each number came; whether none did. -/
def Cnt (K : TypeId) (w : World) (b n : Nat) (f : Int → Int) (z : Bool) : Prop :=
  ∃ D : DataW Unit, w.ownsMap Try.prog K (plainElem Try.prog 3) b n D ∧ (∀ a, i64Ok a → D.atKey (.int .i64 a) (.lit (.int .i64 0)) = .lit (.int .i64 (f a))) ∧ (Maps.size D = 0 ↔ z = true)

theorem zeroInt (w : World) : (zeroValue 3).run Try.prog w = .ok (.int .i64 0) w := by kernel_rfl

theorem Cnt.made (K : TypeId) (w : World) : Cnt K (w.alloc (.map #[] 0)) w.heap.size 0 (fun _ => 0) true :=
  ⟨.map [], World.ownsMap_made _ _ _ _, fun _ _ => rfl, by simp [Maps.size]⟩
theorem Cnt.keep {K : TypeId} {w w' : World} {b n B : Nat} {f : Int → Int} {z : Bool} (h : Cnt K w b n f z) (hb : Below B w w') (hB : b < B) : Cnt K w' b n f z := by
  obtain ⟨D, ⟨es, clock, hh, r⟩, h2⟩ := h
  exact ⟨D, ⟨es, clock, (hb.block b hB).trans hh, r⟩, h2⟩
theorem Cnt.lt {K : TypeId} {w : World} {b n : Nat} {f : Int → Int} {z : Bool} (h : Cnt K w b n f z) : b < w.heap.size := by
  obtain ⟨D, h1, _⟩ := h
  exact h1.lt
theorem Cnt.mono {K : TypeId} {w : World} {b n m : Nat} {f : Int → Int} {z : Bool} (h : Cnt K w b n f z) (hm : n ≤ m) : Cnt K w b m f z := by
  obtain ⟨D, h1, h2⟩ := h
  exact ⟨D, h1.mono hm, h2⟩
theorem Cnt.look {K T : TypeId} {w : World} {b n : Nat} {f : Int → Int} {z : Bool} (h : Cnt K w b n f z) (hK : Try.prog.underlying K = some (.int .i64)) (hT : Try.prog.underlying T = some (.map K 3)) {a : Int} (ha : i64Ok a) :
    (Instr.lookup T (.map (some b)) (.int .i64 a) false).run Try.prog w = .ok (.int .i64 (f a)) w := by
  obtain ⟨D, h1, h2, _⟩ := h
  obtain ⟨c, hrun, hat, _⟩ := h1.lookup_int (int_keyed hK) hT Try.underlying3 (zeroInt w) (keyOf_int_mk hK (i64_lit ha))
  rw [h2 a ha] at hat
  have e : f a = c := by simpa using hat
  rw [e]; exact hrun
theorem Cnt.len {K T : TypeId} {w : World} {b n : Nat} {f : Int → Int} {z : Bool} (h : Cnt K w b n f z) (hT : Try.prog.underlying T = some (.map K 3)) (ty : TypeId) :
    ∃ m : Nat, (Builtin.len_ #[T] ty #[.map (some b)]).run Try.prog w = .ok (.int .i64 (m : Int)) w ∧ ((m : Int) == 0) = z ∧ m ≤ n := by
  obtain ⟨D, h1, h2, h3⟩ := h
  refine ⟨_, h1.len hT ty, ?_, h1.size_le⟩
  cases z with
  | true => rw [h3.2 rfl]; rfl
  | false =>
    have : Maps.size D ≠ 0 := fun e => by simpa using h3.1 e
    simpa using this
theorem Cnt.len_all {K T : TypeId} {w : World} {b n : Nat} {f : Int → Int} {z : Bool} (h : Cnt K w b n f z) (hT : Try.prog.underlying T = some (.map K 3)) (ty : TypeId) :
    ∃ m : Nat, (∀ w', Below w.heap.size w w' → (Builtin.len_ #[T] ty #[.map (some b)]).run Try.prog w' = .ok (.int .i64 (m : Int)) w') ∧ ((m : Int) == 0) = z ∧ m ≤ n := by
  obtain ⟨D, h1, h2, h3⟩ := h
  refine ⟨Maps.size D, fun w' hb => ?_, ?_, h1.size_le⟩
  · have hlt := h1.lt
    obtain ⟨es, clock, hh, r⟩ := h1
    exact World.ownsMap.len ⟨es, clock, (hb.block b hlt).trans hh, r⟩ hT ty
  · cases z with
    | true => rw [h3.2 rfl]; rfl
    | false =>
      have : Maps.size D ≠ 0 := fun e => by simpa using h3.1 e
      simpa using this
theorem size_pos_of_has {D : DataW Unit} {k : Lit} (h : Maps.has D k = true) : Maps.size D ≠ 0 := by
  intro e
  cases D <;> try (simp [Maps.has] at h; done)
  rename_i es
  have : es = [] := List.eq_nil_of_length_eq_zero e
  subst this
  simp [Maps.has] at h
theorem Cnt.put {K T : TypeId} {w : World} {b n : Nat} {f : Int → Int} {z : Bool} (h : Cnt K w b n f z) (hK : Try.prog.underlying K = some (.int .i64)) (hT : Try.prog.underlying T = some (.map K 3)) (hn : n < maxLen) {a c : Int} (ha : i64Ok a) (hc : i64Ok c) :
    ∃ w', (Instr.mapUpdate T (.map (some b)) (.int .i64 a) (.int .i64 c)).run Try.prog w = .ok () w' ∧ Cnt K w' b (n + 1) (fun x => if x = a then c else f x) false ∧ w.grownBy w' (some b) := by
  obtain ⟨D, h1, h2, h3⟩ := h
  have L := int_keyed hK
  have hk := keyOf_int_mk hK (i64_lit ha)
  obtain ⟨w', hr, ho, hg⟩ := h1.update L hT hn hk (plainElem_int Try.underlying3 (i64_lit hc))
  refine ⟨w', hr, ⟨_, ho, fun x hx => ?_, ?_⟩, hg⟩
  · show _ = DataW.lit (.int .i64 (if x = a then c else f x))
    by_cases e : x = a
    · subst e
      rw [if_pos rfl, atKey_put_same h1.isMap (L.key hk)]
    · rw [if_neg e, atKey_put_other (by simpa using e), h2 x hx]
  · have := size_pos_of_has (has_put_same h1.isMap (L.key hk) (D := D) (.lit (.int .i64 c)))
    simpa using this

/-- 'm[k] = v' at the operation. -/
theorem wpList_cnt_put {K T : TypeId} {w : World} {ops : Array Oper} {rest : List Oper} {o : Oper} {a : Act} {Q : Exit → Act → World → Prop} (hg : o.guard = none) (m x v : Operand) (hop : o.op = Op.mapUpdate T m x v)
    (hK : Try.prog.underlying K = some (.int .i64)) (hT : Try.prog.underlying T = some (.map K 3)) {b n : Nat} {f : Int → Int} {z : Bool} (hm : a.eval m = .map (some b)) (h : Cnt K w b n f z) (hn : n < maxLen)
    (k c : Int) (hk : a.eval x = .int .i64 k) (hv : a.eval v = .int .i64 c) (hkw : i64Ok k) (hcw : i64Ok c)
    (hQ : ∀ w', Cnt K w' b (n + 1) (fun x => if x = k then c else f x) false → w.grownBy w' (some b) → wpList Try.prog ops Q rest (a.put o.dst undef) w') : wpList Try.prog ops Q (o :: rest) a w := by
  refine wpList_plain hg fun K' hK' => ?_
  obtain ⟨w', hrun, r1, r2⟩ := h.put hK hT hn hkw hcw
  unfold Oper.wp
  simp [execOp, hop, hm, hk, hv, hrun, Result.andThen]
  exact hK' _ _ (hQ w' r1 r2)

/-- How often a number stands in a list. -/
def occ (l : List Int) (a : Int) : Int := (l.count a : Nat)
theorem occ_nil : occ [] = fun _ => 0 := by funext a; rfl
theorem occ_snoc (l : List Int) (d : Int) : occ (l ++ [d]) = fun x => if x = d then occ l d + 1 else occ l x := by
  funext x
  unfold occ
  rw [List.count_append]
  by_cases h : x = d
  · subst h; simp
  · rw [if_neg h, List.count_singleton, if_neg (by simpa using fun e => h e.symm)]; simp
theorem occ_pos (l : List Int) (a : Int) : decide (0 < occ l a) = l.contains a := by
  unfold occ
  rw [Bool.eq_iff_iff]
  simp [List.count_pos_iff]
theorem occ_le (l : List Int) (a : Int) : 0 ≤ occ l a ∧ occ l a ≤ l.length := ⟨by unfold occ; omega, by unfold occ; have := List.count_le_length (a := a) (l := l); omega⟩

/-- A slice of integers, read. -/
def IntsR (w : World) (v : Value) (l : List Int) : Prop :=
  ∃ p c, v = .slice p l.length c ∧ l.length ≤ c ∧ c ≤ maxLen ∧ (∀ x ∈ l, i64Ok x) ∧ (l.length = 0 ∨ ∃ b off, p = some ⟨b, off, none⟩ ∧ b < w.heap.size ∧ ∀ j x, l[j]? = some x → w.cell? ⟨b, off + j, none⟩ = some (.int .i64 x))
theorem IntsR.keep {w w' : World} {v : Value} {l : List Int} (h : IntsR w v l) (hb : Below w.heap.size w w') : IntsR w' v l := by
  obtain ⟨p, c, hv, h1, h2, hw, h3⟩ := h
  refine ⟨p, c, hv, h1, h2, hw, ?_⟩
  rcases h3 with h3 | ⟨b, off, hp, hlt, hc⟩
  · exact .inl h3
  · exact .inr ⟨b, off, hp, Nat.lt_of_lt_of_le hlt hb.size, fun j x hj => (hb.cell (p := ⟨b, _, none⟩) hlt).trans (hc j x hj)⟩
theorem IntsR.form {w : World} {v : Value} {l : List Int} (h : IntsR w v l) : ∃ p c, v = .slice p l.length c ∧ l.length ≤ c ∧ c ≤ maxLen := by
  obtain ⟨p, c, hv, h1, h2, _⟩ := h
  exact ⟨p, c, hv, h1, h2⟩
theorem IntsR.at_ {w : World} {p : Option Addr} {n c : Nat} {l : List Int} (h : IntsR w (.slice p n c) l) {k : Nat} (hk : k < l.length) :
    ∃ b off x, p = some ⟨b, off, none⟩ ∧ l[k]? = some x ∧ b < w.heap.size ∧ i64Ok x ∧ w.cell? ⟨b, off + k, none⟩ = some (.int .i64 x) := by
  obtain ⟨p', c', hv, h1, h2, hw, h3⟩ := h
  simp only [Value.slice.injEq] at hv
  obtain ⟨rfl, -, -⟩ := hv
  obtain ⟨b, off, rfl, hlt, hc⟩ := h3.resolve_left (by omega)
  exact ⟨b, off, l[k], rfl, List.getElem?_eq_getElem hk, hlt, hw _ (List.getElem_mem hk), hc k _ (List.getElem?_eq_getElem hk)⟩
theorem IntsR.one {w : World} (b : Nat) (x : Int) (hx : i64Ok x) (hc : w.cell? ⟨b, 0, none⟩ = some (.int .i64 x)) : IntsR w (.slice (some ⟨b, 0, none⟩) 1 1) [x] :=
  ⟨_, 1, rfl, Nat.le_refl _, by decide, by simpa using hx, .inr ⟨b, 0, rfl, World.block_lt_of_cell? w _ hc, fun j y hj => by
    rcases j with _ | j
    · simp at hj; subst hj; exact hc
    · simp at hj⟩⟩
end Go.Proofs.Ytnblkkmandlllaa
