/-
  The document's Add of layer 13, by contract. Conditions: a graph in which nobody is behind itself; at most 100 names.
-/
import Derived.Test.YtggjimeligbmcabGr27
namespace Go.Proofs.Ytggjimeligbmcab
open Go.RowKit
set_option linter.unusedVariables false

section
variable {P : Program} {w : World}
theorem run_append_none (t ty e : TypeId) (i : TypeInfo) (ht : P.underlying t = some (.slice e)) (hi : P.info? e = some i)
    (v : Value) (n : Nat) (xs : List Value) {base size : Nat} (hown : w.ownsRow base e size v n xs) (p : Option Addr) (c : Nat) :
    (Builtin.append_ #[t, t] ty #[v, .slice p 0 c]).run P w = .ok v w := by
  rcases hown.2 with ⟨rfl, rfl⟩ | ⟨g, cap, cur, rfl, _, _, hnc, _⟩
  · cases p <;> simp [Builtin.append_, run_underlying ht, sizeOf, typeInfo, hi, Builtin.lenOf, Builtin.firstCells, loadCells, loadCellsFrom]
  · cases p <;> simp [Builtin.append_, run_underlying ht, sizeOf, typeInfo, hi, Builtin.lenOf, Builtin.firstCells, hnc, storeCells, loadCells, loadCellsFrom]

theorem run_append_ints (t ty e : TypeId) (i : TypeInfo) (z : Value) (bytes : Nat) (ht : P.underlying t = some (.slice e)) (hi : P.info? e = some i) (hz : i.zero = some z)
    (hsize : i.size = 1) (hby : i.bytes = bytes) (hzs : z.cells.size = 1)
    (v : Value) (n : Nat) (xs : List Value) (hown : w.ownsRow 0 e 1 v n xs) (sv : Value) (l : List Int) (hs : IntsAt w sv l) (h63 : n + l.length ≤ maxLen) (hbytes : (n + l.length) * bytes ≤ 140737488355328) :
    ∃ v' w', (Builtin.append_ #[t, t] ty #[v, sv]).run P w = .ok v' w' ∧ w'.ownsRow 0 e 1 v' (n + l.length) (xs ++ l.map (Value.int .i64)) ∧ Frm (fun k => v.ownBlock = some k) w w' ∧
      (v'.ownBlock = v.ownBlock ∨ ∀ g, v'.ownBlock = some g → w.heap.size ≤ g) := by
  obtain ⟨p, c, rfl, h⟩ := hs
  rcases Nat.eq_zero_or_pos l.length with h0 | h0
  · obtain rfl : l = [] := List.eq_nil_of_length_eq_zero h0
    exact ⟨v, w, run_append_none t ty e i ht hi v n xs hown p c, by simpa using hown, Frm.refl _ _, .inl rfl⟩
  · rcases h with h | ⟨b, off, rfl, hc⟩
    · omega
    · refine run_append_row t ty e i z 1 bytes ht hi hz hsize hby hzs (by decide) v n xs hown ⟨b, off, none⟩ l.length c (l.map (Value.int .i64)) (by simp) ?_ ?_ h63 hbytes
      · intro j u hu
        have hj : j < l.length := by
          rcases Nat.lt_or_ge j l.length with k | k
          · exact k
          · simp [List.getElem?_eq_none k] at hu
        have e1 : (⟨b, off, none⟩ : Addr).add j = ⟨b, off + j, none⟩ := by unfold Addr.add; split <;> simp_all
        rw [e1, hc j hj]
        simp [List.getElem?_eq_getElem hj] at hu ⊢
        exact hu
      · intro u hu
        simp at hu
        obtain ⟨x, _, rfl⟩ := hu
        rfl

theorem wpList_append_ints {ops : Array Oper} {rest : List Oper} {o : Oper} {a : Act} {Q : Exit → Act → World → Prop} (hgd : o.guard = none) (s x : Operand) (t : TypeId)
    (ho : o.op = .call { callee := .builtin .append, args := #[s, x], argTypes := #[t, t] })
    (e : TypeId) (i : TypeInfo) (z : Value) (bytes : Nat) (ht : P.underlying t = some (.slice e)) (hi : P.info? e = some i) (hz : i.zero = some z)
    (hsize : i.size = 1) (hby : i.bytes = bytes) (hzs : z.cells.size = 1)
    (v : Value) (n : Nat) (xs : List Value) (hs : a.eval s = v) (hown : w.ownsRow 0 e 1 v n xs)
    (sv : Value) (l : List Int) (hx : a.eval x = sv) (hl : IntsAt w sv l)
    (h63 : n + l.length ≤ maxLen) (hbytes : (n + l.length) * bytes ≤ 140737488355328)
    (h : ∀ v' w', w'.ownsRow 0 e 1 v' (n + l.length) (xs ++ l.map (Value.int .i64)) → Frm (fun k => v.ownBlock = some k) w w' → (v'.ownBlock = v.ownBlock ∨ ∀ g, v'.ownBlock = some g → w.heap.size ≤ g) → wpList P ops Q rest (a.put o.dst v') w') : wpList P ops Q (o :: rest) a w := by
  refine wpList_plain hgd fun _ hK => ?_
  obtain ⟨v', w', hr, h2, h3, h4⟩ := run_append_ints (P := P) t o.type e i z bytes ht hi hz hsize hby hzs v n xs hown sv l hl h63 hbytes
  unfold Oper.wp execOp
  simp only [ho, resolve, invoke, builtin, Sem.run_bind, Sem.run_pure, Result.andThen_ok, List.map_toArray, List.map_cons, List.map_nil, hs, hx, hr]
  exact hK _ _ (h v' w' h2 h3 h4)
end


theorem IntsAt.upto {w : World} {p : Option Addr} {c : Nat} {l : List Int} {j : Nat} (h : IntsAt w (.slice p l.length c) l) (hj : j ≤ l.length) : IntsAt w (.slice p j c) (l.take j) := by
  obtain ⟨p', c', he, hh⟩ := h
  simp only [Value.slice.injEq] at he
  obtain ⟨rfl, -, rfl⟩ := he
  have hl : (l.take j).length = j := by simp; omega
  refine ⟨p, c, by rw [hl], ?_⟩
  rw [hl]
  rcases Nat.eq_zero_or_pos j with h0 | h0
  · exact .inl h0
  · obtain ⟨b, off, rfl, hc⟩ := hh.resolve_left (by omega)
    refine .inr ⟨b, off, rfl, fun i hi => ?_⟩
    rw [hc i (by omega)]
    simp [hi]
theorem gones_add {G : List Nd} {l : List Nat} : gonesV (addG G l) = gonesV G ++ [.bool false] := by simp [gonesV, addG]
section
variable {B : Nat} {W w w' w4 w5 w6 : World} {va vg va' vg' v4 : Value} {G G' : List Nd} {N N' : List Value} {l : List Nat}
/-- A node more. -/
theorem Rw.add_at (h : Rw B w va vg G N) (hB : B ≤ w.heap.size) (hc : w.ownsRow 0 3 1 v4 l.length (ints l)) (hc2 : ∀ k, v4.ownBlock = some k → B ≤ k ∧ ¬ rOwn va vg N k)
    (ha : w6.ownsRow 0 31 1 va' (G.length + 1) (N ++ [v4])) (hg : w6.ownsRow 0 4 1 vg' (G.length + 1) (gonesV G ++ [.bool false]))
    (hf : Frm (fun k => va.ownBlock = some k ∨ vg.ownBlock = some k) w w6) (hva : va'.ownBlock = va.ownBlock ∨ ∀ k, va'.ownBlock = some k → w.heap.size ≤ k) (hvg : vg'.ownBlock = vg.ownBlock ∨ ∀ k, vg'.ownBlock = some k → w.heap.size ≤ k) :
    Rw B w6 va' vg' (addG G l) (N ++ [v4]) ∧ (∀ k, rOwn va' vg' (N ++ [v4]) k → rOwn va vg N k ∨ v4.ownBlock = some k ∨ w.heap.size ≤ k) := by
  have hl := h.len
  have hlen : (addG G l).length = G.length + 1 := by simp [addG]
  have hat : ∀ i, i < G.length → (N ++ [v4]).getD i nilS = N.getD i nilS := fun i hi => by
    rw [List.getD_eq_getElem?_getD, List.getElem?_append_left (by omega), ← List.getD_eq_getElem?_getD]
  have hself : (N ++ [v4]).getD G.length nilS = v4 := by
    rw [List.getD_eq_getElem?_getD, ← hl]
    simp
  have hA : ∀ k, va'.ownBlock = some k → B ≤ k := fun k hk => by
    rcases hva with h1 | h1
    · exact (h.ra.lt k (h1 ▸ hk)).1
    · have := h1 k hk; omega
  have hGg : ∀ k, vg'.ownBlock = some k → B ≤ k := fun k hk => by
    rcases hvg with h1 | h1
    · exact (h.rg.lt k (h1 ▸ hk)).1
    · have := h1 k hk; omega
  refine ⟨⟨?_, ?_, fun i hi => ?_, fun i j hi hj hij b hb => ?_⟩, fun k hk => ?_⟩
  · rw [hlen]; exact row_up ha hA
  · rw [hlen, gones_add]; exact row_up hg hGg
  · rw [hlen] at hi
    rcases Nat.lt_or_ge i G.length with k | k
    · rw [hat i k, show aft (addG G l) i = aft G i by unfold aft; rw [nd_add_old k]]
      exact hf.row (h.own i k) fun b hb e => e.elim (row_t_ne (h.own i k) h.ra (by decide) hb) (row_t_ne (h.own i k) h.rg (by decide) hb)
    · obtain rfl : i = G.length := by omega
      rw [hself, show aft (addG G l) G.length = l by unfold aft; rw [nd_add_new]]
      exact row_up (hf.row hc fun b hb e => (hc2 b hb).2 (e.elim .inl fun e => .inr (.inl e))) fun b hb => (hc2 b hb).1
  · rw [hlen] at hi hj
    rcases Nat.lt_or_ge i G.length with k | k
    · rw [hat i k] at hb
      rcases Nat.lt_or_ge j G.length with k2 | k2
      · rw [hat j k2]; exact h.apart i j k k2 hij b hb
      · obtain rfl : j = G.length := by omega
        rw [hself]
        exact fun hk => (hc2 b hk).2 (.inr (.inr ⟨i, by omega, hb⟩))
    · obtain rfl : i = G.length := by omega
      rw [hself] at hb
      have k2 : j < G.length := by omega
      rw [hat j k2]
      exact fun hk => (hc2 b hb).2 (.inr (.inr ⟨j, by omega, hk⟩))
  · rcases hk with hk | hk | ⟨i, hi, hk⟩
    · rcases hva with h1 | h1
      · exact .inl (.inl (h1 ▸ hk))
      · exact .inr (.inr (h1 k hk))
    · rcases hvg with h1 | h1
      · exact .inl (.inr (.inl (h1 ▸ hk)))
      · exact .inr (.inr (h1 k hk))
    · simp at hi
      rcases Nat.lt_or_ge i G.length with k2 | k2
      · rw [hat i k2] at hk
        exact .inl (.inr (.inr ⟨i, by omega, hk⟩))
      · obtain rfl : i = G.length := by omega
        rw [hself] at hk
        exact .inr (.inl hk)
end
end Go.Proofs.Ytggjimeligbmcab
