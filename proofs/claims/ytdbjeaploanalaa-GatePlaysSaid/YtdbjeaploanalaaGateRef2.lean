/-
  The document's own In, Add and Drop of package gate, by contract; append of a slice that may be empty. Conditions: at most a million numbers; the row is owned.
-/
import Derived.Test.YtdbjeaploanalaaGateRef
namespace Go.Proofs.Ytdbjeaploanalaa
open Go.RowKit
set_option linter.unusedVariables false

section
variable {P : Program} {w : World}
theorem run_append_none (t ty e : TypeId) (i : TypeInfo) (ht : P.underlying t = some (.slice e)) (hi : P.info? e = some i)
    (v : Value) (n : Nat) (xs : List Value) {base size : Nat} (hown : w.ownsRow base e size v n xs) (p : Option Addr) (c : Nat) :
    (Builtin.append_ #[t, t] ty #[v, .slice p 0 c]).run P w = .ok v w := by
  rcases hown.2 with ⟨rfl, rfl⟩ | ⟨g, cap, cur, rfl, _, _, hnc, _⟩
  · cases p <;> simp [Builtin.append_, run_underlying ht, sizeOf, typeInfo, hi, Builtin.lenOf, Builtin.firstCells, loadCells, loadCellsFrom]
  · cases p <;> simp [Builtin.append_, run_underlying ht, sizeOf, typeInfo, hi, Builtin.lenOf, Builtin.firstCells, hnc, storeCells, loadCells, loadCellsFrom]

theorem run_append_ints (t ty e : TypeId) (i : TypeInfo) (z : Value) (bytes : Nat) (ht : P.underlying t = some (.slice e)) (hi : P.info? e = some i) (hz : i.zero = some z)
    (hsize : i.size = 1) (hby : i.bytes = bytes) (hzs : z.cells.size = 1)
    (v : Value) (n : Nat) (xs : List Value) (hown : w.ownsRow 0 e 1 v n xs) (sv : Value) (l : List Int) (hs : IntsAt w sv l) (h63 : n + l.length ≤ maxLen) (hbytes : (n + l.length) * bytes ≤ 140737488355328) :
    ∃ v' w', (Builtin.append_ #[t, t] ty #[v, sv]).run P w = .ok v' w' ∧ w'.ownsRow 0 e 1 v' (n + l.length) (xs ++ l.map (Value.int .i64)) ∧ Frm (fun k => v.ownBlock = some k) w w' ∧
      (v'.ownBlock = v.ownBlock ∨ ∀ g, v'.ownBlock = some g → w.heap.size ≤ g) := by
  obtain ⟨p, c, rfl, h⟩ := hs
  rcases Nat.eq_zero_or_pos l.length with h0 | h0
  · obtain rfl : l = [] := List.eq_nil_of_length_eq_zero h0
    exact ⟨v, w, run_append_none t ty e i ht hi v n xs hown p c, by simpa using hown, Frm.refl _ _, .inl rfl⟩
  · rcases h with h | ⟨b, off, rfl, hc⟩
    · omega
    · refine run_append_row t ty e i z 1 bytes ht hi hz hsize hby hzs (by decide) v n xs hown ⟨b, off, none⟩ l.length c (l.map (Value.int .i64)) (by simp) ?_ ?_ h63 hbytes
      · intro j u hu
        have hj : j < l.length := by
          rcases Nat.lt_or_ge j l.length with k | k
          · exact k
          · simp [List.getElem?_eq_none k] at hu
        have e1 : (⟨b, off, none⟩ : Addr).add j = ⟨b, off + j, none⟩ := by unfold Addr.add; split <;> simp_all
        rw [e1, hc j hj]
        simp [List.getElem?_eq_getElem hj] at hu ⊢
        exact hu
      · intro u hu
        simp at hu
        obtain ⟨x, _, rfl⟩ := hu
        rfl

theorem wpList_append_ints {ops : Array Oper} {rest : List Oper} {o : Oper} {a : Act} {Q : Exit → Act → World → Prop} (hgd : o.guard = none) (s x : Operand) (t : TypeId)
    (ho : o.op = .call { callee := .builtin .append, args := #[s, x], argTypes := #[t, t] })
    (e : TypeId) (i : TypeInfo) (z : Value) (bytes : Nat) (ht : P.underlying t = some (.slice e)) (hi : P.info? e = some i) (hz : i.zero = some z)
    (hsize : i.size = 1) (hby : i.bytes = bytes) (hzs : z.cells.size = 1)
    (v : Value) (n : Nat) (xs : List Value) (hs : a.eval s = v) (hown : w.ownsRow 0 e 1 v n xs)
    (sv : Value) (l : List Int) (hx : a.eval x = sv) (hl : IntsAt w sv l)
    (h63 : n + l.length ≤ maxLen) (hbytes : (n + l.length) * bytes ≤ 140737488355328)
    (h : ∀ v' w', w'.ownsRow 0 e 1 v' (n + l.length) (xs ++ l.map (Value.int .i64)) → Frm (fun k => v.ownBlock = some k) w w' → (v'.ownBlock = v.ownBlock ∨ ∀ g, v'.ownBlock = some g → w.heap.size ≤ g) → wpList P ops Q rest (a.put o.dst v') w') : wpList P ops Q (o :: rest) a w := by
  refine wpList_plain hgd fun _ hK => ?_
  obtain ⟨v', w', hr, h2, h3, h4⟩ := run_append_ints (P := P) t o.type e i z bytes ht hi hz hsize hby hzs v n xs hown sv l hl h63 hbytes
  unfold Oper.wp execOp
  simp only [ho, resolve, invoke, builtin, Sem.run_bind, Sem.run_pure, Result.andThen_ok, List.map_toArray, List.map_cons, List.map_nil, hs, hx, hr]
  exact hK _ _ (h v' w' h2 h3 h4)
end

theorem nil_below {W w' : World} (hf : Frm (fun k => (Value.slice none 0 0).ownBlock = some k) W w') : Below W.heap.size W w' := hf.below (Nat.le_refl _) fun k hk => by simp [Value.ownBlock] at hk
theorem nil_low {W : World} {v : Value} (hv : v.ownBlock = (Value.slice none 0 0).ownBlock ∨ ∀ g, v.ownBlock = some g → W.heap.size ≤ g) : ∀ g, v.ownBlock = some g → W.heap.size ≤ g := by
  intro g hg
  rcases hv with hv | hv
  · rw [hv] at hg; simp [Value.ownBlock] at hg
  · exact hv g hg
theorem radd_end {W w w' : World} {v v' : Value} {n : Nat} {ids : List Int} {x : Int} {o : Obj} (_h : w.ownsRow 0 3 1 v n (ids.map (Value.int .i64))) (hb : Below W.heap.size W w) (hl : ∀ g, v.ownBlock = some g → W.heap.size ≤ g)
    (hown : w'.ownsRow 0 3 1 v' (n + 1) (ids.map (Value.int .i64) ++ [Value.int .i64 x])) (hf : Frm (fun k => v.ownBlock = some k) (w.alloc o) w') :
    w'.ownsRow 0 3 1 v' (n + 1) ((ids ++ [x]).map (Value.int .i64)) ∧ Below W.heap.size W w' := by
  refine ⟨by rw [List.map_append]; exact hown, (balloc hb o).trans (hf.below (balloc hb o).size fun k hk => hl k hk)⟩

set_option maxHeartbeats 1000000 in
set_option maxRecDepth 100000 in
theorem rin_yes {W : World} {u : Value} {l : List Int} (h : IntsAt W u l) {x : Int} {k : Nat} (hk : k < l.length) (h1 : l.getD k 0 = x) (h2 : ∀ j, j < k → l.getD j 0 ≠ x) (hbig : l.length ≤ 1000000) :
    Calls Try.prog 71 #[u, .int .i64 x] W fun e w' => e = .returned (.int .i64 k) ∧ W = w' := by
  obtain ⟨p, c, rfl, h⟩ := h
  have H := Lib.hid h
  have H1 := Lib.hid h1
  have H2 := Lib.hid h2
  clear h h1 h2
  generalize l.length = n at *
  go_enter Try.func71, Try.ntmps71
  go_wp2_with fail
  go_loopw [5] (fun i wl => ∃ j : Nat, j ≤ k ∧ i = .int .i64 j ∧ wl = W) (fun i _ => n - (intOf i).toNat)
  case atStart => exact ⟨0, by omega, rfl, rfl⟩
  case round =>
    obtain ⟨j, hj, rfl, rfl⟩ := hrel
    rcases H.out with h | ⟨b1, o1, rfl, hc⟩
    · omega
    have c1 := hc j (by omega)
    clear hc
    by_cases e : j = k
    · subst e
      rw [H1.out] at c1
      go_wp2
      go_ret
      exact ⟨rfl, rfl⟩
    · have hn := H2.out j (by omega)
      have hnb : (l.getD j 0 == x) = false := by simpa using hn
      clear hn
      generalize l.getD j 0 = y at *
      go_wp2
      exact ⟨⟨j + 1, by omega, by go_num, trivial⟩, by simp [intOf]; omega⟩
set_option maxHeartbeats 1000000 in
set_option maxRecDepth 100000 in
theorem rin_no {W : World} {u : Value} {l : List Int} (h : IntsAt W u l) {x : Int} (h2 : x ∉ l) (hbig : l.length ≤ 1000000) :
    Calls Try.prog 71 #[u, .int .i64 x] W fun e w' => e = .returned (.int .i64 (-1)) ∧ W = w' := by
  obtain ⟨p, c, rfl, h⟩ := h
  have H := Lib.hid h
  have H2 : Hid (∀ j, j < l.length → l.getD j 0 ≠ x) := fun j hj e => h2 (e ▸ by simp [List.getElem?_eq_getElem hj])
  clear h h2
  generalize l.length = n at *
  go_enter Try.func71, Try.ntmps71
  go_wp2_with fail
  go_loopw [5] (fun i wl => ∃ j : Nat, j ≤ n ∧ i = .int .i64 j ∧ wl = W) (fun i _ => n - (intOf i).toNat)
  case atStart => exact ⟨0, by omega, rfl, rfl⟩
  case round =>
    obtain ⟨j, hj, rfl, rfl⟩ := hrel
    by_cases hlt : j < n
    · rcases H.out with h | ⟨b1, o1, rfl, hc⟩
      · omega
      have c1 := hc j hlt
      clear hc
      have hn := H2.out j (by omega)
      have hnb : (l.getD j 0 == x) = false := by simpa using hn
      clear hn
      generalize l.getD j 0 = y at *
      go_wp2
      exact ⟨⟨j + 1, by omega, by go_num, trivial⟩, by simp [intOf]; omega⟩
    · go_wp2
      go_ret
      exact ⟨rfl, rfl⟩

/-- An answer of the document's: the numbers, in a row; only new memory. -/
def RefRow (W w' : World) (v : Value) (n : Nat) (ids : List Int) : Prop := w'.ownsRow 0 3 1 v n (ids.map (Value.int .i64)) ∧ Below W.heap.size W w'
theorem row_ints {w : World} {B : Nat} {v : Value} {n : Nat} {ids : List Int} (h : w.ownsRow B 3 1 v n (ids.map (Value.int .i64))) : IntsAt w v ids := by
  obtain ⟨p, c, rfl, _⟩ := row_form h
  exact IntsAt.of_row h

set_option maxHeartbeats 1000000 in
set_option maxRecDepth 100000 in
theorem radd_ok {W : World} {v : Value} {n : Nat} {ids : List Int} (h : W.ownsRow 0 3 1 v n (ids.map (Value.int .i64))) (id : Int) (hb : addBad ids id = 0) :
    Calls Try.prog 41 #[v, .int .i64 id] W fun e w' => ∃ v', e = .returned (.tuple #[v', .int .i64 0]) ∧ RefRow W w' v' (n + 1) (ids ++ [id]) := by
  have hn : ids.length = n := by have := h.1; simpa using this
  unfold addBad at hb
  by_cases h1 : id < 0 ∨ 2097152 ≤ id
  · rw [if_pos h1] at hb; omega
  rw [if_neg h1] at hb
  by_cases h2 : id ∈ ids
  · rw [if_pos h2] at hb; omega
  rw [if_neg h2] at hb
  by_cases h3 : 32 ≤ ids.length
  · rw [if_pos h3] at hb; omega
  clear hb
  have HI := Lib.hid (row_ints h)
  have H2 := Lib.hid h2
  have H := Lib.hid h
  obtain ⟨p, c, rfl, _⟩ := row_form h
  have g1 : ¬ id < 0 := by omega
  have g2 : ¬ (2097152 : Int) ≤ id := by omega
  have g3 : decide ((32 : Int) ≤ (n : Int)) = false := decide_eq_false (by omega)
  have HN := Lib.hid hn
  have hn32 : n < 32 := by omega
  clear h h2 h1 h3 hn
  obtain ⟨j0, ji, jz0, jz1, jz2⟩ := info_parts infoI
  go_enter Try.func41, Try.ntmps41
  go_wp2_with (first
    | (go_at_call 71; refine (rin_no HI.out H2.out (by rw [HN.out]; omega)).mono ?_; rintro e w1 ⟨rfl, rfl⟩)
    | (at_builtin; refine wpList_append_row rfl _ _ 65 rfl 3 j0 (.int .i64 0) 1 8 Try.underlying65 ji jz0 jz1 jz2 rfl (by decide) (.slice p2 n c2) n _ rfl (HO2.out.alloc _) ⟨w2.heap.size, 0, none⟩ 1 1 [.int .i64 id] rfl rfl (one_cell _ _ _) (fun x hx => by simp at hx; subst hx; rfl) (by unfold maxLen; omega) (by omega) ?_; intro v3 w3 hown hf hv; have HE := Lib.hid (radd_end HO2.out HB2.out HL2.out hown hf); obtain ⟨p3, c3, rfl, _⟩ := row_form hown; clear hown hf hv)
    | (at_builtin; refine wpList_append_ints rfl _ _ 65 rfl 3 j0 (.int .i64 0) 8 Try.underlying65 ji jz0 jz1 jz2 rfl (.slice none 0 0) 0 [] rfl (World.ownsRow_nil _ _ _ _) (.slice p n c) ids rfl HI.out (by rw [HN.out]; unfold maxLen; omega) (by rw [HN.out]; omega) ?_; intro v2 w2 hown hf hv; rw [HN.out, Nat.zero_add, List.nil_append] at hown; have HB2 := Lib.hid (nil_below hf); have HL2 := Lib.hid (nil_low hv); have HO2 := Lib.hid hown; obtain ⟨p2, c2, rfl, _⟩ := row_form hown; clear hown hf hv))
  go_ret2
  exact ⟨_, rfl, HE.out⟩

set_option maxHeartbeats 1000000 in
set_option maxRecDepth 100000 in
theorem radd_bad {W : World} {v : Value} {n : Nat} {ids : List Int} (h : W.ownsRow 0 3 1 v n (ids.map (Value.int .i64))) (hl : ids.length ≤ 32) (id : Int) (hb : addBad ids id ≠ 0) :
    Calls Try.prog 41 #[v, .int .i64 id] W fun e w' => e = .returned (.tuple #[v, .int .i64 (addBad ids id)]) ∧ W = w' := by
  have hn : ids.length = n := by have := h.1; simpa using this
  have HI := Lib.hid (row_ints h)
  have HN := Lib.hid hn
  obtain ⟨p, c, rfl, _⟩ := row_form h
  unfold addBad at hb ⊢
  by_cases h1 : id < 0 ∨ 2097152 ≤ id
  · simp only [if_pos h1]
    clear h hb hn
    rcases h1 with h1 | h1
    · go_enter Try.func41, Try.ntmps41
      go_wp2_with fail
      go_ret2
      exact ⟨rfl, rfl⟩
    · have g1 : ¬ id < 0 := by omega
      go_enter Try.func41, Try.ntmps41
      go_wp2_with fail
      go_ret2
      exact ⟨rfl, rfl⟩
  simp only [if_neg h1] at hb ⊢
  have g1 : ¬ id < 0 := by omega
  have g2 : ¬ (2097152 : Int) ≤ id := by omega
  by_cases h2 : id ∈ ids
  · simp only [if_pos h2]
    obtain ⟨k, hk, h3, h4⟩ := first_at h2
    have HK := Lib.hid hk
    have H3 := Lib.hid h3
    have H4 := Lib.hid h4
    clear h hb hn h1 h2 hk h3 h4
    go_enter Try.func41, Try.ntmps41
    go_wp2_with (go_at_call 71; refine (rin_yes HI.out HK.out H3.out H4.out (by omega)).mono ?_; rintro e w1 ⟨rfl, rfl⟩)
    go_ret2
    exact ⟨rfl, rfl⟩
  simp only [if_neg h2] at hb ⊢
  by_cases h3 : 32 ≤ ids.length
  · simp only [if_pos h3]
    have H2 := Lib.hid h2
    have g3 : decide ((32 : Int) ≤ (n : Int)) = true := decide_eq_true (by omega)
    clear h hb hn h1 h2 h3
    go_enter Try.func41, Try.ntmps41
    go_wp2_with (go_at_call 71; refine (rin_no HI.out H2.out (by omega)).mono ?_; rintro e w1 ⟨rfl, rfl⟩)
    go_ret2
    exact ⟨rfl, rfl⟩
  · rw [if_neg h3] at hb
    exact absurd rfl hb

theorem radd_any {W : World} {v : Value} {n : Nat} {ids : List Int} (h : W.ownsRow 0 3 1 v n (ids.map (Value.int .i64))) (hl : ids.length ≤ 32) (id : Int) :
    Calls Try.prog 41 #[v, .int .i64 id] W fun e w' => ∃ v' k, e = .returned (.tuple #[v', .int .i64 (addBad ids id)]) ∧ RefRow W w' v' k (addIds ids id) := by
  by_cases hb : addBad ids id = 0
  · refine (radd_ok h id hb).mono ?_
    rintro e w' ⟨v', rfl, hr⟩
    exact ⟨v', n + 1, by rw [hb], by simpa [addIds, hb] using hr⟩
  · refine (radd_bad h hl id hb).mono ?_
    rintro e w' ⟨rfl, rfl⟩
    have e : addIds ids id = ids := by simp [addIds, hb]
    exact ⟨v, n, rfl, by rw [e]; exact ⟨h, Below.refl _ _⟩⟩

/-- A part of a row. -/
theorem ints_head {w : World} {l : List Int} {p : Option Addr} {n c k : Nat} (h : IntsAt w (.slice p n c) l) (hk : k ≤ l.length) : IntsAt w (.slice p k c) (l.take k) := by
  obtain ⟨p', c', hs, h⟩ := h
  simp at hs
  obtain ⟨rfl, hn, rfl⟩ := hs
  have hl : (l.take k).length = k := by simp; omega
  refine ⟨p, c, by rw [hl], ?_⟩
  rcases Nat.eq_zero_or_pos k with h0 | h0
  · exact .inl (by omega)
  · rcases h with h | ⟨b, off, rfl, hc⟩
    · omega
    · refine .inr ⟨b, off, rfl, fun j hj => ?_⟩
      rw [hl] at hj
      rw [hc j (by omega)]
      simp [hj]
theorem ints_tail {w : World} {l : List Int} {b off n c k c' : Nat} (h : IntsAt w (.slice (some ⟨b, off, none⟩) n c) l) (hk : k ≤ l.length) : IntsAt w (.slice (some ⟨b, off + k, none⟩) (n - k) c') (l.drop k) := by
  obtain ⟨p', c'', hs, h⟩ := h
  simp at hs
  obtain ⟨rfl, hn, rfl⟩ := hs
  subst hn
  have hl : (l.drop k).length = l.length - k := by simp
  refine ⟨_, c', by rw [hl], ?_⟩
  rcases h with h | ⟨b', off', he, hc⟩
  · exact .inl (by omega)
  · simp at he
    obtain ⟨rfl, rfl⟩ := he
    refine .inr ⟨b, off + k, rfl, fun j hj => ?_⟩
    rw [hl] at hj
    have := hc (k + j) (by omega)
    rw [Nat.add_assoc, this]
    simp

theorem rdrop_end {W w w' : World} {v v' : Value} {n k : Nat} {ids : List Int} (hn : ids.length = n) (hk : (ids.take k).length = k) (hb : Below W.heap.size W w) (hl : ∀ g, v.ownBlock = some g → W.heap.size ≤ g)
    {m : Nat} (hown : w'.ownsRow 0 3 1 v' m ((ids.take k).map (Value.int .i64) ++ (ids.drop (k + 1)).map (Value.int .i64))) (hf : Frm (fun q => v.ownBlock = some q) w w') :
    RefRow W w' v' m (dropAt ids k) :=
  ⟨by rw [dropAt, List.map_append]; exact hown, hb.trans (hf.below hb.size fun q hq => hl q hq)⟩

set_option maxHeartbeats 1000000 in
set_option maxRecDepth 100000 in
theorem rdrop_no {W : World} {v : Value} {n : Nat} {ids : List Int} (h : W.ownsRow 0 3 1 v n (ids.map (Value.int .i64))) (hl : ids.length ≤ 32) (id : Int) (hb : id ∉ ids) :
    Calls Try.prog 39 #[v, .int .i64 id] W fun e w' => e = .returned (.tuple #[v, .int .i64 3]) ∧ W = w' := by
  have HI := Lib.hid (row_ints h)
  have HB := Lib.hid hb
  obtain ⟨p, c, rfl, _⟩ := row_form h
  clear h hb
  go_enter Try.func39, Try.ntmps39
  go_wp2_with (go_at_call 71; refine (rin_no HI.out HB.out (by omega)).mono ?_; rintro e w1 ⟨rfl, rfl⟩)
  go_ret2
  exact ⟨rfl, rfl⟩

set_option maxHeartbeats 1000000 in
set_option maxRecDepth 100000 in
theorem rdrop_ok {W : World} {v : Value} {n : Nat} {ids : List Int} (h : W.ownsRow 0 3 1 v n (ids.map (Value.int .i64))) (hl : ids.length ≤ 32) (id : Int) {k : Nat} (hk : k < ids.length) (h1 : ids.getD k 0 = id) (h2 : ∀ j, j < k → ids.getD j 0 ≠ id) :
    Calls Try.prog 39 #[v, .int .i64 id] W fun e w' => ∃ v' q, e = .returned (.tuple #[v', .int .i64 0]) ∧ RefRow W w' v' q (dropAt ids k) := by
  have hn : ids.length = n := by have := h.1; simpa using this
  have HI := Lib.hid (row_ints h)
  have HN := Lib.hid hn
  obtain ⟨g, c, rfl, hnc, hcm⟩ := row_some h (by omega)
  have HK := Lib.hid hk
  have H1 := Lib.hid h1
  have H2 := Lib.hid h2
  have hkn : k < n := by omega
  have hc32 : n ≤ 32 := by omega
  clear h hk h1 h2 hl hn
  obtain ⟨j0, ji, jz0, jz1, jz2⟩ := info_parts infoI
  have HTK : Hid ((ids.take k).length = k) := Lib.hid (by rw [List.length_take]; have := HK.out; omega)
  have HDL : Hid ((ids.drop (k + 1)).length = n - (k + 1)) := Lib.hid (by rw [List.length_drop, HN.out])
  by_cases hcut : k + 1 = c
  · have HT : Hid (∀ w, Below W.heap.size W w → IntsAt w (.slice (some ⟨g, 0, none⟩) 0 0) (ids.drop (k + 1))) := fun w hb => ⟨_, 0, by rw [HDL.out, show n - (k + 1) = 0 by omega], .inl (by rw [HDL.out]; omega)⟩
    subst hcut
    obtain rfl : n = k + 1 := by omega
    clear hcm
    go_enter Try.func39, Try.ntmps39
    go_wp2_with (first
      | (go_at_call 71; refine (rin_yes HI.out HK.out H1.out H2.out (by rw [HN.out]; omega)).mono ?_; rintro e w1 ⟨rfl, rfl⟩)
      | (at_builtin; refine wpList_append_ints rfl _ _ 65 rfl 3 j0 (.int .i64 0) 8 Try.underlying65 ji jz0 jz1 jz2 rfl (.slice p2 k c2) k _ rfl HO2.out (.slice (some ⟨g, 0, none⟩) 0 0) (ids.drop (k + 1)) rfl (HT.out w2 HB2.out) (by rw [HDL.out]; unfold maxLen; omega) (by rw [HDL.out]; omega) ?_; intro v3 w3 hown hf hv; rw [HDL.out, show k + (k + 1 - (k + 1)) = k by omega] at hown; have HE := Lib.hid (rdrop_end HN.out HTK.out HB2.out HL2.out hown hf); obtain ⟨p3, c3, rfl, _⟩ := row_form hown; clear hown hf hv)
      | (at_builtin; refine wpList_append_ints rfl _ _ 65 rfl 3 j0 (.int .i64 0) 8 Try.underlying65 ji jz0 jz1 jz2 rfl (.slice none 0 0) 0 [] rfl (World.ownsRow_nil _ _ _ _) (.slice (some ⟨g, 0, none⟩) k (k + 1)) (ids.take k) rfl (ints_head HI.out (by have := HK.out; omega)) (by rw [HTK.out]; unfold maxLen; omega) (by rw [HTK.out]; omega) ?_; intro v2 w2 hown hf hv; rw [HTK.out, Nat.zero_add, List.nil_append] at hown; have HB2 := Lib.hid (nil_below hf); have HL2 := Lib.hid (nil_low hv); have HO2 := Lib.hid hown; obtain ⟨p2, c2, rfl, _⟩ := row_form hown; clear hown hf hv))
    go_ret2
    exact ⟨_, _, rfl, HE.out⟩
  · have HT : Hid (∀ w, Below W.heap.size W w → IntsAt w (.slice (some ⟨g, k + 1, none⟩) (n - (k + 1)) (c - (k + 1))) (ids.drop (k + 1))) := fun w hb => by
      have := ints_tail (c' := c - (k + 1)) (HI.out.keep hb) (k := k + 1) (by have := HK.out; omega)
      rwa [Nat.zero_add] at this
    have hc1 : k + 1 ≤ c := by omega
    have hc2 : ¬ c = k + 1 := by omega
    have hn1 : k + 1 ≤ n := by omega
    clear hcm
    go_enter Try.func39, Try.ntmps39
    go_wp2_with (first
      | (go_at_call 71; refine (rin_yes HI.out HK.out H1.out H2.out (by rw [HN.out]; omega)).mono ?_; rintro e w1 ⟨rfl, rfl⟩)
      | (at_builtin; refine wpList_append_ints rfl _ _ 65 rfl 3 j0 (.int .i64 0) 8 Try.underlying65 ji jz0 jz1 jz2 rfl (.slice p2 k c2) k _ rfl HO2.out (.slice (some ⟨g, k + 1, none⟩) (n - (k + 1)) (c - (k + 1))) (ids.drop (k + 1)) rfl (HT.out w2 HB2.out) (by rw [HDL.out]; unfold maxLen; omega) (by rw [HDL.out]; omega) ?_; intro v3 w3 hown hf hv; rw [HDL.out, show k + (n - (k + 1)) = n - 1 by omega] at hown; have HE := Lib.hid (rdrop_end HN.out HTK.out HB2.out HL2.out hown hf); obtain ⟨p3, c3, rfl, _⟩ := row_form hown; clear hown hf hv)
      | (at_builtin; refine wpList_append_ints rfl _ _ 65 rfl 3 j0 (.int .i64 0) 8 Try.underlying65 ji jz0 jz1 jz2 rfl (.slice none 0 0) 0 [] rfl (World.ownsRow_nil _ _ _ _) (.slice (some ⟨g, 0, none⟩) k c) (ids.take k) rfl (ints_head HI.out (by have := HK.out; omega)) (by rw [HTK.out]; unfold maxLen; omega) (by rw [HTK.out]; omega) ?_; intro v2 w2 hown hf hv; rw [HTK.out, Nat.zero_add, List.nil_append] at hown; have HB2 := Lib.hid (nil_below hf); have HL2 := Lib.hid (nil_low hv); have HO2 := Lib.hid hown; obtain ⟨p2, c2, rfl, _⟩ := row_form hown; clear hown hf hv))
    go_ret2
    exact ⟨_, _, rfl, HE.out⟩

theorem rdrop_any {W : World} {v : Value} {n : Nat} {ids : List Int} (h : W.ownsRow 0 3 1 v n (ids.map (Value.int .i64))) (hl : ids.length ≤ 32) (id : Int) :
    Calls Try.prog 39 #[v, .int .i64 id] W fun e w' => ∃ v' k, e = .returned (.tuple #[v', .int .i64 (dropBad ids id)]) ∧ RefRow W w' v' k (dropIds ids id) := by
  unfold dropIds dropBad
  by_cases hb : id ∈ ids
  · obtain ⟨k, hk, h1, h2⟩ := first_at hb
    simp only [if_pos hb]
    refine (rdrop_ok h hl id hk h1 h2).mono ?_
    rintro e w' ⟨v', q, rfl, hr⟩
    rw [idx_first hk h1 h2]
    exact ⟨v', q, rfl, hr⟩
  · simp only [if_neg hb]
    refine (rdrop_no h hl id hb).mono ?_
    rintro e w' ⟨rfl, rfl⟩
    exact ⟨v, n, rfl, h, Below.refl _ _⟩
end Go.Proofs.Ytdbjeaploanalaa
