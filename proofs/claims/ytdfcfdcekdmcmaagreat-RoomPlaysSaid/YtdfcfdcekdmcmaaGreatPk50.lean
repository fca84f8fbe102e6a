/-
  A region that draws its order, walked by what is listed: operations under a guard, by what the guard's slot has. Nothing here speaks of a program.
  A region that draws its order, with calls in one forced order among loads in any: what is known on the way, where one call makes a row that the next one reads. Nothing here speaks of a program.
  Alike's second loop: the region that holds both sides' rings against each other, by what is listed. Conditions: those that the theorem names.
  Alike's second loop: its region, in whatever order. Conditions: those that the theorem names.
  What Alike's second region asks of both sides, of a room and of the document's world side by side. Conditions: those that the theorem names.
  RoomPlays' walk, with Alike's contract as a condition. Conditions: the operations lie as they are read; Alike's contract.
  Alike by contract: the clock, the actors, the lists and the sequencers of both sides are alike. Conditions: the state's.
-/
import Derived.Test.YtdfcfdcekdmcmaaGreatPk02
import Derived.Test.YtdfcfdcekdmcmaaGreatPk20
import Derived.Test.YtdfcfdcekdmcmaaGreatPk49
set_option linter.unusedVariables false
set_option linter.unusedSimpArgs false
namespace Go.Proofs.YtdfcfdcekdmcmaaGreat
open Go.RowKit
set_option linter.unusedVariables false
set_option linter.unusedSimpArgs false
section
variable {P : Program} {ops : Array Oper} {Q : Exit → Act → World → Prop} {D : Nat → Option Tmp} {a0 : Act} {n : Nat} {M : Array Bool → (Nat → Value) → World → Prop}
theorem wanted_of {o : Oper} {a : Act} {k : Nat} {b : Bool} {t : Tmp} {ok : Oper} (hg : o.guard = some (k, b)) (hk : ops[k]? = some ok) (ht : ok.dst = some t) (hv : a.tmps[t]? = some (.bool b)) : Region.wanted o (yielded ops a.tmps) = true := by
  unfold Region.wanted yielded
  simp only [hg, hk, Option.bind_some, ht]
  rw [hv]
  simp
theorem op_valg {K : Act → World → Prop} {i : Nat} {o : Oper} {a : Act} {w w' : World} {v : Value} (ho : ops[i]? = some o) (hw : Region.wanted o (yielded ops a.tmps) = true) (hr : (execOp a.eval o).run P w = .ok (.value v) w') (hK : K (a.put o.dst v) w') : wpOp P ops Q i K a w := by
  unfold wpOp
  simp only [ho]
  rw [if_pos hw]
  refine .inl ?_
  unfold Oper.wp
  rw [hr]
  exact hK
theorem act_valg {i : Nat} {o : Oper} {s : Array Bool} {V : Nat → Value} {w w' : World} {v : Value} (hD : DD D n) (ho : ops[i]? = some o) (hd : o.dst = D i) (hw : Region.wanted o (yielded ops (actOf D V s a0 n).tmps) = true) (hi : i < n) (hs : s.getD i true = false)
    (hr : (execOp (actOf D V s a0 n).eval o).run P w = .ok (.value v) w') (hM : M (s.setIfInBounds i true) (upd V i v) w') :
    wpOp P ops Q i (fun a' w' => ActInv D a0 n M (s.setIfInBounds i true) a' w') (actOf D V s a0 n) w :=
  op_valg ho hw hr ⟨_, by rw [hd]; exact actOf_put n hD hi hs v, hM⟩
theorem act_callg {i : Nat} {o : Oper} {s : Array Bool} {V : Nat → Value} {w : World} (hD : DD D n) (ho : ops[i]? = some o) (hd : o.dst = D i) (hw : Region.wanted o (yielded ops (actOf D V s a0 n).tmps) = true) (hi : i < n) (hs : s.getD i true = false)
    (f : FuncId) (xs : Array Operand) (ts : Array TypeId) (hop : o.op = .call { callee := .value (.func f), args := xs, argTypes := ts }) (vs : Array Value) (hx : xs.map (actOf D V s a0 n).eval = vs) (hf : (callFunc f vs).run P w = .ok (.enter f vs) w)
    (hc : Calls P f vs w fun e w' => ∃ v, e = .returned v ∧ M (s.setIfInBounds i true) (upd V i v) w') :
    wpOp P ops Q i (fun a' w' => ActInv D a0 n M (s.setIfInBounds i true) a' w') (actOf D V s a0 n) w := by
  unfold wpOp
  simp only [ho]
  rw [if_pos hw]
  refine .inl ?_
  unfold Oper.wp
  have hx2 : xs.map (fun x => (actOf D V s a0 n).eval x) = vs := hx
  have e1 : (execOp (actOf D V s a0 n).eval o).run P w = .ok (.enter f vs) w := by
    unfold execOp
    simp [hop, resolve, invoke, Act.eval, hx2, go_sem]
    exact hf
  rw [e1, Oper.upon_enter]
  refine hc.mono ?_
  rintro e w' ⟨v, rfl, hM⟩
  exact ⟨_, by rw [hd]; exact actOf_put n hD hi hs v, hM⟩
end
section
variable {P : Program} {op : Oper} {a : Act} {w : World} {v : Value}
theorem ex_pick (x : Operand) (y z : Operand) (ho : op.op = .pick x y z) {b : Bool} (hx : a.eval x = .bool b) (hy : a.eval (if b then y else z) = v) : (execOp a.eval op).run P w = .ok (.value v) w := by
  unfold execOp
  cases b <;> simp_all [go_sem]
end
end Go.Proofs.YtdfcfdcekdmcmaaGreat
namespace Go.Proofs.YtdfcfdcekdmcmaaGreat
open Go.RowKit
set_option linter.unusedVariables false
set_option linter.unusedSimpArgs false
theorem set_monoA {s : Array Bool} {i : Nat} (k : Nat) (h : s.getD i true = true) : (s.setIfInBounds k true).getD i true = true := by
  by_cases e : k = i
  · subst e; exact set_self _ _
  · rw [getD_set_ne true e]; exact h
structure MAl (n : Nat) (cl : List Nat) (wi si : Nat) (vs : List Value) (wA : World) (Rw : Value → World → Prop) (s : Array Bool) (V : Nat → Value) (w : World) : Prop where
  p : ∀ k, k < n → k ≠ wi → s.getD k true = true → V k = vs.getD k undef
  b : Below wA.heap.size wA w
  o : ∀ m, m + 1 < cl.length → s.getD (cl.getD (m + 1) 0) true = true → s.getD (cl.getD m 0) true = true
  q : s.getD wi true = true → s.getD si true = false → Rw (V wi) w
section
variable {n : Nat} {cl : List Nat} {wi si k m c : Nat} {vs : List Value} {wA : World} {Rw : Value → World → Prop} {s : Array Bool} {V : Nat → Value} {w w' : World} {v : Value}
theorem getD_injA {l : List Nat} (h : l.Nodup) {i j : Nat} (hi : i < l.length) (hj : j < l.length) (e : l.getD i 0 = l.getD j 0) : i = j := by
  rw [List.getD_eq_getElem?_getD, List.getD_eq_getElem?_getD, List.getElem?_eq_getElem hi, List.getElem?_eq_getElem hj] at e
  have e2 : l[i] = l[j] := by simpa using e
  have hp := List.pairwise_iff_getElem.1 h
  rcases Nat.lt_trichotomy i j with hlt | rfl | hlt
  · exact absurd e2 (hp i j hi hj hlt)
  · rfl
  · exact absurd e2.symm (hp j i hj hi hlt)
theorem getD_memA {l : List Nat} {i : Nat} (hi : i < l.length) : l.getD i 0 ∈ l := by
  rw [List.getD_eq_getElem?_getD, List.getElem?_eq_getElem hi]
  exact List.getElem_mem hi
theorem MAl.prev (h : MAl n cl wi si vs wA Rw s V w) : ∀ m, m < cl.length → s.getD (cl.getD m 0) true = true → ∀ j, j ≤ m → s.getD (cl.getD j 0) true = true := by
  intro m
  induction m with
  | zero =>
    intro _ hs j hj
    obtain rfl : j = 0 := by omega
    exact hs
  | succ m ih =>
    intro hm hs j hj
    by_cases e : j = m + 1
    · subst e; exact hs
    · exact ih (by omega) (h.o m hm hs) j (by omega)
theorem MAl.pure (h : MAl n cl wi si vs wA Rw s V w) (hk : k ∉ cl) (hw : wi ∈ cl) (hs : si ∈ cl) (hv : v = vs.getD k undef) : MAl n cl wi si vs wA Rw (s.setIfInBounds k true) (upd V k v) w := by
  have e1 : k ≠ wi := fun e => hk (e ▸ hw)
  have e2 : k ≠ si := fun e => hk (e ▸ hs)
  refine ⟨fun j hj hjw hjs => ?_, h.b, fun m hm hs => ?_, fun q1 q2 => ?_⟩
  · by_cases e : j = k
    · subst e
      rw [upd_self]
      exact hv
    · rw [upd_ne _ e]
      rw [getD_set_ne true (Ne.symm e)] at hjs
      exact h.p j hj hjw hjs
  · rw [getD_set_ne true (fun e => hk (by rw [e]; exact getD_memA hm))] at hs
    exact set_monoA k (h.o m hm hs)
  · rw [getD_set_ne true e1] at q1
    rw [getD_set_ne true e2] at q2
    rw [upd_ne _ (Ne.symm e1)]
    exact h.q q1 q2
theorem MAl.chain (h : MAl n cl wi si vs wA Rw s V w) (hn : cl.Nodup) (hm : m < cl.length) (hp : m = 0 ∨ s.getD (cl.getD (m - 1) 0) true = true) : ∀ j, j + 1 < cl.length → (s.setIfInBounds (cl.getD m 0) true).getD (cl.getD (j + 1) 0) true = true → (s.setIfInBounds (cl.getD m 0) true).getD (cl.getD j 0) true = true := by
  intro j hj hs
  by_cases e : j + 1 = m
  · subst e
    exact set_monoA _ (hp.resolve_left (by omega))
  · rw [getD_set_ne true (fun h => e (getD_injA hn hm hj h).symm)] at hs
    exact set_monoA _ (h.o j hj hs)
theorem MAl.call (h : MAl n cl wi si vs wA Rw s V w) (m mw : Nat) (hn : cl.Nodup) (hc : cl.getD m 0 = c) (hw : cl.getD mw 0 = wi) (hlt : m < mw ∧ mw < cl.length) (hp : m = 0 ∨ s.getD (cl.getD (m - 1) 0) true = true) (hu : s.getD c true = false) (hv : v = vs.getD c undef) (hb : Below w.heap.size w w') : MAl n cl wi si vs wA Rw (s.setIfInBounds c true) (upd V c v) w' := by
  have hcw : c ≠ wi := fun e => by
    rw [← hc, ← hw] at e
    have := getD_injA hn (by omega) hlt.2 e
    omega
  refine ⟨fun j hj hjw hjs => ?_, bthen h.b hb, ?_, fun q1 q2 => ?_⟩
  · by_cases e : j = c
    · subst e
      rw [upd_self]
      exact hv
    · rw [upd_ne _ e]
      rw [getD_set_ne true (Ne.symm e)] at hjs
      exact h.p j hj hjw hjs
  · rw [← hc]
    exact h.chain hn (by omega) hp
  · rw [getD_set_ne true hcw, ← hw] at q1
    have := h.prev mw hlt.2 q1 m (by omega)
    rw [hc, hu] at this
    cases this
theorem MAl.callW (h : MAl n cl wi si vs wA Rw s V w) (m : Nat) (hn : cl.Nodup) (hc : cl.getD m 0 = wi) (hlt : m < cl.length) (hp : m = 0 ∨ s.getD (cl.getD (m - 1) 0) true = true) (hR : Rw v w') (hb : Below w.heap.size w w') : MAl n cl wi si vs wA Rw (s.setIfInBounds wi true) (upd V wi v) w' := by
  refine ⟨fun j hj hjw hjs => ?_, bthen h.b hb, ?_, fun q1 q2 => ?_⟩
  · rw [upd_ne _ hjw]
    rw [getD_set_ne true (Ne.symm hjw)] at hjs
    exact h.p j hj hjw hjs
  · rw [← hc]
    exact h.chain hn (by omega) hp
  · rw [upd_self]
    exact hR
theorem MAl.callS (h : MAl n cl wi si vs wA Rw s V w) (m : Nat) (hn : cl.Nodup) (hc : cl.getD m 0 = si) (hlt : m < cl.length) (hp : m = 0 ∨ s.getD (cl.getD (m - 1) 0) true = true) (hne : si ≠ wi) (hv : v = vs.getD si undef) (hb : Below w.heap.size w w') : MAl n cl wi si vs wA Rw (s.setIfInBounds si true) (upd V si v) w' := by
  refine ⟨fun j hj hjw hjs => ?_, bthen h.b hb, ?_, fun q1 q2 => ?_⟩
  · by_cases e : j = si
    · subst e
      rw [upd_self]
      exact hv
    · rw [upd_ne _ e]
      rw [getD_set_ne true (Ne.symm e)] at hjs
      exact h.p j hj hjw hjs
  · rw [← hc]
    exact h.chain hn (by omega) hp
  · rw [set_self] at q2
    cases q2
end
end Go.Proofs.YtdfcfdcekdmcmaaGreat
namespace Go.Proofs.YtdfcfdcekdmcmaaGreat
open Go.RowKit
set_option linter.unusedVariables false
set_option linter.unusedSimpArgs false
def rg13 : List Oper :=
  [{ dst := some 115, op := Op.move (Operand.tmp 8), type := 38, pos := "law.go:88", after := #[], guard := none },
  { dst := some 116, op := Op.binOp BinOp.neq 38 (Operand.tmp 115) (Operand.const Value.nilIface) 38, type := 4, pos := "law.go:88", after := #[{ on := 0, ground := Ground.data }], guard := none },
  { dst := some 117, op := Op.move (Operand.tmp 116), type := 4, pos := "law.go:88", after := #[{ on := 1, ground := Ground.data }], guard := none },
  { dst := some 118, op := Op.move (Operand.tmp 7), type := 2, pos := "law.go:88", after := #[{ on := 2, ground := Ground.guard }], guard := some (2, false) },
  { dst := some 119, op := Op.move (Operand.tmp 1), type := 27, pos := "law.go:88", after := #[{ on := 2, ground := Ground.guard }], guard := some (2, false) },
  { dst := some 120, op := Op.move (Operand.tmp 6), type := 3, pos := "law.go:88", after := #[{ on := 2, ground := Ground.guard }], guard := some (2, false) },
  { dst := some 121, op := Op.call { callee := Callee.value (Operand.func 68), args := #[Operand.tmp 119, Operand.tmp 120], argTypes := #[27, 3] }, type := 2, pos := "law.go:88", after := #[{ on := 4, ground := Ground.data }, { on := 5, ground := Ground.data }, { on := 2, ground := Ground.chain }, { on := 2, ground := Ground.guard }], guard := some (2, false) },
  { dst := some 122, op := Op.binOp BinOp.neq 2 (Operand.tmp 118) (Operand.tmp 121) 2, type := 4, pos := "law.go:88", after := #[{ on := 3, ground := Ground.data }, { on := 6, ground := Ground.data }, { on := 2, ground := Ground.guard }], guard := some (2, false) },
  { dst := some 123, op := Op.pick (Operand.tmp 117) (Operand.const (Value.bool true)) (Operand.tmp 122), type := 4, pos := "law.go:88", after := #[{ on := 2, ground := Ground.data }, { on := 7, ground := Ground.data }], guard := none },
  { dst := some 124, op := Op.move (Operand.tmp 123), type := 4, pos := "law.go:88", after := #[{ on := 8, ground := Ground.data }, { on := 6, ground := Ground.chain }], guard := none },
  { dst := some 125, op := Op.move (Operand.tmp 0), type := 25, pos := "law.go:88", after := #[{ on := 9, ground := Ground.guard }], guard := some (9, false) },
  { dst := some 126, op := Op.move (Operand.tmp 6), type := 3, pos := "law.go:88", after := #[{ on := 9, ground := Ground.guard }], guard := some (9, false) },
  { dst := some 127, op := Op.call { callee := Callee.value (Operand.func 31), args := #[Operand.tmp 125, Operand.tmp 126], argTypes := #[25, 3] }, type := 4, pos := "law.go:88", after := #[{ on := 10, ground := Ground.data }, { on := 11, ground := Ground.data }, { on := 9, ground := Ground.chain }, { on := 9, ground := Ground.guard }], guard := some (9, false) },
  { dst := some 128, op := Op.move (Operand.tmp 1), type := 27, pos := "law.go:88", after := #[{ on := 9, ground := Ground.guard }], guard := some (9, false) },
  { dst := some 129, op := Op.nilCheck (Operand.tmp 128), type := 0, pos := "law.go:88", after := #[{ on := 13, ground := Ground.data }, { on := 9, ground := Ground.guard }], guard := some (9, false) },
  { dst := some 130, op := Op.fieldAddr 120 (Operand.tmp 129) 3, type := 0, pos := "law.go:88", after := #[{ on := 14, ground := Ground.data }, { on := 9, ground := Ground.guard }], guard := some (9, false) },
  { dst := some 131, op := Op.load 118 (Operand.tmp 130), type := 118, pos := "law.go:88", after := #[{ on := 15, ground := Ground.data }, { on := 9, ground := Ground.guard }], guard := some (9, false) },
  { dst := some 132, op := Op.move (Operand.tmp 6), type := 3, pos := "law.go:88", after := #[{ on := 9, ground := Ground.guard }], guard := some (9, false) },
  { dst := some 133, op := Op.indexAddr 118 (Operand.tmp 131) (Operand.tmp 132), type := 0, pos := "law.go:88", after := #[{ on := 16, ground := Ground.data }, { on := 17, ground := Ground.data }, { on := 9, ground := Ground.guard }], guard := some (9, false) },
  { dst := some 134, op := Op.fieldAddr 139 (Operand.tmp 133) 1, type := 0, pos := "law.go:88", after := #[{ on := 18, ground := Ground.data }, { on := 9, ground := Ground.guard }], guard := some (9, false) },
  { dst := some 135, op := Op.load 4 (Operand.tmp 134), type := 4, pos := "law.go:88", after := #[{ on := 19, ground := Ground.data }, { on := 9, ground := Ground.guard }], guard := some (9, false) },
  { dst := some 136, op := Op.binOp BinOp.neq 4 (Operand.tmp 127) (Operand.tmp 135) 4, type := 4, pos := "law.go:88", after := #[{ on := 12, ground := Ground.data }, { on := 20, ground := Ground.data }, { on := 9, ground := Ground.guard }], guard := some (9, false) },
  { dst := some 137, op := Op.pick (Operand.tmp 124) (Operand.const (Value.bool true)) (Operand.tmp 136), type := 4, pos := "law.go:88", after := #[{ on := 9, ground := Ground.data }, { on := 21, ground := Ground.data }], guard := none },
  { dst := some 138, op := Op.move (Operand.tmp 137), type := 4, pos := "law.go:88", after := #[{ on := 22, ground := Ground.data }, { on := 12, ground := Ground.chain }], guard := none },
  { dst := some 139, op := Op.move (Operand.tmp 0), type := 25, pos := "law.go:88", after := #[{ on := 23, ground := Ground.guard }], guard := some (23, false) },
  { dst := some 140, op := Op.move (Operand.tmp 6), type := 3, pos := "law.go:88", after := #[{ on := 23, ground := Ground.guard }], guard := some (23, false) },
  { dst := some 141, op := Op.call { callee := Callee.value (Operand.func 39), args := #[Operand.tmp 139, Operand.tmp 140], argTypes := #[25, 3] }, type := 87, pos := "law.go:88", after := #[{ on := 24, ground := Ground.data }, { on := 25, ground := Ground.data }, { on := 23, ground := Ground.chain }, { on := 23, ground := Ground.guard }], guard := some (23, false) },
  { dst := some 142, op := Op.call { callee := Callee.value (Operand.func 50), args := #[Operand.tmp 141], argTypes := #[87] }, type := 100, pos := "law.go:88", after := #[{ on := 26, ground := Ground.data }, { on := 26, ground := Ground.chain }, { on := 23, ground := Ground.guard }], guard := some (23, false) },
  { dst := some 143, op := Op.call { callee := Callee.value (Operand.func 51), args := #[Operand.tmp 142], argTypes := #[100] }, type := 2, pos := "law.go:88", after := #[{ on := 27, ground := Ground.data }, { on := 27, ground := Ground.chain }, { on := 23, ground := Ground.guard }], guard := some (23, false) },
  { dst := some 144, op := Op.move (Operand.tmp 1), type := 27, pos := "law.go:88", after := #[{ on := 23, ground := Ground.guard }], guard := some (23, false) },
  { dst := some 145, op := Op.nilCheck (Operand.tmp 144), type := 0, pos := "law.go:88", after := #[{ on := 29, ground := Ground.data }, { on := 23, ground := Ground.guard }], guard := some (23, false) },
  { dst := some 146, op := Op.fieldAddr 120 (Operand.tmp 145) 3, type := 0, pos := "law.go:88", after := #[{ on := 30, ground := Ground.data }, { on := 23, ground := Ground.guard }], guard := some (23, false) },
  { dst := some 147, op := Op.load 118 (Operand.tmp 146), type := 118, pos := "law.go:88", after := #[{ on := 31, ground := Ground.data }, { on := 23, ground := Ground.guard }], guard := some (23, false) },
  { dst := some 148, op := Op.move (Operand.tmp 6), type := 3, pos := "law.go:88", after := #[{ on := 23, ground := Ground.guard }], guard := some (23, false) },
  { dst := some 149, op := Op.indexAddr 118 (Operand.tmp 147) (Operand.tmp 148), type := 0, pos := "law.go:88", after := #[{ on := 32, ground := Ground.data }, { on := 33, ground := Ground.data }, { on := 23, ground := Ground.guard }], guard := some (23, false) },
  { dst := some 150, op := Op.fieldAddr 139 (Operand.tmp 149) 0, type := 0, pos := "law.go:88", after := #[{ on := 34, ground := Ground.data }, { on := 23, ground := Ground.guard }], guard := some (23, false) },
  { dst := some 151, op := Op.load 2 (Operand.tmp 150), type := 2, pos := "law.go:88", after := #[{ on := 35, ground := Ground.data }, { on := 23, ground := Ground.guard }], guard := some (23, false) },
  { dst := some 152, op := Op.binOp BinOp.neq 2 (Operand.tmp 143) (Operand.tmp 151) 2, type := 4, pos := "law.go:88", after := #[{ on := 28, ground := Ground.data }, { on := 36, ground := Ground.data }, { on := 23, ground := Ground.guard }], guard := some (23, false) },
  { dst := some 153, op := Op.pick (Operand.tmp 138) (Operand.const (Value.bool true)) (Operand.tmp 152), type := 4, pos := "law.go:88", after := #[{ on := 23, ground := Ground.data }, { on := 37, ground := Ground.data }], guard := none },
  { dst := some 154, op := Op.move (Operand.tmp 153), type := 4, pos := "law.go:88", after := #[{ on := 38, ground := Ground.data }, { on := 28, ground := Ground.chain }], guard := none },
  { dst := some 155, op := Op.move (Operand.tmp 0), type := 25, pos := "law.go:88", after := #[{ on := 39, ground := Ground.guard }], guard := some (39, false) },
  { dst := some 156, op := Op.move (Operand.tmp 6), type := 3, pos := "law.go:88", after := #[{ on := 39, ground := Ground.guard }], guard := some (39, false) },
  { dst := some 157, op := Op.call { callee := Callee.value (Operand.func 18), args := #[Operand.tmp 155, Operand.tmp 156], argTypes := #[25, 3] }, type := 40, pos := "law.go:88", after := #[{ on := 40, ground := Ground.data }, { on := 41, ground := Ground.data }, { on := 39, ground := Ground.chain }, { on := 39, ground := Ground.guard }], guard := some (39, false) },
  { dst := some 158, op := Op.move (Operand.tmp 1), type := 27, pos := "law.go:88", after := #[{ on := 39, ground := Ground.guard }], guard := some (39, false) },
  { dst := some 159, op := Op.nilCheck (Operand.tmp 158), type := 0, pos := "law.go:88", after := #[{ on := 43, ground := Ground.data }, { on := 39, ground := Ground.guard }], guard := some (39, false) },
  { dst := some 160, op := Op.fieldAddr 120 (Operand.tmp 159) 3, type := 0, pos := "law.go:88", after := #[{ on := 44, ground := Ground.data }, { on := 39, ground := Ground.guard }], guard := some (39, false) },
  { dst := some 161, op := Op.load 118 (Operand.tmp 160), type := 118, pos := "law.go:88", after := #[{ on := 45, ground := Ground.data }, { on := 39, ground := Ground.guard }], guard := some (39, false) },
  { dst := some 162, op := Op.move (Operand.tmp 6), type := 3, pos := "law.go:88", after := #[{ on := 39, ground := Ground.guard }], guard := some (39, false) },
  { dst := some 163, op := Op.indexAddr 118 (Operand.tmp 161) (Operand.tmp 162), type := 0, pos := "law.go:88", after := #[{ on := 46, ground := Ground.data }, { on := 47, ground := Ground.data }, { on := 39, ground := Ground.guard }], guard := some (39, false) },
  { dst := some 164, op := Op.fieldAddr 139 (Operand.tmp 163) 8, type := 0, pos := "law.go:88", after := #[{ on := 48, ground := Ground.data }, { on := 39, ground := Ground.guard }], guard := some (39, false) },
  { dst := some 165, op := Op.load 40 (Operand.tmp 164), type := 40, pos := "law.go:88", after := #[{ on := 49, ground := Ground.data }, { on := 39, ground := Ground.guard }], guard := some (39, false) },
  { dst := some 166, op := Op.call { callee := Callee.value (Operand.func 62), args := #[Operand.tmp 157, Operand.tmp 165], argTypes := #[40, 40] }, type := 4, pos := "law.go:88", after := #[{ on := 42, ground := Ground.data }, { on := 50, ground := Ground.data }, { on := 42, ground := Ground.chain }, { on := 39, ground := Ground.guard }], guard := some (39, false) },
  { dst := some 167, op := Op.unOp UnOp.not 4 (Operand.tmp 166), type := 4, pos := "law.go:88", after := #[{ on := 51, ground := Ground.data }, { on := 39, ground := Ground.guard }], guard := some (39, false) },
  { dst := some 168, op := Op.pick (Operand.tmp 154) (Operand.const (Value.bool true)) (Operand.tmp 167), type := 4, pos := "law.go:88", after := #[{ on := 39, ground := Ground.data }, { on := 52, ground := Ground.data }], guard := none }]
section
variable {P : Program} {op : Oper} {a : Act} {w : World} {v : Value}
theorem ex_neqB (x y : Operand) (t t2 : TypeId) (ho : op.op = .binOp .neq t x y t2) {u u2 : Value} (hx : a.eval x = u) (hy : a.eval y = u2) (hr : (do eqGuard .neq t x y u u2; binOp .neq t u u2 : Sem Value).run P w = .ok v w) : (execOp a.eval op).run P w = .ok (.value v) w := by
  unfold execOp
  simp only [ho, hx, hy]
  simp only [Sem.run_bind] at hr ⊢
  rw [hr]
  rfl
theorem ex_unot (x : Operand) (t : TypeId) (ho : op.op = .unOp .not t x) {b : Bool} (hx : a.eval x = .bool b) (hr : (Op.unary .not (.bool b) : Sem Value).run P w = .ok v w) : (execOp a.eval op).run P w = .ok (.value v) w := by
  unfold execOp
  simp only [ho, hx, Sem.run_bind, hr, Result.andThen_ok, Sem.run_pure]
theorem ex_nilc (x : Operand) (ho : op.op = .nilCheck x) {ad : Addr} (hx : a.eval x = .pointer (some ad)) : (execOp a.eval op).run P w = .ok (.value (.pointer (some ad))) w := by
  unfold execOp
  simp only [ho, hx, Sem.run_pure]
theorem tmps_at {t : Tmp} {v : Value} (h : a.eval (.tmp t) = v) (ht : t < a.tmps.size) : a.tmps[t]? = some v := by
  simp only [Act.eval, Array.getD_eq_getD_getElem?] at h
  rw [Array.getElem?_eq_getElem ht] at h ⊢
  exact congrArg some h
end
def dl13 : List (Option Tmp) := [some 115, some 116, some 117, some 118, some 119, some 120, some 121, some 122, some 123, some 124, some 125, some 126, some 127, some 128, some 129, some 130, some 131, some 132, some 133, some 134, some 135, some 136, some 137, some 138, some 139, some 140, some 141, some 142, some 143, some 144, some 145, some 146, some 147, some 148, some 149, some 150, some 151, some 152, some 153, some 154, some 155, some 156, some 157, some 158, some 159, some 160, some 161, some 162, some 163, some 164, some 165, some 166, some 167]
def D13 (k : Nat) : Option Tmp := dl13.getD k none
theorem dd13 : DD D13 53 := dd_of (L := dl13) (by kernel_rfl) 53 (by decide)
theorem icas13 {i : Nat} (h : i < 53) : i = 0 ∨ i = 1 ∨ i = 2 ∨ i = 3 ∨ i = 4 ∨ i = 5 ∨ i = 6 ∨ i = 7 ∨ i = 8 ∨ i = 9 ∨ i = 10 ∨ i = 11 ∨ i = 12 ∨ i = 13 ∨ i = 14 ∨ i = 15 ∨ i = 16 ∨ i = 17 ∨ i = 18 ∨ i = 19 ∨ i = 20 ∨ i = 21 ∨ i = 22 ∨ i = 23 ∨ i = 24 ∨ i = 25 ∨ i = 26 ∨ i = 27 ∨ i = 28 ∨ i = 29 ∨ i = 30 ∨ i = 31 ∨ i = 32 ∨ i = 33 ∨ i = 34 ∨ i = 35 ∨ i = 36 ∨ i = 37 ∨ i = 38 ∨ i = 39 ∨ i = 40 ∨ i = 41 ∨ i = 42 ∨ i = 43 ∨ i = 44 ∨ i = 45 ∨ i = 46 ∨ i = 47 ∨ i = 48 ∨ i = 49 ∨ i = 50 ∨ i = 51 ∨ i = 52 := by omega
def vv13 (r wb rb sb i nL cap : Nat) (z : Int) (k : Nat) (m : Bool) (yw : Value) : List Value := [.nilIface, .bool false, .bool false, .int .i64 z, .pointer (some ⟨wb, 0, none⟩), .int .i64 i, .int .i64 z, .bool false, .bool false, .bool false, .pointer (some ⟨r, 0, none⟩), .int .i64 i, .bool m, .pointer (some ⟨wb, 0, none⟩), .pointer (some ⟨wb, 0, none⟩), .pointer (some ⟨wb, 4, none⟩), .slice (some ⟨rb, 0, none⟩) nL cap, .int .i64 i, .pointer (some ⟨rb, i * 9, none⟩), .pointer (some ⟨rb, i * 9 + 1, none⟩), .bool m, .bool false, .bool false, .bool false, .pointer (some ⟨r, 0, none⟩), .int .i64 i, .pointer (some ⟨sb, 0, none⟩), .agg #[.int .u8 k], .int .i64 (two k), .pointer (some ⟨wb, 0, none⟩), .pointer (some ⟨wb, 0, none⟩), .pointer (some ⟨wb, 4, none⟩), .slice (some ⟨rb, 0, none⟩) nL cap, .int .i64 i, .pointer (some ⟨rb, i * 9, none⟩), .pointer (some ⟨rb, i * 9 + 0, none⟩), .int .i64 (two k), .bool false, .bool false, .bool false, .pointer (some ⟨r, 0, none⟩), .int .i64 i, undef, .pointer (some ⟨wb, 0, none⟩), .pointer (some ⟨wb, 0, none⟩), .pointer (some ⟨wb, 4, none⟩), .slice (some ⟨rb, 0, none⟩) nL cap, .int .i64 i, .pointer (some ⟨rb, i * 9, none⟩), .pointer (some ⟨rb, i * 9 + 8, none⟩), yw, .bool true, .bool false]
theorem ent13_6 (vs : Array Value) (w : World) : (callFunc 68 vs).run Tryz.prog w = .ok (.enter 68 vs) w := by go_simp
theorem ent13_12 (vs : Array Value) (w : World) : (callFunc 31 vs).run Tryz.prog w = .ok (.enter 31 vs) w := by go_simp
theorem ent13_26 (vs : Array Value) (w : World) : (callFunc 39 vs).run Tryz.prog w = .ok (.enter 39 vs) w := by go_simp
theorem ent13_27 (vs : Array Value) (w : World) : (callFunc 50 vs).run Tryz.prog w = .ok (.enter 50 vs) w := by go_simp
theorem ent13_28 (vs : Array Value) (w : World) : (callFunc 51 vs).run Tryz.prog w = .ok (.enter 51 vs) w := by go_simp
theorem ent13_42 (vs : Array Value) (w : World) : (callFunc 18 vs).run Tryz.prog w = .ok (.enter 18 vs) w := by go_simp
theorem ent13_51 (vs : Array Value) (w : World) : (callFunc 62 vs).run Tryz.prog w = .ok (.enter 62 vs) w := by go_simp
theorem fa_w3 (wb : Nat) (w : World) : (Instr.fieldAt 120 (.pointer (some ⟨wb, 0, none⟩)) 3).run Tryz.prog w = .ok (.pointer (some ⟨wb, 4, none⟩)) w := by kernel_rfl
theorem fa_r1 (rb j : Nat) (w : World) : (Instr.fieldAt 139 (.pointer (some ⟨rb, j, none⟩)) 1).run Tryz.prog w = .ok (.pointer (some ⟨rb, j + 1, none⟩)) w := by kernel_rfl
theorem fa_r0 (rb j : Nat) (w : World) : (Instr.fieldAt 139 (.pointer (some ⟨rb, j, none⟩)) 0).run Tryz.prog w = .ok (.pointer (some ⟨rb, j + 0, none⟩)) w := by kernel_rfl
theorem fa_r8 (rb j : Nat) (w : World) : (Instr.fieldAt 139 (.pointer (some ⟨rb, j, none⟩)) 8).run Tryz.prog w = .ok (.pointer (some ⟨rb, j + 8, none⟩)) w := by kernel_rfl
theorem ia_r (rb i nL cap : Nat) (hi : i < nL) (hn : nL ≤ 8) (w : World) : (Instr.indexAt 118 (.slice (some ⟨rb, 0, none⟩) nL cap) (.int .i64 i)).run Tryz.prog w = .ok (.pointer (some ⟨rb, i * 9, none⟩)) w := by
  have b0 : (0 : Int) ≤ (i : Int) := by omega
  have b1 : (i : Int) < (nL : Int) := by omega
  go_simp
theorem nq_nil (w : World) : (do eqGuard .neq 38 (.tmp 115) (.const .nilIface) .nilIface .nilIface; binOp .neq 38 .nilIface .nilIface : Sem Value).run Tryz.prog w = .ok (.bool false) w := by go_simp
theorem nq_int (x y : Operand) (z : Int) (w : World) : (do eqGuard .neq 2 x y (.int .i64 z) (.int .i64 z); binOp .neq 2 (.int .i64 z) (.int .i64 z) : Sem Value).run Tryz.prog w = .ok (.bool false) w := by go_simp
theorem nq_bool (x y : Operand) (b : Bool) (w : World) : (do eqGuard .neq 4 x y (.bool b) (.bool b); binOp .neq 4 (.bool b) (.bool b) : Sem Value).run Tryz.prog w = .ok (.bool false) w := by cases b <;> go_simp
theorem un_not (b : Bool) (w : World) : (Op.unary .not (.bool b) : Sem Value).run Tryz.prog w = .ok (.bool (!b)) w := by go_simp
structure H13 (a0 : Act) (r wb rb sb i nL cap : Nat) (z : Int) (k : Nat) (m : Bool) (yw : Value) (W : World) (Rw : Value → World → Prop) : Prop where
  e0 : a0.eval (.tmp 0) = .pointer (some ⟨r, 0, none⟩)
  e1 : a0.eval (.tmp 1) = .pointer (some ⟨wb, 0, none⟩)
  e6 : a0.eval (.tmp 6) = .int .i64 i
  e7 : a0.eval (.tmp 7) = .int .i64 z
  e8 : a0.eval (.tmp 8) = .nilIface
  hsz : a0.tmps.size = 170
  hi : i < nL
  hn : nL ≤ 8
  h4 : ∀ w, Below W.heap.size W w → w.cell? ⟨wb, 4, none⟩ = some (.slice (some ⟨rb, 0, none⟩) nL cap)
  h0 : ∀ w, Below W.heap.size W w → w.cell? ⟨rb, i * 9 + 0, none⟩ = some (.int .i64 (two k))
  h1 : ∀ w, Below W.heap.size W w → w.cell? ⟨rb, i * 9 + 1, none⟩ = some (.bool m)
  h8 : ∀ w, Below W.heap.size W w → w.cell? ⟨rb, i * 9 + 8, none⟩ = some yw
  hyw : ∃ p n c, yw = .slice p n c
  hc6 : ∀ w, Below W.heap.size W w → Calls Tryz.prog 68 #[.pointer (some ⟨wb, 0, none⟩), .int .i64 i] w fun e w' => e = .returned (.int .i64 z) ∧ Below w.heap.size w w'
  hc12 : ∀ w, Below W.heap.size W w → Calls Tryz.prog 31 #[.pointer (some ⟨r, 0, none⟩), .int .i64 i] w fun e w' => e = .returned (.bool m) ∧ Below w.heap.size w w'
  hc26 : ∀ w, Below W.heap.size W w → Calls Tryz.prog 39 #[.pointer (some ⟨r, 0, none⟩), .int .i64 i] w fun e w' => e = .returned (.pointer (some ⟨sb, 0, none⟩)) ∧ Below w.heap.size w w'
  hc27 : ∀ w, Below W.heap.size W w → Calls Tryz.prog 50 #[.pointer (some ⟨sb, 0, none⟩)] w fun e w' => e = .returned (.agg #[.int .u8 k]) ∧ Below w.heap.size w w'
  hc28 : ∀ w, Below W.heap.size W w → Calls Tryz.prog 51 #[.agg #[.int .u8 k]] w fun e w' => e = .returned (.int .i64 (two k)) ∧ Below w.heap.size w w'
  hc42 : ∀ w, Below W.heap.size W w → Calls Tryz.prog 18 #[.pointer (some ⟨r, 0, none⟩), .int .i64 i] w fun e w' => ∃ v, e = .returned v ∧ Rw v w' ∧ Below w.heap.size w w'
  hc51 : ∀ v w, Below W.heap.size W w → Rw v w → Calls Tryz.prog 62 #[v, yw] w fun e w' => e = .returned (.bool true) ∧ Below w.heap.size w w'
def M13 (r wb rb sb i nL cap : Nat) (z : Int) (k : Nat) (m : Bool) (yw : Value) (W : World) (Rw : Value → World → Prop) : Array Bool → (Nat → Value) → World → Prop := MAl 53 [6, 9, 12, 23, 26, 27, 28, 39, 42, 51] 42 51 (vv13 r wb rb sb i nL cap z k m yw) W Rw
section
variable {a0 : Act} {r wb rb sb i nL cap : Nat} {z : Int} {k : Nat} {m : Bool} {yw : Value} {W w : World} {Rw : Value → World → Prop} {s : Array Bool} {V : Nat → Value} {Q : Exit → Act → World → Prop}
theorem H13.ev (H : H13 a0 r wb rb sb i nL cap z k m yw W Rw) (j t : Nat) (hj : j < 53) (hk : D13 j = some t) (hs : s.getD j true = true) (hk2 : t < 170) : (actOf D13 V s a0 53).eval (.tmp t) = V j := actOf_eval 53 dd13 hj hk hs (by rw [H.hsz]; exact hk2)
theorem H13.gd (H : H13 a0 r wb rb sb i nL cap z k m yw W Rw) (hM : M13 r wb rb sb i nL cap z k m yw W Rw s V w) (g t : Nat) (hg : g < 53) (ht : D13 g = some t) (ht2 : t < 170) (hw : g ≠ 42) (hv : (vv13 r wb rb sb i nL cap z k m yw).getD g undef = .bool false) (hs : s.getD g true = true) : (actOf D13 V s a0 53).tmps[t]? = some (.bool false) :=
  tmps_at (((H.ev g t hg ht hs ht2).trans (hM.p g hg hw hs)).trans hv) (by rw [actOf_size, H.hsz]; exact ht2)
theorem n13_0 : ∀ j, j < 53 → D13 j ≠ some 0 := by decide
theorem H13.x0 (H : H13 a0 r wb rb sb i nL cap z k m yw W Rw) : (actOf D13 V s a0 53).eval (.tmp 0) = .pointer (some ⟨r, 0, none⟩) := (actOf_eval0 53 fun j hj _ => n13_0 j hj).trans H.e0
theorem n13_1 : ∀ j, j < 53 → D13 j ≠ some 1 := by decide
theorem H13.x1 (H : H13 a0 r wb rb sb i nL cap z k m yw W Rw) : (actOf D13 V s a0 53).eval (.tmp 1) = .pointer (some ⟨wb, 0, none⟩) := (actOf_eval0 53 fun j hj _ => n13_1 j hj).trans H.e1
theorem n13_6 : ∀ j, j < 53 → D13 j ≠ some 6 := by decide
theorem H13.x6 (H : H13 a0 r wb rb sb i nL cap z k m yw W Rw) : (actOf D13 V s a0 53).eval (.tmp 6) = .int .i64 i := (actOf_eval0 53 fun j hj _ => n13_6 j hj).trans H.e6
theorem n13_7 : ∀ j, j < 53 → D13 j ≠ some 7 := by decide
theorem H13.x7 (H : H13 a0 r wb rb sb i nL cap z k m yw W Rw) : (actOf D13 V s a0 53).eval (.tmp 7) = .int .i64 z := (actOf_eval0 53 fun j hj _ => n13_7 j hj).trans H.e7
theorem n13_8 : ∀ j, j < 53 → D13 j ≠ some 8 := by decide
theorem H13.x8 (H : H13 a0 r wb rb sb i nL cap z k m yw W Rw) : (actOf D13 V s a0 53).eval (.tmp 8) = .nilIface := (actOf_eval0 53 fun j hj _ => n13_8 j hj).trans H.e8
theorem H13.l4 (H : H13 a0 r wb rb sb i nL cap z k m yw W Rw) (hM : M13 r wb rb sb i nL cap z k m yw W Rw s V w) : (Instr.loadAt 118 (.pointer (some ⟨wb, 4, none⟩))).run Tryz.prog w = .ok (.slice (some ⟨rb, 0, none⟩) nL cap) w := by
  have k1 := H.h4 w hM.b
  go_simp
theorem H13.l0 (H : H13 a0 r wb rb sb i nL cap z k m yw W Rw) (hM : M13 r wb rb sb i nL cap z k m yw W Rw s V w) : (Instr.loadAt 2 (.pointer (some ⟨rb, i * 9 + 0, none⟩))).run Tryz.prog w = .ok (.int .i64 (two k)) w := by
  have k1 : w.cell? ⟨rb, i * 9, none⟩ = some (.int .i64 (two k)) := H.h0 w hM.b
  go_simp
theorem H13.l1 (H : H13 a0 r wb rb sb i nL cap z k m yw W Rw) (hM : M13 r wb rb sb i nL cap z k m yw W Rw s V w) : (Instr.loadAt 4 (.pointer (some ⟨rb, i * 9 + 1, none⟩))).run Tryz.prog w = .ok (.bool m) w := by
  have k1 := H.h1 w hM.b
  go_simp
theorem H13.l8 (H : H13 a0 r wb rb sb i nL cap z k m yw W Rw) (hM : M13 r wb rb sb i nL cap z k m yw W Rw s V w) : (Instr.loadAt 40 (.pointer (some ⟨rb, i * 9 + 8, none⟩))).run Tryz.prog w = .ok yw w := by
  have k1 := H.h8 w hM.b
  obtain ⟨yp, yn, yc, rfl⟩ := H.hyw
  go_simp
theorem op13_0 : rg13.toArray[0]? = some { dst := some 115, op := Op.move (Operand.tmp 8), type := 38, pos := "law.go:88", after := #[], guard := none } := by kernel_rfl
theorem op13_1 : rg13.toArray[1]? = some { dst := some 116, op := Op.binOp BinOp.neq 38 (Operand.tmp 115) (Operand.const Value.nilIface) 38, type := 4, pos := "law.go:88", after := #[{ on := 0, ground := Ground.data }], guard := none } := by kernel_rfl
theorem op13_2 : rg13.toArray[2]? = some { dst := some 117, op := Op.move (Operand.tmp 116), type := 4, pos := "law.go:88", after := #[{ on := 1, ground := Ground.data }], guard := none } := by kernel_rfl
theorem op13_3 : rg13.toArray[3]? = some { dst := some 118, op := Op.move (Operand.tmp 7), type := 2, pos := "law.go:88", after := #[{ on := 2, ground := Ground.guard }], guard := some (2, false) } := by kernel_rfl
theorem op13_4 : rg13.toArray[4]? = some { dst := some 119, op := Op.move (Operand.tmp 1), type := 27, pos := "law.go:88", after := #[{ on := 2, ground := Ground.guard }], guard := some (2, false) } := by kernel_rfl
theorem op13_5 : rg13.toArray[5]? = some { dst := some 120, op := Op.move (Operand.tmp 6), type := 3, pos := "law.go:88", after := #[{ on := 2, ground := Ground.guard }], guard := some (2, false) } := by kernel_rfl
theorem op13_6 : rg13.toArray[6]? = some { dst := some 121, op := Op.call { callee := Callee.value (Operand.func 68), args := #[Operand.tmp 119, Operand.tmp 120], argTypes := #[27, 3] }, type := 2, pos := "law.go:88", after := #[{ on := 4, ground := Ground.data }, { on := 5, ground := Ground.data }, { on := 2, ground := Ground.chain }, { on := 2, ground := Ground.guard }], guard := some (2, false) } := by kernel_rfl
theorem op13_7 : rg13.toArray[7]? = some { dst := some 122, op := Op.binOp BinOp.neq 2 (Operand.tmp 118) (Operand.tmp 121) 2, type := 4, pos := "law.go:88", after := #[{ on := 3, ground := Ground.data }, { on := 6, ground := Ground.data }, { on := 2, ground := Ground.guard }], guard := some (2, false) } := by kernel_rfl
theorem op13_8 : rg13.toArray[8]? = some { dst := some 123, op := Op.pick (Operand.tmp 117) (Operand.const (Value.bool true)) (Operand.tmp 122), type := 4, pos := "law.go:88", after := #[{ on := 2, ground := Ground.data }, { on := 7, ground := Ground.data }], guard := none } := by kernel_rfl
theorem op13_9 : rg13.toArray[9]? = some { dst := some 124, op := Op.move (Operand.tmp 123), type := 4, pos := "law.go:88", after := #[{ on := 8, ground := Ground.data }, { on := 6, ground := Ground.chain }], guard := none } := by kernel_rfl
theorem op13_10 : rg13.toArray[10]? = some { dst := some 125, op := Op.move (Operand.tmp 0), type := 25, pos := "law.go:88", after := #[{ on := 9, ground := Ground.guard }], guard := some (9, false) } := by kernel_rfl
theorem op13_11 : rg13.toArray[11]? = some { dst := some 126, op := Op.move (Operand.tmp 6), type := 3, pos := "law.go:88", after := #[{ on := 9, ground := Ground.guard }], guard := some (9, false) } := by kernel_rfl
theorem op13_12 : rg13.toArray[12]? = some { dst := some 127, op := Op.call { callee := Callee.value (Operand.func 31), args := #[Operand.tmp 125, Operand.tmp 126], argTypes := #[25, 3] }, type := 4, pos := "law.go:88", after := #[{ on := 10, ground := Ground.data }, { on := 11, ground := Ground.data }, { on := 9, ground := Ground.chain }, { on := 9, ground := Ground.guard }], guard := some (9, false) } := by kernel_rfl
theorem op13_13 : rg13.toArray[13]? = some { dst := some 128, op := Op.move (Operand.tmp 1), type := 27, pos := "law.go:88", after := #[{ on := 9, ground := Ground.guard }], guard := some (9, false) } := by kernel_rfl
theorem op13_14 : rg13.toArray[14]? = some { dst := some 129, op := Op.nilCheck (Operand.tmp 128), type := 0, pos := "law.go:88", after := #[{ on := 13, ground := Ground.data }, { on := 9, ground := Ground.guard }], guard := some (9, false) } := by kernel_rfl
theorem op13_15 : rg13.toArray[15]? = some { dst := some 130, op := Op.fieldAddr 120 (Operand.tmp 129) 3, type := 0, pos := "law.go:88", after := #[{ on := 14, ground := Ground.data }, { on := 9, ground := Ground.guard }], guard := some (9, false) } := by kernel_rfl
theorem op13_16 : rg13.toArray[16]? = some { dst := some 131, op := Op.load 118 (Operand.tmp 130), type := 118, pos := "law.go:88", after := #[{ on := 15, ground := Ground.data }, { on := 9, ground := Ground.guard }], guard := some (9, false) } := by kernel_rfl
theorem op13_17 : rg13.toArray[17]? = some { dst := some 132, op := Op.move (Operand.tmp 6), type := 3, pos := "law.go:88", after := #[{ on := 9, ground := Ground.guard }], guard := some (9, false) } := by kernel_rfl
theorem op13_18 : rg13.toArray[18]? = some { dst := some 133, op := Op.indexAddr 118 (Operand.tmp 131) (Operand.tmp 132), type := 0, pos := "law.go:88", after := #[{ on := 16, ground := Ground.data }, { on := 17, ground := Ground.data }, { on := 9, ground := Ground.guard }], guard := some (9, false) } := by kernel_rfl
theorem op13_19 : rg13.toArray[19]? = some { dst := some 134, op := Op.fieldAddr 139 (Operand.tmp 133) 1, type := 0, pos := "law.go:88", after := #[{ on := 18, ground := Ground.data }, { on := 9, ground := Ground.guard }], guard := some (9, false) } := by kernel_rfl
theorem op13_20 : rg13.toArray[20]? = some { dst := some 135, op := Op.load 4 (Operand.tmp 134), type := 4, pos := "law.go:88", after := #[{ on := 19, ground := Ground.data }, { on := 9, ground := Ground.guard }], guard := some (9, false) } := by kernel_rfl
theorem op13_21 : rg13.toArray[21]? = some { dst := some 136, op := Op.binOp BinOp.neq 4 (Operand.tmp 127) (Operand.tmp 135) 4, type := 4, pos := "law.go:88", after := #[{ on := 12, ground := Ground.data }, { on := 20, ground := Ground.data }, { on := 9, ground := Ground.guard }], guard := some (9, false) } := by kernel_rfl
theorem op13_22 : rg13.toArray[22]? = some { dst := some 137, op := Op.pick (Operand.tmp 124) (Operand.const (Value.bool true)) (Operand.tmp 136), type := 4, pos := "law.go:88", after := #[{ on := 9, ground := Ground.data }, { on := 21, ground := Ground.data }], guard := none } := by kernel_rfl
theorem op13_23 : rg13.toArray[23]? = some { dst := some 138, op := Op.move (Operand.tmp 137), type := 4, pos := "law.go:88", after := #[{ on := 22, ground := Ground.data }, { on := 12, ground := Ground.chain }], guard := none } := by kernel_rfl
theorem op13_24 : rg13.toArray[24]? = some { dst := some 139, op := Op.move (Operand.tmp 0), type := 25, pos := "law.go:88", after := #[{ on := 23, ground := Ground.guard }], guard := some (23, false) } := by kernel_rfl
theorem op13_25 : rg13.toArray[25]? = some { dst := some 140, op := Op.move (Operand.tmp 6), type := 3, pos := "law.go:88", after := #[{ on := 23, ground := Ground.guard }], guard := some (23, false) } := by kernel_rfl
theorem op13_26 : rg13.toArray[26]? = some { dst := some 141, op := Op.call { callee := Callee.value (Operand.func 39), args := #[Operand.tmp 139, Operand.tmp 140], argTypes := #[25, 3] }, type := 87, pos := "law.go:88", after := #[{ on := 24, ground := Ground.data }, { on := 25, ground := Ground.data }, { on := 23, ground := Ground.chain }, { on := 23, ground := Ground.guard }], guard := some (23, false) } := by kernel_rfl
theorem op13_27 : rg13.toArray[27]? = some { dst := some 142, op := Op.call { callee := Callee.value (Operand.func 50), args := #[Operand.tmp 141], argTypes := #[87] }, type := 100, pos := "law.go:88", after := #[{ on := 26, ground := Ground.data }, { on := 26, ground := Ground.chain }, { on := 23, ground := Ground.guard }], guard := some (23, false) } := by kernel_rfl
theorem op13_28 : rg13.toArray[28]? = some { dst := some 143, op := Op.call { callee := Callee.value (Operand.func 51), args := #[Operand.tmp 142], argTypes := #[100] }, type := 2, pos := "law.go:88", after := #[{ on := 27, ground := Ground.data }, { on := 27, ground := Ground.chain }, { on := 23, ground := Ground.guard }], guard := some (23, false) } := by kernel_rfl
theorem op13_29 : rg13.toArray[29]? = some { dst := some 144, op := Op.move (Operand.tmp 1), type := 27, pos := "law.go:88", after := #[{ on := 23, ground := Ground.guard }], guard := some (23, false) } := by kernel_rfl
theorem op13_30 : rg13.toArray[30]? = some { dst := some 145, op := Op.nilCheck (Operand.tmp 144), type := 0, pos := "law.go:88", after := #[{ on := 29, ground := Ground.data }, { on := 23, ground := Ground.guard }], guard := some (23, false) } := by kernel_rfl
theorem op13_31 : rg13.toArray[31]? = some { dst := some 146, op := Op.fieldAddr 120 (Operand.tmp 145) 3, type := 0, pos := "law.go:88", after := #[{ on := 30, ground := Ground.data }, { on := 23, ground := Ground.guard }], guard := some (23, false) } := by kernel_rfl
theorem op13_32 : rg13.toArray[32]? = some { dst := some 147, op := Op.load 118 (Operand.tmp 146), type := 118, pos := "law.go:88", after := #[{ on := 31, ground := Ground.data }, { on := 23, ground := Ground.guard }], guard := some (23, false) } := by kernel_rfl
theorem op13_33 : rg13.toArray[33]? = some { dst := some 148, op := Op.move (Operand.tmp 6), type := 3, pos := "law.go:88", after := #[{ on := 23, ground := Ground.guard }], guard := some (23, false) } := by kernel_rfl
theorem op13_34 : rg13.toArray[34]? = some { dst := some 149, op := Op.indexAddr 118 (Operand.tmp 147) (Operand.tmp 148), type := 0, pos := "law.go:88", after := #[{ on := 32, ground := Ground.data }, { on := 33, ground := Ground.data }, { on := 23, ground := Ground.guard }], guard := some (23, false) } := by kernel_rfl
theorem op13_35 : rg13.toArray[35]? = some { dst := some 150, op := Op.fieldAddr 139 (Operand.tmp 149) 0, type := 0, pos := "law.go:88", after := #[{ on := 34, ground := Ground.data }, { on := 23, ground := Ground.guard }], guard := some (23, false) } := by kernel_rfl
theorem op13_36 : rg13.toArray[36]? = some { dst := some 151, op := Op.load 2 (Operand.tmp 150), type := 2, pos := "law.go:88", after := #[{ on := 35, ground := Ground.data }, { on := 23, ground := Ground.guard }], guard := some (23, false) } := by kernel_rfl
theorem op13_37 : rg13.toArray[37]? = some { dst := some 152, op := Op.binOp BinOp.neq 2 (Operand.tmp 143) (Operand.tmp 151) 2, type := 4, pos := "law.go:88", after := #[{ on := 28, ground := Ground.data }, { on := 36, ground := Ground.data }, { on := 23, ground := Ground.guard }], guard := some (23, false) } := by kernel_rfl
theorem op13_38 : rg13.toArray[38]? = some { dst := some 153, op := Op.pick (Operand.tmp 138) (Operand.const (Value.bool true)) (Operand.tmp 152), type := 4, pos := "law.go:88", after := #[{ on := 23, ground := Ground.data }, { on := 37, ground := Ground.data }], guard := none } := by kernel_rfl
theorem op13_39 : rg13.toArray[39]? = some { dst := some 154, op := Op.move (Operand.tmp 153), type := 4, pos := "law.go:88", after := #[{ on := 38, ground := Ground.data }, { on := 28, ground := Ground.chain }], guard := none } := by kernel_rfl
theorem op13_40 : rg13.toArray[40]? = some { dst := some 155, op := Op.move (Operand.tmp 0), type := 25, pos := "law.go:88", after := #[{ on := 39, ground := Ground.guard }], guard := some (39, false) } := by kernel_rfl
theorem op13_41 : rg13.toArray[41]? = some { dst := some 156, op := Op.move (Operand.tmp 6), type := 3, pos := "law.go:88", after := #[{ on := 39, ground := Ground.guard }], guard := some (39, false) } := by kernel_rfl
theorem op13_42 : rg13.toArray[42]? = some { dst := some 157, op := Op.call { callee := Callee.value (Operand.func 18), args := #[Operand.tmp 155, Operand.tmp 156], argTypes := #[25, 3] }, type := 40, pos := "law.go:88", after := #[{ on := 40, ground := Ground.data }, { on := 41, ground := Ground.data }, { on := 39, ground := Ground.chain }, { on := 39, ground := Ground.guard }], guard := some (39, false) } := by kernel_rfl
theorem op13_43 : rg13.toArray[43]? = some { dst := some 158, op := Op.move (Operand.tmp 1), type := 27, pos := "law.go:88", after := #[{ on := 39, ground := Ground.guard }], guard := some (39, false) } := by kernel_rfl
theorem op13_44 : rg13.toArray[44]? = some { dst := some 159, op := Op.nilCheck (Operand.tmp 158), type := 0, pos := "law.go:88", after := #[{ on := 43, ground := Ground.data }, { on := 39, ground := Ground.guard }], guard := some (39, false) } := by kernel_rfl
theorem op13_45 : rg13.toArray[45]? = some { dst := some 160, op := Op.fieldAddr 120 (Operand.tmp 159) 3, type := 0, pos := "law.go:88", after := #[{ on := 44, ground := Ground.data }, { on := 39, ground := Ground.guard }], guard := some (39, false) } := by kernel_rfl
theorem op13_46 : rg13.toArray[46]? = some { dst := some 161, op := Op.load 118 (Operand.tmp 160), type := 118, pos := "law.go:88", after := #[{ on := 45, ground := Ground.data }, { on := 39, ground := Ground.guard }], guard := some (39, false) } := by kernel_rfl
theorem op13_47 : rg13.toArray[47]? = some { dst := some 162, op := Op.move (Operand.tmp 6), type := 3, pos := "law.go:88", after := #[{ on := 39, ground := Ground.guard }], guard := some (39, false) } := by kernel_rfl
theorem op13_48 : rg13.toArray[48]? = some { dst := some 163, op := Op.indexAddr 118 (Operand.tmp 161) (Operand.tmp 162), type := 0, pos := "law.go:88", after := #[{ on := 46, ground := Ground.data }, { on := 47, ground := Ground.data }, { on := 39, ground := Ground.guard }], guard := some (39, false) } := by kernel_rfl
theorem op13_49 : rg13.toArray[49]? = some { dst := some 164, op := Op.fieldAddr 139 (Operand.tmp 163) 8, type := 0, pos := "law.go:88", after := #[{ on := 48, ground := Ground.data }, { on := 39, ground := Ground.guard }], guard := some (39, false) } := by kernel_rfl
theorem op13_50 : rg13.toArray[50]? = some { dst := some 165, op := Op.load 40 (Operand.tmp 164), type := 40, pos := "law.go:88", after := #[{ on := 49, ground := Ground.data }, { on := 39, ground := Ground.guard }], guard := some (39, false) } := by kernel_rfl
theorem op13_51 : rg13.toArray[51]? = some { dst := some 166, op := Op.call { callee := Callee.value (Operand.func 62), args := #[Operand.tmp 157, Operand.tmp 165], argTypes := #[40, 40] }, type := 4, pos := "law.go:88", after := #[{ on := 42, ground := Ground.data }, { on := 50, ground := Ground.data }, { on := 42, ground := Ground.chain }, { on := 39, ground := Ground.guard }], guard := some (39, false) } := by kernel_rfl
theorem op13_52 : rg13.toArray[52]? = some { dst := some 167, op := Op.unOp UnOp.not 4 (Operand.tmp 166), type := 4, pos := "law.go:88", after := #[{ on := 51, ground := Ground.data }, { on := 39, ground := Ground.guard }], guard := some (39, false) } := by kernel_rfl
theorem st13_0 (H : H13 a0 r wb rb sb i nL cap z k m yw W Rw) (hr : 0 ∈ Region.ready .any rg13.toArray s) (hM : M13 r wb rb sb i nL cap z k m yw W Rw s V w) : wpOp Tryz.prog rg13.toArray Q 0 (fun a' w' => ActInv D13 a0 53 (M13 r wb rb sb i nL cap z k m yw W Rw) (s.setIfInBounds 0 true) a' w') (actOf D13 V s a0 53) w := by
  have hun := ready_un hr
  have x0 := H.x8 (s := s) (V := V)
  exact act_val dd13 op13_0 (by kernel_rfl) rfl (by decide) hun (ex_move (.tmp 8) rfl x0) (hM.pure (by decide) (by decide) (by decide) rfl)
theorem st13_1 (H : H13 a0 r wb rb sb i nL cap z k m yw W Rw) (hr : 1 ∈ Region.ready .any rg13.toArray s) (hM : M13 r wb rb sb i nL cap z k m yw W Rw s V w) : wpOp Tryz.prog rg13.toArray Q 1 (fun a' w' => ActInv D13 a0 53 (M13 r wb rb sb i nL cap z k m yw W Rw) (s.setIfInBounds 1 true) a' w') (actOf D13 V s a0 53) w := by
  have hun := ready_un hr
  have d0 := ready_on hr 0 (by kernel_rfl)
  have x0 : (actOf D13 V s a0 53).eval (.tmp 115) = .nilIface := (H.ev 0 115 (by decide) (by kernel_rfl) d0 (by decide)).trans (hM.p 0 (by decide) (by decide) d0)
  exact act_val dd13 op13_1 (by kernel_rfl) rfl (by decide) hun (ex_neqB (.tmp 115) (.const .nilIface) 38 38 rfl x0 rfl (nq_nil w)) (hM.pure (by decide) (by decide) (by decide) rfl)
theorem st13_2 (H : H13 a0 r wb rb sb i nL cap z k m yw W Rw) (hr : 2 ∈ Region.ready .any rg13.toArray s) (hM : M13 r wb rb sb i nL cap z k m yw W Rw s V w) : wpOp Tryz.prog rg13.toArray Q 2 (fun a' w' => ActInv D13 a0 53 (M13 r wb rb sb i nL cap z k m yw W Rw) (s.setIfInBounds 2 true) a' w') (actOf D13 V s a0 53) w := by
  have hun := ready_un hr
  have d1 := ready_on hr 1 (by kernel_rfl)
  have x0 : (actOf D13 V s a0 53).eval (.tmp 116) = .bool false := (H.ev 1 116 (by decide) (by kernel_rfl) d1 (by decide)).trans (hM.p 1 (by decide) (by decide) d1)
  exact act_val dd13 op13_2 (by kernel_rfl) rfl (by decide) hun (ex_move (.tmp 116) rfl x0) (hM.pure (by decide) (by decide) (by decide) rfl)
theorem st13_3 (H : H13 a0 r wb rb sb i nL cap z k m yw W Rw) (hr : 3 ∈ Region.ready .any rg13.toArray s) (hM : M13 r wb rb sb i nL cap z k m yw W Rw s V w) : wpOp Tryz.prog rg13.toArray Q 3 (fun a' w' => ActInv D13 a0 53 (M13 r wb rb sb i nL cap z k m yw W Rw) (s.setIfInBounds 3 true) a' w') (actOf D13 V s a0 53) w := by
  have hun := ready_un hr
  have d2 := ready_on hr 2 (by kernel_rfl)
  have x0 := H.x7 (s := s) (V := V)
  exact act_valg dd13 op13_3 (by kernel_rfl) (wanted_of rfl op13_2 rfl (H.gd hM 2 117 (by decide) (by kernel_rfl) (by decide) (by decide) (by kernel_rfl) d2)) (by decide) hun (ex_move (.tmp 7) rfl x0) (hM.pure (by decide) (by decide) (by decide) rfl)
theorem st13_4 (H : H13 a0 r wb rb sb i nL cap z k m yw W Rw) (hr : 4 ∈ Region.ready .any rg13.toArray s) (hM : M13 r wb rb sb i nL cap z k m yw W Rw s V w) : wpOp Tryz.prog rg13.toArray Q 4 (fun a' w' => ActInv D13 a0 53 (M13 r wb rb sb i nL cap z k m yw W Rw) (s.setIfInBounds 4 true) a' w') (actOf D13 V s a0 53) w := by
  have hun := ready_un hr
  have d2 := ready_on hr 2 (by kernel_rfl)
  have x0 := H.x1 (s := s) (V := V)
  exact act_valg dd13 op13_4 (by kernel_rfl) (wanted_of rfl op13_2 rfl (H.gd hM 2 117 (by decide) (by kernel_rfl) (by decide) (by decide) (by kernel_rfl) d2)) (by decide) hun (ex_move (.tmp 1) rfl x0) (hM.pure (by decide) (by decide) (by decide) rfl)
theorem st13_5 (H : H13 a0 r wb rb sb i nL cap z k m yw W Rw) (hr : 5 ∈ Region.ready .any rg13.toArray s) (hM : M13 r wb rb sb i nL cap z k m yw W Rw s V w) : wpOp Tryz.prog rg13.toArray Q 5 (fun a' w' => ActInv D13 a0 53 (M13 r wb rb sb i nL cap z k m yw W Rw) (s.setIfInBounds 5 true) a' w') (actOf D13 V s a0 53) w := by
  have hun := ready_un hr
  have d2 := ready_on hr 2 (by kernel_rfl)
  have x0 := H.x6 (s := s) (V := V)
  exact act_valg dd13 op13_5 (by kernel_rfl) (wanted_of rfl op13_2 rfl (H.gd hM 2 117 (by decide) (by kernel_rfl) (by decide) (by decide) (by kernel_rfl) d2)) (by decide) hun (ex_move (.tmp 6) rfl x0) (hM.pure (by decide) (by decide) (by decide) rfl)
theorem st13_6 (H : H13 a0 r wb rb sb i nL cap z k m yw W Rw) (hr : 6 ∈ Region.ready .any rg13.toArray s) (hM : M13 r wb rb sb i nL cap z k m yw W Rw s V w) : wpOp Tryz.prog rg13.toArray Q 6 (fun a' w' => ActInv D13 a0 53 (M13 r wb rb sb i nL cap z k m yw W Rw) (s.setIfInBounds 6 true) a' w') (actOf D13 V s a0 53) w := by
  have hun := ready_un hr
  have d2 := ready_on hr 2 (by kernel_rfl)
  have d4 := ready_on hr 4 (by kernel_rfl)
  have x0 : (actOf D13 V s a0 53).eval (.tmp 119) = .pointer (some ⟨wb, 0, none⟩) := (H.ev 4 119 (by decide) (by kernel_rfl) d4 (by decide)).trans (hM.p 4 (by decide) (by decide) d4)
  have d5 := ready_on hr 5 (by kernel_rfl)
  have x1 : (actOf D13 V s a0 53).eval (.tmp 120) = .int .i64 i := (H.ev 5 120 (by decide) (by kernel_rfl) d5 (by decide)).trans (hM.p 5 (by decide) (by decide) d5)
  refine act_callg dd13 op13_6 (by kernel_rfl) (wanted_of rfl op13_2 rfl (H.gd hM 2 117 (by decide) (by kernel_rfl) (by decide) (by decide) (by kernel_rfl) d2)) (by decide) hun 68 #[.tmp 119, .tmp 120] #[27, 3] rfl #[.pointer (some ⟨wb, 0, none⟩), .int .i64 i] ?_ (ent13_6 _ _) ((H.hc6 w hM.b).mono ?_)
  · simp only [List.map_toArray, List.map_cons, List.map_nil, x0, x1]
  · rintro e w' ⟨rfl, hb⟩
    exact ⟨_, rfl, hM.call 0 8 (by decide) rfl rfl (by decide) (.inl rfl) hun rfl hb⟩
theorem st13_7 (H : H13 a0 r wb rb sb i nL cap z k m yw W Rw) (hr : 7 ∈ Region.ready .any rg13.toArray s) (hM : M13 r wb rb sb i nL cap z k m yw W Rw s V w) : wpOp Tryz.prog rg13.toArray Q 7 (fun a' w' => ActInv D13 a0 53 (M13 r wb rb sb i nL cap z k m yw W Rw) (s.setIfInBounds 7 true) a' w') (actOf D13 V s a0 53) w := by
  have hun := ready_un hr
  have d2 := ready_on hr 2 (by kernel_rfl)
  have d3 := ready_on hr 3 (by kernel_rfl)
  have x0 : (actOf D13 V s a0 53).eval (.tmp 118) = .int .i64 z := (H.ev 3 118 (by decide) (by kernel_rfl) d3 (by decide)).trans (hM.p 3 (by decide) (by decide) d3)
  have d6 := ready_on hr 6 (by kernel_rfl)
  have x1 : (actOf D13 V s a0 53).eval (.tmp 121) = .int .i64 z := (H.ev 6 121 (by decide) (by kernel_rfl) d6 (by decide)).trans (hM.p 6 (by decide) (by decide) d6)
  exact act_valg dd13 op13_7 (by kernel_rfl) (wanted_of rfl op13_2 rfl (H.gd hM 2 117 (by decide) (by kernel_rfl) (by decide) (by decide) (by kernel_rfl) d2)) (by decide) hun (ex_neqB (.tmp 118) (.tmp 121) 2 2 rfl x0 x1 (nq_int _ _ _ w)) (hM.pure (by decide) (by decide) (by decide) rfl)
theorem st13_8 (H : H13 a0 r wb rb sb i nL cap z k m yw W Rw) (hr : 8 ∈ Region.ready .any rg13.toArray s) (hM : M13 r wb rb sb i nL cap z k m yw W Rw s V w) : wpOp Tryz.prog rg13.toArray Q 8 (fun a' w' => ActInv D13 a0 53 (M13 r wb rb sb i nL cap z k m yw W Rw) (s.setIfInBounds 8 true) a' w') (actOf D13 V s a0 53) w := by
  have hun := ready_un hr
  have d2 := ready_on hr 2 (by kernel_rfl)
  have x0 : (actOf D13 V s a0 53).eval (.tmp 117) = .bool false := (H.ev 2 117 (by decide) (by kernel_rfl) d2 (by decide)).trans (hM.p 2 (by decide) (by decide) d2)
  have d7 := ready_on hr 7 (by kernel_rfl)
  have x1 : (actOf D13 V s a0 53).eval (.tmp 122) = .bool false := (H.ev 7 122 (by decide) (by kernel_rfl) d7 (by decide)).trans (hM.p 7 (by decide) (by decide) d7)
  exact act_val dd13 op13_8 (by kernel_rfl) rfl (by decide) hun (ex_pick (.tmp 117) (.const (.bool true)) (.tmp 122) rfl x0 x1) (hM.pure (by decide) (by decide) (by decide) rfl)
theorem st13_9 (H : H13 a0 r wb rb sb i nL cap z k m yw W Rw) (hr : 9 ∈ Region.ready .any rg13.toArray s) (hM : M13 r wb rb sb i nL cap z k m yw W Rw s V w) : wpOp Tryz.prog rg13.toArray Q 9 (fun a' w' => ActInv D13 a0 53 (M13 r wb rb sb i nL cap z k m yw W Rw) (s.setIfInBounds 9 true) a' w') (actOf D13 V s a0 53) w := by
  have hun := ready_un hr
  have d6 := ready_on hr 6 (by kernel_rfl)
  have d8 := ready_on hr 8 (by kernel_rfl)
  have x0 : (actOf D13 V s a0 53).eval (.tmp 123) = .bool false := (H.ev 8 123 (by decide) (by kernel_rfl) d8 (by decide)).trans (hM.p 8 (by decide) (by decide) d8)
  exact act_val dd13 op13_9 (by kernel_rfl) rfl (by decide) hun (ex_move (.tmp 123) rfl x0) (hM.call 1 8 (by decide) rfl rfl (by decide) (.inr d6) hun rfl (Below.refl _ _))
theorem st13_10 (H : H13 a0 r wb rb sb i nL cap z k m yw W Rw) (hr : 10 ∈ Region.ready .any rg13.toArray s) (hM : M13 r wb rb sb i nL cap z k m yw W Rw s V w) : wpOp Tryz.prog rg13.toArray Q 10 (fun a' w' => ActInv D13 a0 53 (M13 r wb rb sb i nL cap z k m yw W Rw) (s.setIfInBounds 10 true) a' w') (actOf D13 V s a0 53) w := by
  have hun := ready_un hr
  have d9 := ready_on hr 9 (by kernel_rfl)
  have x0 := H.x0 (s := s) (V := V)
  exact act_valg dd13 op13_10 (by kernel_rfl) (wanted_of rfl op13_9 rfl (H.gd hM 9 124 (by decide) (by kernel_rfl) (by decide) (by decide) (by kernel_rfl) d9)) (by decide) hun (ex_move (.tmp 0) rfl x0) (hM.pure (by decide) (by decide) (by decide) rfl)
theorem st13_11 (H : H13 a0 r wb rb sb i nL cap z k m yw W Rw) (hr : 11 ∈ Region.ready .any rg13.toArray s) (hM : M13 r wb rb sb i nL cap z k m yw W Rw s V w) : wpOp Tryz.prog rg13.toArray Q 11 (fun a' w' => ActInv D13 a0 53 (M13 r wb rb sb i nL cap z k m yw W Rw) (s.setIfInBounds 11 true) a' w') (actOf D13 V s a0 53) w := by
  have hun := ready_un hr
  have d9 := ready_on hr 9 (by kernel_rfl)
  have x0 := H.x6 (s := s) (V := V)
  exact act_valg dd13 op13_11 (by kernel_rfl) (wanted_of rfl op13_9 rfl (H.gd hM 9 124 (by decide) (by kernel_rfl) (by decide) (by decide) (by kernel_rfl) d9)) (by decide) hun (ex_move (.tmp 6) rfl x0) (hM.pure (by decide) (by decide) (by decide) rfl)
theorem st13_12 (H : H13 a0 r wb rb sb i nL cap z k m yw W Rw) (hr : 12 ∈ Region.ready .any rg13.toArray s) (hM : M13 r wb rb sb i nL cap z k m yw W Rw s V w) : wpOp Tryz.prog rg13.toArray Q 12 (fun a' w' => ActInv D13 a0 53 (M13 r wb rb sb i nL cap z k m yw W Rw) (s.setIfInBounds 12 true) a' w') (actOf D13 V s a0 53) w := by
  have hun := ready_un hr
  have d9 := ready_on hr 9 (by kernel_rfl)
  have d10 := ready_on hr 10 (by kernel_rfl)
  have x0 : (actOf D13 V s a0 53).eval (.tmp 125) = .pointer (some ⟨r, 0, none⟩) := (H.ev 10 125 (by decide) (by kernel_rfl) d10 (by decide)).trans (hM.p 10 (by decide) (by decide) d10)
  have d11 := ready_on hr 11 (by kernel_rfl)
  have x1 : (actOf D13 V s a0 53).eval (.tmp 126) = .int .i64 i := (H.ev 11 126 (by decide) (by kernel_rfl) d11 (by decide)).trans (hM.p 11 (by decide) (by decide) d11)
  refine act_callg dd13 op13_12 (by kernel_rfl) (wanted_of rfl op13_9 rfl (H.gd hM 9 124 (by decide) (by kernel_rfl) (by decide) (by decide) (by kernel_rfl) d9)) (by decide) hun 31 #[.tmp 125, .tmp 126] #[25, 3] rfl #[.pointer (some ⟨r, 0, none⟩), .int .i64 i] ?_ (ent13_12 _ _) ((H.hc12 w hM.b).mono ?_)
  · simp only [List.map_toArray, List.map_cons, List.map_nil, x0, x1]
  · rintro e w' ⟨rfl, hb⟩
    exact ⟨_, rfl, hM.call 2 8 (by decide) rfl rfl (by decide) (.inr d9) hun rfl hb⟩
theorem st13_13 (H : H13 a0 r wb rb sb i nL cap z k m yw W Rw) (hr : 13 ∈ Region.ready .any rg13.toArray s) (hM : M13 r wb rb sb i nL cap z k m yw W Rw s V w) : wpOp Tryz.prog rg13.toArray Q 13 (fun a' w' => ActInv D13 a0 53 (M13 r wb rb sb i nL cap z k m yw W Rw) (s.setIfInBounds 13 true) a' w') (actOf D13 V s a0 53) w := by
  have hun := ready_un hr
  have d9 := ready_on hr 9 (by kernel_rfl)
  have x0 := H.x1 (s := s) (V := V)
  exact act_valg dd13 op13_13 (by kernel_rfl) (wanted_of rfl op13_9 rfl (H.gd hM 9 124 (by decide) (by kernel_rfl) (by decide) (by decide) (by kernel_rfl) d9)) (by decide) hun (ex_move (.tmp 1) rfl x0) (hM.pure (by decide) (by decide) (by decide) rfl)
theorem st13_14 (H : H13 a0 r wb rb sb i nL cap z k m yw W Rw) (hr : 14 ∈ Region.ready .any rg13.toArray s) (hM : M13 r wb rb sb i nL cap z k m yw W Rw s V w) : wpOp Tryz.prog rg13.toArray Q 14 (fun a' w' => ActInv D13 a0 53 (M13 r wb rb sb i nL cap z k m yw W Rw) (s.setIfInBounds 14 true) a' w') (actOf D13 V s a0 53) w := by
  have hun := ready_un hr
  have d9 := ready_on hr 9 (by kernel_rfl)
  have d13 := ready_on hr 13 (by kernel_rfl)
  have x0 : (actOf D13 V s a0 53).eval (.tmp 128) = .pointer (some ⟨wb, 0, none⟩) := (H.ev 13 128 (by decide) (by kernel_rfl) d13 (by decide)).trans (hM.p 13 (by decide) (by decide) d13)
  exact act_valg dd13 op13_14 (by kernel_rfl) (wanted_of rfl op13_9 rfl (H.gd hM 9 124 (by decide) (by kernel_rfl) (by decide) (by decide) (by kernel_rfl) d9)) (by decide) hun (ex_nilc (.tmp 128) rfl x0) (hM.pure (by decide) (by decide) (by decide) rfl)
theorem st13_15 (H : H13 a0 r wb rb sb i nL cap z k m yw W Rw) (hr : 15 ∈ Region.ready .any rg13.toArray s) (hM : M13 r wb rb sb i nL cap z k m yw W Rw s V w) : wpOp Tryz.prog rg13.toArray Q 15 (fun a' w' => ActInv D13 a0 53 (M13 r wb rb sb i nL cap z k m yw W Rw) (s.setIfInBounds 15 true) a' w') (actOf D13 V s a0 53) w := by
  have hun := ready_un hr
  have d9 := ready_on hr 9 (by kernel_rfl)
  have d14 := ready_on hr 14 (by kernel_rfl)
  have x0 : (actOf D13 V s a0 53).eval (.tmp 129) = .pointer (some ⟨wb, 0, none⟩) := (H.ev 14 129 (by decide) (by kernel_rfl) d14 (by decide)).trans (hM.p 14 (by decide) (by decide) d14)
  exact act_valg dd13 op13_15 (by kernel_rfl) (wanted_of rfl op13_9 rfl (H.gd hM 9 124 (by decide) (by kernel_rfl) (by decide) (by decide) (by kernel_rfl) d9)) (by decide) hun (ex_field 120 (.tmp 129) 3 rfl x0 (fa_w3 wb w)) (hM.pure (by decide) (by decide) (by decide) rfl)
theorem st13_16 (H : H13 a0 r wb rb sb i nL cap z k m yw W Rw) (hr : 16 ∈ Region.ready .any rg13.toArray s) (hM : M13 r wb rb sb i nL cap z k m yw W Rw s V w) : wpOp Tryz.prog rg13.toArray Q 16 (fun a' w' => ActInv D13 a0 53 (M13 r wb rb sb i nL cap z k m yw W Rw) (s.setIfInBounds 16 true) a' w') (actOf D13 V s a0 53) w := by
  have hun := ready_un hr
  have d9 := ready_on hr 9 (by kernel_rfl)
  have d15 := ready_on hr 15 (by kernel_rfl)
  have x0 : (actOf D13 V s a0 53).eval (.tmp 130) = .pointer (some ⟨wb, 4, none⟩) := (H.ev 15 130 (by decide) (by kernel_rfl) d15 (by decide)).trans (hM.p 15 (by decide) (by decide) d15)
  exact act_valg dd13 op13_16 (by kernel_rfl) (wanted_of rfl op13_9 rfl (H.gd hM 9 124 (by decide) (by kernel_rfl) (by decide) (by decide) (by kernel_rfl) d9)) (by decide) hun (ex_load 118 (.tmp 130) rfl x0 (H.l4 hM)) (hM.pure (by decide) (by decide) (by decide) rfl)
theorem st13_17 (H : H13 a0 r wb rb sb i nL cap z k m yw W Rw) (hr : 17 ∈ Region.ready .any rg13.toArray s) (hM : M13 r wb rb sb i nL cap z k m yw W Rw s V w) : wpOp Tryz.prog rg13.toArray Q 17 (fun a' w' => ActInv D13 a0 53 (M13 r wb rb sb i nL cap z k m yw W Rw) (s.setIfInBounds 17 true) a' w') (actOf D13 V s a0 53) w := by
  have hun := ready_un hr
  have d9 := ready_on hr 9 (by kernel_rfl)
  have x0 := H.x6 (s := s) (V := V)
  exact act_valg dd13 op13_17 (by kernel_rfl) (wanted_of rfl op13_9 rfl (H.gd hM 9 124 (by decide) (by kernel_rfl) (by decide) (by decide) (by kernel_rfl) d9)) (by decide) hun (ex_move (.tmp 6) rfl x0) (hM.pure (by decide) (by decide) (by decide) rfl)
theorem st13_18 (H : H13 a0 r wb rb sb i nL cap z k m yw W Rw) (hr : 18 ∈ Region.ready .any rg13.toArray s) (hM : M13 r wb rb sb i nL cap z k m yw W Rw s V w) : wpOp Tryz.prog rg13.toArray Q 18 (fun a' w' => ActInv D13 a0 53 (M13 r wb rb sb i nL cap z k m yw W Rw) (s.setIfInBounds 18 true) a' w') (actOf D13 V s a0 53) w := by
  have hun := ready_un hr
  have d9 := ready_on hr 9 (by kernel_rfl)
  have d16 := ready_on hr 16 (by kernel_rfl)
  have x0 : (actOf D13 V s a0 53).eval (.tmp 131) = .slice (some ⟨rb, 0, none⟩) nL cap := (H.ev 16 131 (by decide) (by kernel_rfl) d16 (by decide)).trans (hM.p 16 (by decide) (by decide) d16)
  have d17 := ready_on hr 17 (by kernel_rfl)
  have x1 : (actOf D13 V s a0 53).eval (.tmp 132) = .int .i64 i := (H.ev 17 132 (by decide) (by kernel_rfl) d17 (by decide)).trans (hM.p 17 (by decide) (by decide) d17)
  exact act_valg dd13 op13_18 (by kernel_rfl) (wanted_of rfl op13_9 rfl (H.gd hM 9 124 (by decide) (by kernel_rfl) (by decide) (by decide) (by kernel_rfl) d9)) (by decide) hun (ex_index 118 (.tmp 131) (.tmp 132) rfl x0 x1 (ia_r rb i nL cap H.hi H.hn w)) (hM.pure (by decide) (by decide) (by decide) rfl)
theorem st13_19 (H : H13 a0 r wb rb sb i nL cap z k m yw W Rw) (hr : 19 ∈ Region.ready .any rg13.toArray s) (hM : M13 r wb rb sb i nL cap z k m yw W Rw s V w) : wpOp Tryz.prog rg13.toArray Q 19 (fun a' w' => ActInv D13 a0 53 (M13 r wb rb sb i nL cap z k m yw W Rw) (s.setIfInBounds 19 true) a' w') (actOf D13 V s a0 53) w := by
  have hun := ready_un hr
  have d9 := ready_on hr 9 (by kernel_rfl)
  have d18 := ready_on hr 18 (by kernel_rfl)
  have x0 : (actOf D13 V s a0 53).eval (.tmp 133) = .pointer (some ⟨rb, i * 9, none⟩) := (H.ev 18 133 (by decide) (by kernel_rfl) d18 (by decide)).trans (hM.p 18 (by decide) (by decide) d18)
  exact act_valg dd13 op13_19 (by kernel_rfl) (wanted_of rfl op13_9 rfl (H.gd hM 9 124 (by decide) (by kernel_rfl) (by decide) (by decide) (by kernel_rfl) d9)) (by decide) hun (ex_field 139 (.tmp 133) 1 rfl x0 (fa_r1 rb (i * 9) w)) (hM.pure (by decide) (by decide) (by decide) rfl)
theorem st13_20 (H : H13 a0 r wb rb sb i nL cap z k m yw W Rw) (hr : 20 ∈ Region.ready .any rg13.toArray s) (hM : M13 r wb rb sb i nL cap z k m yw W Rw s V w) : wpOp Tryz.prog rg13.toArray Q 20 (fun a' w' => ActInv D13 a0 53 (M13 r wb rb sb i nL cap z k m yw W Rw) (s.setIfInBounds 20 true) a' w') (actOf D13 V s a0 53) w := by
  have hun := ready_un hr
  have d9 := ready_on hr 9 (by kernel_rfl)
  have d19 := ready_on hr 19 (by kernel_rfl)
  have x0 : (actOf D13 V s a0 53).eval (.tmp 134) = .pointer (some ⟨rb, i * 9 + 1, none⟩) := (H.ev 19 134 (by decide) (by kernel_rfl) d19 (by decide)).trans (hM.p 19 (by decide) (by decide) d19)
  exact act_valg dd13 op13_20 (by kernel_rfl) (wanted_of rfl op13_9 rfl (H.gd hM 9 124 (by decide) (by kernel_rfl) (by decide) (by decide) (by kernel_rfl) d9)) (by decide) hun (ex_load 4 (.tmp 134) rfl x0 (H.l1 hM)) (hM.pure (by decide) (by decide) (by decide) rfl)
theorem st13_21 (H : H13 a0 r wb rb sb i nL cap z k m yw W Rw) (hr : 21 ∈ Region.ready .any rg13.toArray s) (hM : M13 r wb rb sb i nL cap z k m yw W Rw s V w) : wpOp Tryz.prog rg13.toArray Q 21 (fun a' w' => ActInv D13 a0 53 (M13 r wb rb sb i nL cap z k m yw W Rw) (s.setIfInBounds 21 true) a' w') (actOf D13 V s a0 53) w := by
  have hun := ready_un hr
  have d9 := ready_on hr 9 (by kernel_rfl)
  have d12 := ready_on hr 12 (by kernel_rfl)
  have x0 : (actOf D13 V s a0 53).eval (.tmp 127) = .bool m := (H.ev 12 127 (by decide) (by kernel_rfl) d12 (by decide)).trans (hM.p 12 (by decide) (by decide) d12)
  have d20 := ready_on hr 20 (by kernel_rfl)
  have x1 : (actOf D13 V s a0 53).eval (.tmp 135) = .bool m := (H.ev 20 135 (by decide) (by kernel_rfl) d20 (by decide)).trans (hM.p 20 (by decide) (by decide) d20)
  exact act_valg dd13 op13_21 (by kernel_rfl) (wanted_of rfl op13_9 rfl (H.gd hM 9 124 (by decide) (by kernel_rfl) (by decide) (by decide) (by kernel_rfl) d9)) (by decide) hun (ex_neqB (.tmp 127) (.tmp 135) 4 4 rfl x0 x1 (nq_bool _ _ m w)) (hM.pure (by decide) (by decide) (by decide) rfl)
theorem st13_22 (H : H13 a0 r wb rb sb i nL cap z k m yw W Rw) (hr : 22 ∈ Region.ready .any rg13.toArray s) (hM : M13 r wb rb sb i nL cap z k m yw W Rw s V w) : wpOp Tryz.prog rg13.toArray Q 22 (fun a' w' => ActInv D13 a0 53 (M13 r wb rb sb i nL cap z k m yw W Rw) (s.setIfInBounds 22 true) a' w') (actOf D13 V s a0 53) w := by
  have hun := ready_un hr
  have d9 := ready_on hr 9 (by kernel_rfl)
  have x0 : (actOf D13 V s a0 53).eval (.tmp 124) = .bool false := (H.ev 9 124 (by decide) (by kernel_rfl) d9 (by decide)).trans (hM.p 9 (by decide) (by decide) d9)
  have d21 := ready_on hr 21 (by kernel_rfl)
  have x1 : (actOf D13 V s a0 53).eval (.tmp 136) = .bool false := (H.ev 21 136 (by decide) (by kernel_rfl) d21 (by decide)).trans (hM.p 21 (by decide) (by decide) d21)
  exact act_val dd13 op13_22 (by kernel_rfl) rfl (by decide) hun (ex_pick (.tmp 124) (.const (.bool true)) (.tmp 136) rfl x0 x1) (hM.pure (by decide) (by decide) (by decide) rfl)
theorem st13_23 (H : H13 a0 r wb rb sb i nL cap z k m yw W Rw) (hr : 23 ∈ Region.ready .any rg13.toArray s) (hM : M13 r wb rb sb i nL cap z k m yw W Rw s V w) : wpOp Tryz.prog rg13.toArray Q 23 (fun a' w' => ActInv D13 a0 53 (M13 r wb rb sb i nL cap z k m yw W Rw) (s.setIfInBounds 23 true) a' w') (actOf D13 V s a0 53) w := by
  have hun := ready_un hr
  have d12 := ready_on hr 12 (by kernel_rfl)
  have d22 := ready_on hr 22 (by kernel_rfl)
  have x0 : (actOf D13 V s a0 53).eval (.tmp 137) = .bool false := (H.ev 22 137 (by decide) (by kernel_rfl) d22 (by decide)).trans (hM.p 22 (by decide) (by decide) d22)
  exact act_val dd13 op13_23 (by kernel_rfl) rfl (by decide) hun (ex_move (.tmp 137) rfl x0) (hM.call 3 8 (by decide) rfl rfl (by decide) (.inr d12) hun rfl (Below.refl _ _))
theorem st13_24 (H : H13 a0 r wb rb sb i nL cap z k m yw W Rw) (hr : 24 ∈ Region.ready .any rg13.toArray s) (hM : M13 r wb rb sb i nL cap z k m yw W Rw s V w) : wpOp Tryz.prog rg13.toArray Q 24 (fun a' w' => ActInv D13 a0 53 (M13 r wb rb sb i nL cap z k m yw W Rw) (s.setIfInBounds 24 true) a' w') (actOf D13 V s a0 53) w := by
  have hun := ready_un hr
  have d23 := ready_on hr 23 (by kernel_rfl)
  have x0 := H.x0 (s := s) (V := V)
  exact act_valg dd13 op13_24 (by kernel_rfl) (wanted_of rfl op13_23 rfl (H.gd hM 23 138 (by decide) (by kernel_rfl) (by decide) (by decide) (by kernel_rfl) d23)) (by decide) hun (ex_move (.tmp 0) rfl x0) (hM.pure (by decide) (by decide) (by decide) rfl)
theorem st13_25 (H : H13 a0 r wb rb sb i nL cap z k m yw W Rw) (hr : 25 ∈ Region.ready .any rg13.toArray s) (hM : M13 r wb rb sb i nL cap z k m yw W Rw s V w) : wpOp Tryz.prog rg13.toArray Q 25 (fun a' w' => ActInv D13 a0 53 (M13 r wb rb sb i nL cap z k m yw W Rw) (s.setIfInBounds 25 true) a' w') (actOf D13 V s a0 53) w := by
  have hun := ready_un hr
  have d23 := ready_on hr 23 (by kernel_rfl)
  have x0 := H.x6 (s := s) (V := V)
  exact act_valg dd13 op13_25 (by kernel_rfl) (wanted_of rfl op13_23 rfl (H.gd hM 23 138 (by decide) (by kernel_rfl) (by decide) (by decide) (by kernel_rfl) d23)) (by decide) hun (ex_move (.tmp 6) rfl x0) (hM.pure (by decide) (by decide) (by decide) rfl)
theorem st13_26 (H : H13 a0 r wb rb sb i nL cap z k m yw W Rw) (hr : 26 ∈ Region.ready .any rg13.toArray s) (hM : M13 r wb rb sb i nL cap z k m yw W Rw s V w) : wpOp Tryz.prog rg13.toArray Q 26 (fun a' w' => ActInv D13 a0 53 (M13 r wb rb sb i nL cap z k m yw W Rw) (s.setIfInBounds 26 true) a' w') (actOf D13 V s a0 53) w := by
  have hun := ready_un hr
  have d23 := ready_on hr 23 (by kernel_rfl)
  have d24 := ready_on hr 24 (by kernel_rfl)
  have x0 : (actOf D13 V s a0 53).eval (.tmp 139) = .pointer (some ⟨r, 0, none⟩) := (H.ev 24 139 (by decide) (by kernel_rfl) d24 (by decide)).trans (hM.p 24 (by decide) (by decide) d24)
  have d25 := ready_on hr 25 (by kernel_rfl)
  have x1 : (actOf D13 V s a0 53).eval (.tmp 140) = .int .i64 i := (H.ev 25 140 (by decide) (by kernel_rfl) d25 (by decide)).trans (hM.p 25 (by decide) (by decide) d25)
  refine act_callg dd13 op13_26 (by kernel_rfl) (wanted_of rfl op13_23 rfl (H.gd hM 23 138 (by decide) (by kernel_rfl) (by decide) (by decide) (by kernel_rfl) d23)) (by decide) hun 39 #[.tmp 139, .tmp 140] #[25, 3] rfl #[.pointer (some ⟨r, 0, none⟩), .int .i64 i] ?_ (ent13_26 _ _) ((H.hc26 w hM.b).mono ?_)
  · simp only [List.map_toArray, List.map_cons, List.map_nil, x0, x1]
  · rintro e w' ⟨rfl, hb⟩
    exact ⟨_, rfl, hM.call 4 8 (by decide) rfl rfl (by decide) (.inr d23) hun rfl hb⟩
theorem st13_27 (H : H13 a0 r wb rb sb i nL cap z k m yw W Rw) (hr : 27 ∈ Region.ready .any rg13.toArray s) (hM : M13 r wb rb sb i nL cap z k m yw W Rw s V w) : wpOp Tryz.prog rg13.toArray Q 27 (fun a' w' => ActInv D13 a0 53 (M13 r wb rb sb i nL cap z k m yw W Rw) (s.setIfInBounds 27 true) a' w') (actOf D13 V s a0 53) w := by
  have hun := ready_un hr
  have d23 := ready_on hr 23 (by kernel_rfl)
  have d26 := ready_on hr 26 (by kernel_rfl)
  have x0 : (actOf D13 V s a0 53).eval (.tmp 141) = .pointer (some ⟨sb, 0, none⟩) := (H.ev 26 141 (by decide) (by kernel_rfl) d26 (by decide)).trans (hM.p 26 (by decide) (by decide) d26)
  refine act_callg dd13 op13_27 (by kernel_rfl) (wanted_of rfl op13_23 rfl (H.gd hM 23 138 (by decide) (by kernel_rfl) (by decide) (by decide) (by kernel_rfl) d23)) (by decide) hun 50 #[.tmp 141] #[87] rfl #[.pointer (some ⟨sb, 0, none⟩)] ?_ (ent13_27 _ _) ((H.hc27 w hM.b).mono ?_)
  · simp only [List.map_toArray, List.map_cons, List.map_nil, x0]
  · rintro e w' ⟨rfl, hb⟩
    exact ⟨_, rfl, hM.call 5 8 (by decide) rfl rfl (by decide) (.inr d26) hun rfl hb⟩
theorem st13_28 (H : H13 a0 r wb rb sb i nL cap z k m yw W Rw) (hr : 28 ∈ Region.ready .any rg13.toArray s) (hM : M13 r wb rb sb i nL cap z k m yw W Rw s V w) : wpOp Tryz.prog rg13.toArray Q 28 (fun a' w' => ActInv D13 a0 53 (M13 r wb rb sb i nL cap z k m yw W Rw) (s.setIfInBounds 28 true) a' w') (actOf D13 V s a0 53) w := by
  have hun := ready_un hr
  have d23 := ready_on hr 23 (by kernel_rfl)
  have d27 := ready_on hr 27 (by kernel_rfl)
  have x0 : (actOf D13 V s a0 53).eval (.tmp 142) = .agg #[.int .u8 k] := (H.ev 27 142 (by decide) (by kernel_rfl) d27 (by decide)).trans (hM.p 27 (by decide) (by decide) d27)
  refine act_callg dd13 op13_28 (by kernel_rfl) (wanted_of rfl op13_23 rfl (H.gd hM 23 138 (by decide) (by kernel_rfl) (by decide) (by decide) (by kernel_rfl) d23)) (by decide) hun 51 #[.tmp 142] #[100] rfl #[.agg #[.int .u8 k]] ?_ (ent13_28 _ _) ((H.hc28 w hM.b).mono ?_)
  · simp only [List.map_toArray, List.map_cons, List.map_nil, x0]
  · rintro e w' ⟨rfl, hb⟩
    exact ⟨_, rfl, hM.call 6 8 (by decide) rfl rfl (by decide) (.inr d27) hun rfl hb⟩
theorem st13_29 (H : H13 a0 r wb rb sb i nL cap z k m yw W Rw) (hr : 29 ∈ Region.ready .any rg13.toArray s) (hM : M13 r wb rb sb i nL cap z k m yw W Rw s V w) : wpOp Tryz.prog rg13.toArray Q 29 (fun a' w' => ActInv D13 a0 53 (M13 r wb rb sb i nL cap z k m yw W Rw) (s.setIfInBounds 29 true) a' w') (actOf D13 V s a0 53) w := by
  have hun := ready_un hr
  have d23 := ready_on hr 23 (by kernel_rfl)
  have x0 := H.x1 (s := s) (V := V)
  exact act_valg dd13 op13_29 (by kernel_rfl) (wanted_of rfl op13_23 rfl (H.gd hM 23 138 (by decide) (by kernel_rfl) (by decide) (by decide) (by kernel_rfl) d23)) (by decide) hun (ex_move (.tmp 1) rfl x0) (hM.pure (by decide) (by decide) (by decide) rfl)
theorem st13_30 (H : H13 a0 r wb rb sb i nL cap z k m yw W Rw) (hr : 30 ∈ Region.ready .any rg13.toArray s) (hM : M13 r wb rb sb i nL cap z k m yw W Rw s V w) : wpOp Tryz.prog rg13.toArray Q 30 (fun a' w' => ActInv D13 a0 53 (M13 r wb rb sb i nL cap z k m yw W Rw) (s.setIfInBounds 30 true) a' w') (actOf D13 V s a0 53) w := by
  have hun := ready_un hr
  have d23 := ready_on hr 23 (by kernel_rfl)
  have d29 := ready_on hr 29 (by kernel_rfl)
  have x0 : (actOf D13 V s a0 53).eval (.tmp 144) = .pointer (some ⟨wb, 0, none⟩) := (H.ev 29 144 (by decide) (by kernel_rfl) d29 (by decide)).trans (hM.p 29 (by decide) (by decide) d29)
  exact act_valg dd13 op13_30 (by kernel_rfl) (wanted_of rfl op13_23 rfl (H.gd hM 23 138 (by decide) (by kernel_rfl) (by decide) (by decide) (by kernel_rfl) d23)) (by decide) hun (ex_nilc (.tmp 144) rfl x0) (hM.pure (by decide) (by decide) (by decide) rfl)
theorem st13_31 (H : H13 a0 r wb rb sb i nL cap z k m yw W Rw) (hr : 31 ∈ Region.ready .any rg13.toArray s) (hM : M13 r wb rb sb i nL cap z k m yw W Rw s V w) : wpOp Tryz.prog rg13.toArray Q 31 (fun a' w' => ActInv D13 a0 53 (M13 r wb rb sb i nL cap z k m yw W Rw) (s.setIfInBounds 31 true) a' w') (actOf D13 V s a0 53) w := by
  have hun := ready_un hr
  have d23 := ready_on hr 23 (by kernel_rfl)
  have d30 := ready_on hr 30 (by kernel_rfl)
  have x0 : (actOf D13 V s a0 53).eval (.tmp 145) = .pointer (some ⟨wb, 0, none⟩) := (H.ev 30 145 (by decide) (by kernel_rfl) d30 (by decide)).trans (hM.p 30 (by decide) (by decide) d30)
  exact act_valg dd13 op13_31 (by kernel_rfl) (wanted_of rfl op13_23 rfl (H.gd hM 23 138 (by decide) (by kernel_rfl) (by decide) (by decide) (by kernel_rfl) d23)) (by decide) hun (ex_field 120 (.tmp 145) 3 rfl x0 (fa_w3 wb w)) (hM.pure (by decide) (by decide) (by decide) rfl)
theorem st13_32 (H : H13 a0 r wb rb sb i nL cap z k m yw W Rw) (hr : 32 ∈ Region.ready .any rg13.toArray s) (hM : M13 r wb rb sb i nL cap z k m yw W Rw s V w) : wpOp Tryz.prog rg13.toArray Q 32 (fun a' w' => ActInv D13 a0 53 (M13 r wb rb sb i nL cap z k m yw W Rw) (s.setIfInBounds 32 true) a' w') (actOf D13 V s a0 53) w := by
  have hun := ready_un hr
  have d23 := ready_on hr 23 (by kernel_rfl)
  have d31 := ready_on hr 31 (by kernel_rfl)
  have x0 : (actOf D13 V s a0 53).eval (.tmp 146) = .pointer (some ⟨wb, 4, none⟩) := (H.ev 31 146 (by decide) (by kernel_rfl) d31 (by decide)).trans (hM.p 31 (by decide) (by decide) d31)
  exact act_valg dd13 op13_32 (by kernel_rfl) (wanted_of rfl op13_23 rfl (H.gd hM 23 138 (by decide) (by kernel_rfl) (by decide) (by decide) (by kernel_rfl) d23)) (by decide) hun (ex_load 118 (.tmp 146) rfl x0 (H.l4 hM)) (hM.pure (by decide) (by decide) (by decide) rfl)
theorem st13_33 (H : H13 a0 r wb rb sb i nL cap z k m yw W Rw) (hr : 33 ∈ Region.ready .any rg13.toArray s) (hM : M13 r wb rb sb i nL cap z k m yw W Rw s V w) : wpOp Tryz.prog rg13.toArray Q 33 (fun a' w' => ActInv D13 a0 53 (M13 r wb rb sb i nL cap z k m yw W Rw) (s.setIfInBounds 33 true) a' w') (actOf D13 V s a0 53) w := by
  have hun := ready_un hr
  have d23 := ready_on hr 23 (by kernel_rfl)
  have x0 := H.x6 (s := s) (V := V)
  exact act_valg dd13 op13_33 (by kernel_rfl) (wanted_of rfl op13_23 rfl (H.gd hM 23 138 (by decide) (by kernel_rfl) (by decide) (by decide) (by kernel_rfl) d23)) (by decide) hun (ex_move (.tmp 6) rfl x0) (hM.pure (by decide) (by decide) (by decide) rfl)
theorem st13_34 (H : H13 a0 r wb rb sb i nL cap z k m yw W Rw) (hr : 34 ∈ Region.ready .any rg13.toArray s) (hM : M13 r wb rb sb i nL cap z k m yw W Rw s V w) : wpOp Tryz.prog rg13.toArray Q 34 (fun a' w' => ActInv D13 a0 53 (M13 r wb rb sb i nL cap z k m yw W Rw) (s.setIfInBounds 34 true) a' w') (actOf D13 V s a0 53) w := by
  have hun := ready_un hr
  have d23 := ready_on hr 23 (by kernel_rfl)
  have d32 := ready_on hr 32 (by kernel_rfl)
  have x0 : (actOf D13 V s a0 53).eval (.tmp 147) = .slice (some ⟨rb, 0, none⟩) nL cap := (H.ev 32 147 (by decide) (by kernel_rfl) d32 (by decide)).trans (hM.p 32 (by decide) (by decide) d32)
  have d33 := ready_on hr 33 (by kernel_rfl)
  have x1 : (actOf D13 V s a0 53).eval (.tmp 148) = .int .i64 i := (H.ev 33 148 (by decide) (by kernel_rfl) d33 (by decide)).trans (hM.p 33 (by decide) (by decide) d33)
  exact act_valg dd13 op13_34 (by kernel_rfl) (wanted_of rfl op13_23 rfl (H.gd hM 23 138 (by decide) (by kernel_rfl) (by decide) (by decide) (by kernel_rfl) d23)) (by decide) hun (ex_index 118 (.tmp 147) (.tmp 148) rfl x0 x1 (ia_r rb i nL cap H.hi H.hn w)) (hM.pure (by decide) (by decide) (by decide) rfl)
theorem st13_35 (H : H13 a0 r wb rb sb i nL cap z k m yw W Rw) (hr : 35 ∈ Region.ready .any rg13.toArray s) (hM : M13 r wb rb sb i nL cap z k m yw W Rw s V w) : wpOp Tryz.prog rg13.toArray Q 35 (fun a' w' => ActInv D13 a0 53 (M13 r wb rb sb i nL cap z k m yw W Rw) (s.setIfInBounds 35 true) a' w') (actOf D13 V s a0 53) w := by
  have hun := ready_un hr
  have d23 := ready_on hr 23 (by kernel_rfl)
  have d34 := ready_on hr 34 (by kernel_rfl)
  have x0 : (actOf D13 V s a0 53).eval (.tmp 149) = .pointer (some ⟨rb, i * 9, none⟩) := (H.ev 34 149 (by decide) (by kernel_rfl) d34 (by decide)).trans (hM.p 34 (by decide) (by decide) d34)
  exact act_valg dd13 op13_35 (by kernel_rfl) (wanted_of rfl op13_23 rfl (H.gd hM 23 138 (by decide) (by kernel_rfl) (by decide) (by decide) (by kernel_rfl) d23)) (by decide) hun (ex_field 139 (.tmp 149) 0 rfl x0 (fa_r0 rb (i * 9) w)) (hM.pure (by decide) (by decide) (by decide) rfl)
theorem st13_36 (H : H13 a0 r wb rb sb i nL cap z k m yw W Rw) (hr : 36 ∈ Region.ready .any rg13.toArray s) (hM : M13 r wb rb sb i nL cap z k m yw W Rw s V w) : wpOp Tryz.prog rg13.toArray Q 36 (fun a' w' => ActInv D13 a0 53 (M13 r wb rb sb i nL cap z k m yw W Rw) (s.setIfInBounds 36 true) a' w') (actOf D13 V s a0 53) w := by
  have hun := ready_un hr
  have d23 := ready_on hr 23 (by kernel_rfl)
  have d35 := ready_on hr 35 (by kernel_rfl)
  have x0 : (actOf D13 V s a0 53).eval (.tmp 150) = .pointer (some ⟨rb, i * 9 + 0, none⟩) := (H.ev 35 150 (by decide) (by kernel_rfl) d35 (by decide)).trans (hM.p 35 (by decide) (by decide) d35)
  exact act_valg dd13 op13_36 (by kernel_rfl) (wanted_of rfl op13_23 rfl (H.gd hM 23 138 (by decide) (by kernel_rfl) (by decide) (by decide) (by kernel_rfl) d23)) (by decide) hun (ex_load 2 (.tmp 150) rfl x0 (H.l0 hM)) (hM.pure (by decide) (by decide) (by decide) rfl)
theorem st13_37 (H : H13 a0 r wb rb sb i nL cap z k m yw W Rw) (hr : 37 ∈ Region.ready .any rg13.toArray s) (hM : M13 r wb rb sb i nL cap z k m yw W Rw s V w) : wpOp Tryz.prog rg13.toArray Q 37 (fun a' w' => ActInv D13 a0 53 (M13 r wb rb sb i nL cap z k m yw W Rw) (s.setIfInBounds 37 true) a' w') (actOf D13 V s a0 53) w := by
  have hun := ready_un hr
  have d23 := ready_on hr 23 (by kernel_rfl)
  have d28 := ready_on hr 28 (by kernel_rfl)
  have x0 : (actOf D13 V s a0 53).eval (.tmp 143) = .int .i64 (two k) := (H.ev 28 143 (by decide) (by kernel_rfl) d28 (by decide)).trans (hM.p 28 (by decide) (by decide) d28)
  have d36 := ready_on hr 36 (by kernel_rfl)
  have x1 : (actOf D13 V s a0 53).eval (.tmp 151) = .int .i64 (two k) := (H.ev 36 151 (by decide) (by kernel_rfl) d36 (by decide)).trans (hM.p 36 (by decide) (by decide) d36)
  exact act_valg dd13 op13_37 (by kernel_rfl) (wanted_of rfl op13_23 rfl (H.gd hM 23 138 (by decide) (by kernel_rfl) (by decide) (by decide) (by kernel_rfl) d23)) (by decide) hun (ex_neqB (.tmp 143) (.tmp 151) 2 2 rfl x0 x1 (nq_int _ _ _ w)) (hM.pure (by decide) (by decide) (by decide) rfl)
theorem st13_38 (H : H13 a0 r wb rb sb i nL cap z k m yw W Rw) (hr : 38 ∈ Region.ready .any rg13.toArray s) (hM : M13 r wb rb sb i nL cap z k m yw W Rw s V w) : wpOp Tryz.prog rg13.toArray Q 38 (fun a' w' => ActInv D13 a0 53 (M13 r wb rb sb i nL cap z k m yw W Rw) (s.setIfInBounds 38 true) a' w') (actOf D13 V s a0 53) w := by
  have hun := ready_un hr
  have d23 := ready_on hr 23 (by kernel_rfl)
  have x0 : (actOf D13 V s a0 53).eval (.tmp 138) = .bool false := (H.ev 23 138 (by decide) (by kernel_rfl) d23 (by decide)).trans (hM.p 23 (by decide) (by decide) d23)
  have d37 := ready_on hr 37 (by kernel_rfl)
  have x1 : (actOf D13 V s a0 53).eval (.tmp 152) = .bool false := (H.ev 37 152 (by decide) (by kernel_rfl) d37 (by decide)).trans (hM.p 37 (by decide) (by decide) d37)
  exact act_val dd13 op13_38 (by kernel_rfl) rfl (by decide) hun (ex_pick (.tmp 138) (.const (.bool true)) (.tmp 152) rfl x0 x1) (hM.pure (by decide) (by decide) (by decide) rfl)
theorem st13_39 (H : H13 a0 r wb rb sb i nL cap z k m yw W Rw) (hr : 39 ∈ Region.ready .any rg13.toArray s) (hM : M13 r wb rb sb i nL cap z k m yw W Rw s V w) : wpOp Tryz.prog rg13.toArray Q 39 (fun a' w' => ActInv D13 a0 53 (M13 r wb rb sb i nL cap z k m yw W Rw) (s.setIfInBounds 39 true) a' w') (actOf D13 V s a0 53) w := by
  have hun := ready_un hr
  have d28 := ready_on hr 28 (by kernel_rfl)
  have d38 := ready_on hr 38 (by kernel_rfl)
  have x0 : (actOf D13 V s a0 53).eval (.tmp 153) = .bool false := (H.ev 38 153 (by decide) (by kernel_rfl) d38 (by decide)).trans (hM.p 38 (by decide) (by decide) d38)
  exact act_val dd13 op13_39 (by kernel_rfl) rfl (by decide) hun (ex_move (.tmp 153) rfl x0) (hM.call 7 8 (by decide) rfl rfl (by decide) (.inr d28) hun rfl (Below.refl _ _))
theorem st13_40 (H : H13 a0 r wb rb sb i nL cap z k m yw W Rw) (hr : 40 ∈ Region.ready .any rg13.toArray s) (hM : M13 r wb rb sb i nL cap z k m yw W Rw s V w) : wpOp Tryz.prog rg13.toArray Q 40 (fun a' w' => ActInv D13 a0 53 (M13 r wb rb sb i nL cap z k m yw W Rw) (s.setIfInBounds 40 true) a' w') (actOf D13 V s a0 53) w := by
  have hun := ready_un hr
  have d39 := ready_on hr 39 (by kernel_rfl)
  have x0 := H.x0 (s := s) (V := V)
  exact act_valg dd13 op13_40 (by kernel_rfl) (wanted_of rfl op13_39 rfl (H.gd hM 39 154 (by decide) (by kernel_rfl) (by decide) (by decide) (by kernel_rfl) d39)) (by decide) hun (ex_move (.tmp 0) rfl x0) (hM.pure (by decide) (by decide) (by decide) rfl)
theorem st13_41 (H : H13 a0 r wb rb sb i nL cap z k m yw W Rw) (hr : 41 ∈ Region.ready .any rg13.toArray s) (hM : M13 r wb rb sb i nL cap z k m yw W Rw s V w) : wpOp Tryz.prog rg13.toArray Q 41 (fun a' w' => ActInv D13 a0 53 (M13 r wb rb sb i nL cap z k m yw W Rw) (s.setIfInBounds 41 true) a' w') (actOf D13 V s a0 53) w := by
  have hun := ready_un hr
  have d39 := ready_on hr 39 (by kernel_rfl)
  have x0 := H.x6 (s := s) (V := V)
  exact act_valg dd13 op13_41 (by kernel_rfl) (wanted_of rfl op13_39 rfl (H.gd hM 39 154 (by decide) (by kernel_rfl) (by decide) (by decide) (by kernel_rfl) d39)) (by decide) hun (ex_move (.tmp 6) rfl x0) (hM.pure (by decide) (by decide) (by decide) rfl)
theorem st13_42 (H : H13 a0 r wb rb sb i nL cap z k m yw W Rw) (hr : 42 ∈ Region.ready .any rg13.toArray s) (hM : M13 r wb rb sb i nL cap z k m yw W Rw s V w) : wpOp Tryz.prog rg13.toArray Q 42 (fun a' w' => ActInv D13 a0 53 (M13 r wb rb sb i nL cap z k m yw W Rw) (s.setIfInBounds 42 true) a' w') (actOf D13 V s a0 53) w := by
  have hun := ready_un hr
  have d39 := ready_on hr 39 (by kernel_rfl)
  have d40 := ready_on hr 40 (by kernel_rfl)
  have x0 : (actOf D13 V s a0 53).eval (.tmp 155) = .pointer (some ⟨r, 0, none⟩) := (H.ev 40 155 (by decide) (by kernel_rfl) d40 (by decide)).trans (hM.p 40 (by decide) (by decide) d40)
  have d41 := ready_on hr 41 (by kernel_rfl)
  have x1 : (actOf D13 V s a0 53).eval (.tmp 156) = .int .i64 i := (H.ev 41 156 (by decide) (by kernel_rfl) d41 (by decide)).trans (hM.p 41 (by decide) (by decide) d41)
  refine act_callg dd13 op13_42 (by kernel_rfl) (wanted_of rfl op13_39 rfl (H.gd hM 39 154 (by decide) (by kernel_rfl) (by decide) (by decide) (by kernel_rfl) d39)) (by decide) hun 18 #[.tmp 155, .tmp 156] #[25, 3] rfl #[.pointer (some ⟨r, 0, none⟩), .int .i64 i] ?_ (ent13_42 _ _) ((H.hc42 w hM.b).mono ?_)
  · simp only [List.map_toArray, List.map_cons, List.map_nil, x0, x1]
  · rintro e w' ⟨v, rfl, hR, hb⟩
    exact ⟨_, rfl, hM.callW 8 (by decide) rfl (by decide) (.inr d39) hR hb⟩
theorem st13_43 (H : H13 a0 r wb rb sb i nL cap z k m yw W Rw) (hr : 43 ∈ Region.ready .any rg13.toArray s) (hM : M13 r wb rb sb i nL cap z k m yw W Rw s V w) : wpOp Tryz.prog rg13.toArray Q 43 (fun a' w' => ActInv D13 a0 53 (M13 r wb rb sb i nL cap z k m yw W Rw) (s.setIfInBounds 43 true) a' w') (actOf D13 V s a0 53) w := by
  have hun := ready_un hr
  have d39 := ready_on hr 39 (by kernel_rfl)
  have x0 := H.x1 (s := s) (V := V)
  exact act_valg dd13 op13_43 (by kernel_rfl) (wanted_of rfl op13_39 rfl (H.gd hM 39 154 (by decide) (by kernel_rfl) (by decide) (by decide) (by kernel_rfl) d39)) (by decide) hun (ex_move (.tmp 1) rfl x0) (hM.pure (by decide) (by decide) (by decide) rfl)
theorem st13_44 (H : H13 a0 r wb rb sb i nL cap z k m yw W Rw) (hr : 44 ∈ Region.ready .any rg13.toArray s) (hM : M13 r wb rb sb i nL cap z k m yw W Rw s V w) : wpOp Tryz.prog rg13.toArray Q 44 (fun a' w' => ActInv D13 a0 53 (M13 r wb rb sb i nL cap z k m yw W Rw) (s.setIfInBounds 44 true) a' w') (actOf D13 V s a0 53) w := by
  have hun := ready_un hr
  have d39 := ready_on hr 39 (by kernel_rfl)
  have d43 := ready_on hr 43 (by kernel_rfl)
  have x0 : (actOf D13 V s a0 53).eval (.tmp 158) = .pointer (some ⟨wb, 0, none⟩) := (H.ev 43 158 (by decide) (by kernel_rfl) d43 (by decide)).trans (hM.p 43 (by decide) (by decide) d43)
  exact act_valg dd13 op13_44 (by kernel_rfl) (wanted_of rfl op13_39 rfl (H.gd hM 39 154 (by decide) (by kernel_rfl) (by decide) (by decide) (by kernel_rfl) d39)) (by decide) hun (ex_nilc (.tmp 158) rfl x0) (hM.pure (by decide) (by decide) (by decide) rfl)
theorem st13_45 (H : H13 a0 r wb rb sb i nL cap z k m yw W Rw) (hr : 45 ∈ Region.ready .any rg13.toArray s) (hM : M13 r wb rb sb i nL cap z k m yw W Rw s V w) : wpOp Tryz.prog rg13.toArray Q 45 (fun a' w' => ActInv D13 a0 53 (M13 r wb rb sb i nL cap z k m yw W Rw) (s.setIfInBounds 45 true) a' w') (actOf D13 V s a0 53) w := by
  have hun := ready_un hr
  have d39 := ready_on hr 39 (by kernel_rfl)
  have d44 := ready_on hr 44 (by kernel_rfl)
  have x0 : (actOf D13 V s a0 53).eval (.tmp 159) = .pointer (some ⟨wb, 0, none⟩) := (H.ev 44 159 (by decide) (by kernel_rfl) d44 (by decide)).trans (hM.p 44 (by decide) (by decide) d44)
  exact act_valg dd13 op13_45 (by kernel_rfl) (wanted_of rfl op13_39 rfl (H.gd hM 39 154 (by decide) (by kernel_rfl) (by decide) (by decide) (by kernel_rfl) d39)) (by decide) hun (ex_field 120 (.tmp 159) 3 rfl x0 (fa_w3 wb w)) (hM.pure (by decide) (by decide) (by decide) rfl)
theorem st13_46 (H : H13 a0 r wb rb sb i nL cap z k m yw W Rw) (hr : 46 ∈ Region.ready .any rg13.toArray s) (hM : M13 r wb rb sb i nL cap z k m yw W Rw s V w) : wpOp Tryz.prog rg13.toArray Q 46 (fun a' w' => ActInv D13 a0 53 (M13 r wb rb sb i nL cap z k m yw W Rw) (s.setIfInBounds 46 true) a' w') (actOf D13 V s a0 53) w := by
  have hun := ready_un hr
  have d39 := ready_on hr 39 (by kernel_rfl)
  have d45 := ready_on hr 45 (by kernel_rfl)
  have x0 : (actOf D13 V s a0 53).eval (.tmp 160) = .pointer (some ⟨wb, 4, none⟩) := (H.ev 45 160 (by decide) (by kernel_rfl) d45 (by decide)).trans (hM.p 45 (by decide) (by decide) d45)
  exact act_valg dd13 op13_46 (by kernel_rfl) (wanted_of rfl op13_39 rfl (H.gd hM 39 154 (by decide) (by kernel_rfl) (by decide) (by decide) (by kernel_rfl) d39)) (by decide) hun (ex_load 118 (.tmp 160) rfl x0 (H.l4 hM)) (hM.pure (by decide) (by decide) (by decide) rfl)
theorem st13_47 (H : H13 a0 r wb rb sb i nL cap z k m yw W Rw) (hr : 47 ∈ Region.ready .any rg13.toArray s) (hM : M13 r wb rb sb i nL cap z k m yw W Rw s V w) : wpOp Tryz.prog rg13.toArray Q 47 (fun a' w' => ActInv D13 a0 53 (M13 r wb rb sb i nL cap z k m yw W Rw) (s.setIfInBounds 47 true) a' w') (actOf D13 V s a0 53) w := by
  have hun := ready_un hr
  have d39 := ready_on hr 39 (by kernel_rfl)
  have x0 := H.x6 (s := s) (V := V)
  exact act_valg dd13 op13_47 (by kernel_rfl) (wanted_of rfl op13_39 rfl (H.gd hM 39 154 (by decide) (by kernel_rfl) (by decide) (by decide) (by kernel_rfl) d39)) (by decide) hun (ex_move (.tmp 6) rfl x0) (hM.pure (by decide) (by decide) (by decide) rfl)
theorem st13_48 (H : H13 a0 r wb rb sb i nL cap z k m yw W Rw) (hr : 48 ∈ Region.ready .any rg13.toArray s) (hM : M13 r wb rb sb i nL cap z k m yw W Rw s V w) : wpOp Tryz.prog rg13.toArray Q 48 (fun a' w' => ActInv D13 a0 53 (M13 r wb rb sb i nL cap z k m yw W Rw) (s.setIfInBounds 48 true) a' w') (actOf D13 V s a0 53) w := by
  have hun := ready_un hr
  have d39 := ready_on hr 39 (by kernel_rfl)
  have d46 := ready_on hr 46 (by kernel_rfl)
  have x0 : (actOf D13 V s a0 53).eval (.tmp 161) = .slice (some ⟨rb, 0, none⟩) nL cap := (H.ev 46 161 (by decide) (by kernel_rfl) d46 (by decide)).trans (hM.p 46 (by decide) (by decide) d46)
  have d47 := ready_on hr 47 (by kernel_rfl)
  have x1 : (actOf D13 V s a0 53).eval (.tmp 162) = .int .i64 i := (H.ev 47 162 (by decide) (by kernel_rfl) d47 (by decide)).trans (hM.p 47 (by decide) (by decide) d47)
  exact act_valg dd13 op13_48 (by kernel_rfl) (wanted_of rfl op13_39 rfl (H.gd hM 39 154 (by decide) (by kernel_rfl) (by decide) (by decide) (by kernel_rfl) d39)) (by decide) hun (ex_index 118 (.tmp 161) (.tmp 162) rfl x0 x1 (ia_r rb i nL cap H.hi H.hn w)) (hM.pure (by decide) (by decide) (by decide) rfl)
theorem st13_49 (H : H13 a0 r wb rb sb i nL cap z k m yw W Rw) (hr : 49 ∈ Region.ready .any rg13.toArray s) (hM : M13 r wb rb sb i nL cap z k m yw W Rw s V w) : wpOp Tryz.prog rg13.toArray Q 49 (fun a' w' => ActInv D13 a0 53 (M13 r wb rb sb i nL cap z k m yw W Rw) (s.setIfInBounds 49 true) a' w') (actOf D13 V s a0 53) w := by
  have hun := ready_un hr
  have d39 := ready_on hr 39 (by kernel_rfl)
  have d48 := ready_on hr 48 (by kernel_rfl)
  have x0 : (actOf D13 V s a0 53).eval (.tmp 163) = .pointer (some ⟨rb, i * 9, none⟩) := (H.ev 48 163 (by decide) (by kernel_rfl) d48 (by decide)).trans (hM.p 48 (by decide) (by decide) d48)
  exact act_valg dd13 op13_49 (by kernel_rfl) (wanted_of rfl op13_39 rfl (H.gd hM 39 154 (by decide) (by kernel_rfl) (by decide) (by decide) (by kernel_rfl) d39)) (by decide) hun (ex_field 139 (.tmp 163) 8 rfl x0 (fa_r8 rb (i * 9) w)) (hM.pure (by decide) (by decide) (by decide) rfl)
theorem st13_50 (H : H13 a0 r wb rb sb i nL cap z k m yw W Rw) (hr : 50 ∈ Region.ready .any rg13.toArray s) (hM : M13 r wb rb sb i nL cap z k m yw W Rw s V w) : wpOp Tryz.prog rg13.toArray Q 50 (fun a' w' => ActInv D13 a0 53 (M13 r wb rb sb i nL cap z k m yw W Rw) (s.setIfInBounds 50 true) a' w') (actOf D13 V s a0 53) w := by
  have hun := ready_un hr
  have d39 := ready_on hr 39 (by kernel_rfl)
  have d49 := ready_on hr 49 (by kernel_rfl)
  have x0 : (actOf D13 V s a0 53).eval (.tmp 164) = .pointer (some ⟨rb, i * 9 + 8, none⟩) := (H.ev 49 164 (by decide) (by kernel_rfl) d49 (by decide)).trans (hM.p 49 (by decide) (by decide) d49)
  exact act_valg dd13 op13_50 (by kernel_rfl) (wanted_of rfl op13_39 rfl (H.gd hM 39 154 (by decide) (by kernel_rfl) (by decide) (by decide) (by kernel_rfl) d39)) (by decide) hun (ex_load 40 (.tmp 164) rfl x0 (H.l8 hM)) (hM.pure (by decide) (by decide) (by decide) rfl)
theorem st13_51 (H : H13 a0 r wb rb sb i nL cap z k m yw W Rw) (hr : 51 ∈ Region.ready .any rg13.toArray s) (hM : M13 r wb rb sb i nL cap z k m yw W Rw s V w) : wpOp Tryz.prog rg13.toArray Q 51 (fun a' w' => ActInv D13 a0 53 (M13 r wb rb sb i nL cap z k m yw W Rw) (s.setIfInBounds 51 true) a' w') (actOf D13 V s a0 53) w := by
  have hun := ready_un hr
  have d39 := ready_on hr 39 (by kernel_rfl)
  have d42 := ready_on hr 42 (by kernel_rfl)
  have x0 : (actOf D13 V s a0 53).eval (.tmp 157) = V 42 := H.ev 42 157 (by decide) (by kernel_rfl) d42 (by decide)
  have d50 := ready_on hr 50 (by kernel_rfl)
  have x1 : (actOf D13 V s a0 53).eval (.tmp 165) = yw := (H.ev 50 165 (by decide) (by kernel_rfl) d50 (by decide)).trans (hM.p 50 (by decide) (by decide) d50)
  refine act_callg dd13 op13_51 (by kernel_rfl) (wanted_of rfl op13_39 rfl (H.gd hM 39 154 (by decide) (by kernel_rfl) (by decide) (by decide) (by kernel_rfl) d39)) (by decide) hun 62 #[.tmp 157, .tmp 165] #[40, 40] rfl #[V 42, yw] ?_ (ent13_51 _ _) ((H.hc51 (V 42) w hM.b (hM.q d42 hun)).mono ?_)
  · simp only [List.map_toArray, List.map_cons, List.map_nil, x0, x1]
  · rintro e w' ⟨rfl, hb⟩
    exact ⟨_, rfl, hM.callS 9 (by decide) rfl (by decide) (.inr d42) (by decide) rfl hb⟩
theorem st13_52 (H : H13 a0 r wb rb sb i nL cap z k m yw W Rw) (hr : 52 ∈ Region.ready .any rg13.toArray s) (hM : M13 r wb rb sb i nL cap z k m yw W Rw s V w) : wpOp Tryz.prog rg13.toArray Q 52 (fun a' w' => ActInv D13 a0 53 (M13 r wb rb sb i nL cap z k m yw W Rw) (s.setIfInBounds 52 true) a' w') (actOf D13 V s a0 53) w := by
  have hun := ready_un hr
  have d39 := ready_on hr 39 (by kernel_rfl)
  have d51 := ready_on hr 51 (by kernel_rfl)
  have x0 : (actOf D13 V s a0 53).eval (.tmp 166) = .bool true := (H.ev 51 166 (by decide) (by kernel_rfl) d51 (by decide)).trans (hM.p 51 (by decide) (by decide) d51)
  exact act_valg dd13 op13_52 (by kernel_rfl) (wanted_of rfl op13_39 rfl (H.gd hM 39 154 (by decide) (by kernel_rfl) (by decide) (by decide) (by kernel_rfl) d39)) (by decide) hun (ex_unot (.tmp 166) 4 rfl x0 (un_not true w)) (hM.pure (by decide) (by decide) (by decide) rfl)
theorem step13 (H : H13 a0 r wb rb sb i nL cap z k m yw W Rw) (j : Nat) (hj : j < 53) (hr : j ∈ Region.ready .any rg13.toArray s) (hM : M13 r wb rb sb i nL cap z k m yw W Rw s V w) : wpOp Tryz.prog rg13.toArray Q j (fun a' w' => ActInv D13 a0 53 (M13 r wb rb sb i nL cap z k m yw W Rw) (s.setIfInBounds j true) a' w') (actOf D13 V s a0 53) w := by
  rcases icas13 hj with rfl | rfl | rfl | rfl | rfl | rfl | rfl | rfl | rfl | rfl | rfl | rfl | rfl | rfl | rfl | rfl | rfl | rfl | rfl | rfl | rfl | rfl | rfl | rfl | rfl | rfl | rfl | rfl | rfl | rfl | rfl | rfl | rfl | rfl | rfl | rfl | rfl | rfl | rfl | rfl | rfl | rfl | rfl | rfl | rfl | rfl | rfl | rfl | rfl | rfl | rfl | rfl | rfl
  · exact st13_0 H hr hM
  · exact st13_1 H hr hM
  · exact st13_2 H hr hM
  · exact st13_3 H hr hM
  · exact st13_4 H hr hM
  · exact st13_5 H hr hM
  · exact st13_6 H hr hM
  · exact st13_7 H hr hM
  · exact st13_8 H hr hM
  · exact st13_9 H hr hM
  · exact st13_10 H hr hM
  · exact st13_11 H hr hM
  · exact st13_12 H hr hM
  · exact st13_13 H hr hM
  · exact st13_14 H hr hM
  · exact st13_15 H hr hM
  · exact st13_16 H hr hM
  · exact st13_17 H hr hM
  · exact st13_18 H hr hM
  · exact st13_19 H hr hM
  · exact st13_20 H hr hM
  · exact st13_21 H hr hM
  · exact st13_22 H hr hM
  · exact st13_23 H hr hM
  · exact st13_24 H hr hM
  · exact st13_25 H hr hM
  · exact st13_26 H hr hM
  · exact st13_27 H hr hM
  · exact st13_28 H hr hM
  · exact st13_29 H hr hM
  · exact st13_30 H hr hM
  · exact st13_31 H hr hM
  · exact st13_32 H hr hM
  · exact st13_33 H hr hM
  · exact st13_34 H hr hM
  · exact st13_35 H hr hM
  · exact st13_36 H hr hM
  · exact st13_37 H hr hM
  · exact st13_38 H hr hM
  · exact st13_39 H hr hM
  · exact st13_40 H hr hM
  · exact st13_41 H hr hM
  · exact st13_42 H hr hM
  · exact st13_43 H hr hM
  · exact st13_44 H hr hM
  · exact st13_45 H hr hM
  · exact st13_46 H hr hM
  · exact st13_47 H hr hM
  · exact st13_48 H hr hM
  · exact st13_49 H hr hM
  · exact st13_50 H hr hM
  · exact st13_51 H hr hM
  · exact st13_52 H hr hM
end
end Go.Proofs.YtdfcfdcekdmcmaaGreat
namespace Go.Proofs.YtdfcfdcekdmcmaaGreat
open Go.RowKit
set_option linter.unusedVariables false
set_option linter.unusedSimpArgs false
theorem actOf_step {D : Nat → Option Tmp} {V : Nat → Value} {s : Array Bool} {a0 : Act} (n : Nat) (h : s.getD n true = true) : actOf D V s a0 (n + 1) = (actOf D V s a0 n).put (D n) (V n) := by
  show (if s.getD n true = true then (actOf D V s a0 n).put (D n) (V n) else actOf D V s a0 n) = _
  rw [if_pos h]
theorem actOf_zero {D : Nat → Option Tmp} {V : Nat → Value} {s : Array Bool} {a0 : Act} : actOf D V s a0 0 = a0 := rfl
def A13 (a0 : Act) (r wb rb sb i nL cap : Nat) (z : Int) (k : Nat) (m : Bool) (yw v : Value) : Act := ((((((((((((((((((((((((((((((((((((((((((((((((((((((a0.put (some 115) (.nilIface)).put (some 116) (.bool false)).put (some 117) (.bool false)).put (some 118) (.int .i64 z)).put (some 119) (.pointer (some ⟨wb, 0, none⟩))).put (some 120) (.int .i64 i)).put (some 121) (.int .i64 z)).put (some 122) (.bool false)).put (some 123) (.bool false)).put (some 124) (.bool false)).put (some 125) (.pointer (some ⟨r, 0, none⟩))).put (some 126) (.int .i64 i)).put (some 127) (.bool m)).put (some 128) (.pointer (some ⟨wb, 0, none⟩))).put (some 129) (.pointer (some ⟨wb, 0, none⟩))).put (some 130) (.pointer (some ⟨wb, 4, none⟩))).put (some 131) (.slice (some ⟨rb, 0, none⟩) nL cap)).put (some 132) (.int .i64 i)).put (some 133) (.pointer (some ⟨rb, i * 9, none⟩))).put (some 134) (.pointer (some ⟨rb, i * 9 + 1, none⟩))).put (some 135) (.bool m)).put (some 136) (.bool false)).put (some 137) (.bool false)).put (some 138) (.bool false)).put (some 139) (.pointer (some ⟨r, 0, none⟩))).put (some 140) (.int .i64 i)).put (some 141) (.pointer (some ⟨sb, 0, none⟩))).put (some 142) (.agg #[.int .u8 k])).put (some 143) (.int .i64 (two k))).put (some 144) (.pointer (some ⟨wb, 0, none⟩))).put (some 145) (.pointer (some ⟨wb, 0, none⟩))).put (some 146) (.pointer (some ⟨wb, 4, none⟩))).put (some 147) (.slice (some ⟨rb, 0, none⟩) nL cap)).put (some 148) (.int .i64 i)).put (some 149) (.pointer (some ⟨rb, i * 9, none⟩))).put (some 150) (.pointer (some ⟨rb, i * 9 + 0, none⟩))).put (some 151) (.int .i64 (two k))).put (some 152) (.bool false)).put (some 153) (.bool false)).put (some 154) (.bool false)).put (some 155) (.pointer (some ⟨r, 0, none⟩))).put (some 156) (.int .i64 i)).put (some 157) v).put (some 158) (.pointer (some ⟨wb, 0, none⟩))).put (some 159) (.pointer (some ⟨wb, 0, none⟩))).put (some 160) (.pointer (some ⟨wb, 4, none⟩))).put (some 161) (.slice (some ⟨rb, 0, none⟩) nL cap)).put (some 162) (.int .i64 i)).put (some 163) (.pointer (some ⟨rb, i * 9, none⟩))).put (some 164) (.pointer (some ⟨rb, i * 9 + 8, none⟩))).put (some 165) (yw)).put (some 166) (.bool true)).put (some 167) (.bool false)).put (some 168) (.bool false))
set_option maxHeartbeats 4000000 in
set_option maxRecDepth 100000 in
theorem wr13 {a0 : Act} {r wb rb sb i nL cap : Nat} {z : Int} {k : Nat} {m : Bool} {yw : Value} {W : World} {Rw : Value → World → Prop} (H : H13 a0 r wb rb sb i nL cap z k m yw W Rw) :
    (Code.region 13 rg13.toArray true).wp Tryz.prog (fun e a' y => e = .normal ∧ ∃ v, Below W.heap.size W y ∧ a' = A13 a0 r wb rb sb i nL cap z k m yw v) a0 W := by
  have hrep : ∀ k, k < 54 → (Array.replicate rg13.length false).getD k true = false := fun k hk => by
    simp [show k < rg13.length from hk]
  have hcl : ∀ m, m < 10 → ([6, 9, 12, 23, 26, 27, 28, 39, 42, 51] : List Nat).getD m 0 < 54 := by decide
  refine wp_region_act (l := rg13) 53 D13 (M13 r wb rb sb i nL cap z k m yw W Rw) mixed (by decide) (by kernel_rfl) (by kernel_rfl) (by kernel_rfl) (by kernel_rfl) (fun _ => undef) ⟨fun k hk _ h => (by rw [hrep k (by omega)] at h; cases h), ⟨rfl, rfl, rfl, Nat.le_refl _, fun _ _ => rfl⟩, fun m hm h => (by rw [hrep _ (hcl _ (by have : m + 1 < 10 := hm; omega))] at h; cases h), fun h => (by rw [hrep 42 (by decide)] at h; cases h)⟩ (fun j s V w hk hr hM => step13 H j hk hr hM) (fun V w hM => ?_)
  have hcn : ∀ j, j < 53 → (canon 53 rg13.length).getD j true = true := fun j hj => canon_at hj
  have x39 : (actOf D13 V (canon 53 rg13.length) a0 53).eval (.tmp 154) = .bool false := (H.ev 39 154 (by decide) (by kernel_rfl) (hcn 39 (by decide)) (by decide)).trans (hM.p 39 (by decide) (by decide) (hcn 39 (by decide)))
  have x52 : (actOf D13 V (canon 53 rg13.length) a0 53).eval (.tmp 167) = .bool false := (H.ev 52 167 (by decide) (by kernel_rfl) (hcn 52 (by decide)) (by decide)).trans (hM.p 52 (by decide) (by decide) (hcn 52 (by decide)))
  refine wpList_val rfl (ex_pick (.tmp 154) (.const (.bool true)) (.tmp 167) rfl x39 x52) ?_
  refine ⟨rfl, V 42, hM.b, ?_⟩
  unfold A13
  have p0 : V 0 = .nilIface := hM.p 0 (by decide) (by decide) (hcn 0 (by decide))
  have q0 : D13 0 = some 115 := by kernel_rfl
  have s0 : actOf D13 V (canon 53 rg13.length) a0 1 = (actOf D13 V (canon 53 rg13.length) a0 0).put (some 115) (.nilIface) := (actOf_step 0 (hcn 0 (by decide))).trans (by rw [q0, p0])
  clear p0 q0
  have p1 : V 1 = .bool false := hM.p 1 (by decide) (by decide) (hcn 1 (by decide))
  have q1 : D13 1 = some 116 := by kernel_rfl
  have s1 : actOf D13 V (canon 53 rg13.length) a0 2 = (actOf D13 V (canon 53 rg13.length) a0 1).put (some 116) (.bool false) := (actOf_step 1 (hcn 1 (by decide))).trans (by rw [q1, p1])
  clear p1 q1
  have p2 : V 2 = .bool false := hM.p 2 (by decide) (by decide) (hcn 2 (by decide))
  have q2 : D13 2 = some 117 := by kernel_rfl
  have s2 : actOf D13 V (canon 53 rg13.length) a0 3 = (actOf D13 V (canon 53 rg13.length) a0 2).put (some 117) (.bool false) := (actOf_step 2 (hcn 2 (by decide))).trans (by rw [q2, p2])
  clear p2 q2
  have p3 : V 3 = .int .i64 z := hM.p 3 (by decide) (by decide) (hcn 3 (by decide))
  have q3 : D13 3 = some 118 := by kernel_rfl
  have s3 : actOf D13 V (canon 53 rg13.length) a0 4 = (actOf D13 V (canon 53 rg13.length) a0 3).put (some 118) (.int .i64 z) := (actOf_step 3 (hcn 3 (by decide))).trans (by rw [q3, p3])
  clear p3 q3
  have p4 : V 4 = .pointer (some ⟨wb, 0, none⟩) := hM.p 4 (by decide) (by decide) (hcn 4 (by decide))
  have q4 : D13 4 = some 119 := by kernel_rfl
  have s4 : actOf D13 V (canon 53 rg13.length) a0 5 = (actOf D13 V (canon 53 rg13.length) a0 4).put (some 119) (.pointer (some ⟨wb, 0, none⟩)) := (actOf_step 4 (hcn 4 (by decide))).trans (by rw [q4, p4])
  clear p4 q4
  have p5 : V 5 = .int .i64 i := hM.p 5 (by decide) (by decide) (hcn 5 (by decide))
  have q5 : D13 5 = some 120 := by kernel_rfl
  have s5 : actOf D13 V (canon 53 rg13.length) a0 6 = (actOf D13 V (canon 53 rg13.length) a0 5).put (some 120) (.int .i64 i) := (actOf_step 5 (hcn 5 (by decide))).trans (by rw [q5, p5])
  clear p5 q5
  have p6 : V 6 = .int .i64 z := hM.p 6 (by decide) (by decide) (hcn 6 (by decide))
  have q6 : D13 6 = some 121 := by kernel_rfl
  have s6 : actOf D13 V (canon 53 rg13.length) a0 7 = (actOf D13 V (canon 53 rg13.length) a0 6).put (some 121) (.int .i64 z) := (actOf_step 6 (hcn 6 (by decide))).trans (by rw [q6, p6])
  clear p6 q6
  have p7 : V 7 = .bool false := hM.p 7 (by decide) (by decide) (hcn 7 (by decide))
  have q7 : D13 7 = some 122 := by kernel_rfl
  have s7 : actOf D13 V (canon 53 rg13.length) a0 8 = (actOf D13 V (canon 53 rg13.length) a0 7).put (some 122) (.bool false) := (actOf_step 7 (hcn 7 (by decide))).trans (by rw [q7, p7])
  clear p7 q7
  have p8 : V 8 = .bool false := hM.p 8 (by decide) (by decide) (hcn 8 (by decide))
  have q8 : D13 8 = some 123 := by kernel_rfl
  have s8 : actOf D13 V (canon 53 rg13.length) a0 9 = (actOf D13 V (canon 53 rg13.length) a0 8).put (some 123) (.bool false) := (actOf_step 8 (hcn 8 (by decide))).trans (by rw [q8, p8])
  clear p8 q8
  have p9 : V 9 = .bool false := hM.p 9 (by decide) (by decide) (hcn 9 (by decide))
  have q9 : D13 9 = some 124 := by kernel_rfl
  have s9 : actOf D13 V (canon 53 rg13.length) a0 10 = (actOf D13 V (canon 53 rg13.length) a0 9).put (some 124) (.bool false) := (actOf_step 9 (hcn 9 (by decide))).trans (by rw [q9, p9])
  clear p9 q9
  have p10 : V 10 = .pointer (some ⟨r, 0, none⟩) := hM.p 10 (by decide) (by decide) (hcn 10 (by decide))
  have q10 : D13 10 = some 125 := by kernel_rfl
  have s10 : actOf D13 V (canon 53 rg13.length) a0 11 = (actOf D13 V (canon 53 rg13.length) a0 10).put (some 125) (.pointer (some ⟨r, 0, none⟩)) := (actOf_step 10 (hcn 10 (by decide))).trans (by rw [q10, p10])
  clear p10 q10
  have p11 : V 11 = .int .i64 i := hM.p 11 (by decide) (by decide) (hcn 11 (by decide))
  have q11 : D13 11 = some 126 := by kernel_rfl
  have s11 : actOf D13 V (canon 53 rg13.length) a0 12 = (actOf D13 V (canon 53 rg13.length) a0 11).put (some 126) (.int .i64 i) := (actOf_step 11 (hcn 11 (by decide))).trans (by rw [q11, p11])
  clear p11 q11
  have p12 : V 12 = .bool m := hM.p 12 (by decide) (by decide) (hcn 12 (by decide))
  have q12 : D13 12 = some 127 := by kernel_rfl
  have s12 : actOf D13 V (canon 53 rg13.length) a0 13 = (actOf D13 V (canon 53 rg13.length) a0 12).put (some 127) (.bool m) := (actOf_step 12 (hcn 12 (by decide))).trans (by rw [q12, p12])
  clear p12 q12
  have p13 : V 13 = .pointer (some ⟨wb, 0, none⟩) := hM.p 13 (by decide) (by decide) (hcn 13 (by decide))
  have q13 : D13 13 = some 128 := by kernel_rfl
  have s13 : actOf D13 V (canon 53 rg13.length) a0 14 = (actOf D13 V (canon 53 rg13.length) a0 13).put (some 128) (.pointer (some ⟨wb, 0, none⟩)) := (actOf_step 13 (hcn 13 (by decide))).trans (by rw [q13, p13])
  clear p13 q13
  have p14 : V 14 = .pointer (some ⟨wb, 0, none⟩) := hM.p 14 (by decide) (by decide) (hcn 14 (by decide))
  have q14 : D13 14 = some 129 := by kernel_rfl
  have s14 : actOf D13 V (canon 53 rg13.length) a0 15 = (actOf D13 V (canon 53 rg13.length) a0 14).put (some 129) (.pointer (some ⟨wb, 0, none⟩)) := (actOf_step 14 (hcn 14 (by decide))).trans (by rw [q14, p14])
  clear p14 q14
  have p15 : V 15 = .pointer (some ⟨wb, 4, none⟩) := hM.p 15 (by decide) (by decide) (hcn 15 (by decide))
  have q15 : D13 15 = some 130 := by kernel_rfl
  have s15 : actOf D13 V (canon 53 rg13.length) a0 16 = (actOf D13 V (canon 53 rg13.length) a0 15).put (some 130) (.pointer (some ⟨wb, 4, none⟩)) := (actOf_step 15 (hcn 15 (by decide))).trans (by rw [q15, p15])
  clear p15 q15
  have p16 : V 16 = .slice (some ⟨rb, 0, none⟩) nL cap := hM.p 16 (by decide) (by decide) (hcn 16 (by decide))
  have q16 : D13 16 = some 131 := by kernel_rfl
  have s16 : actOf D13 V (canon 53 rg13.length) a0 17 = (actOf D13 V (canon 53 rg13.length) a0 16).put (some 131) (.slice (some ⟨rb, 0, none⟩) nL cap) := (actOf_step 16 (hcn 16 (by decide))).trans (by rw [q16, p16])
  clear p16 q16
  have p17 : V 17 = .int .i64 i := hM.p 17 (by decide) (by decide) (hcn 17 (by decide))
  have q17 : D13 17 = some 132 := by kernel_rfl
  have s17 : actOf D13 V (canon 53 rg13.length) a0 18 = (actOf D13 V (canon 53 rg13.length) a0 17).put (some 132) (.int .i64 i) := (actOf_step 17 (hcn 17 (by decide))).trans (by rw [q17, p17])
  clear p17 q17
  have p18 : V 18 = .pointer (some ⟨rb, i * 9, none⟩) := hM.p 18 (by decide) (by decide) (hcn 18 (by decide))
  have q18 : D13 18 = some 133 := by kernel_rfl
  have s18 : actOf D13 V (canon 53 rg13.length) a0 19 = (actOf D13 V (canon 53 rg13.length) a0 18).put (some 133) (.pointer (some ⟨rb, i * 9, none⟩)) := (actOf_step 18 (hcn 18 (by decide))).trans (by rw [q18, p18])
  clear p18 q18
  have p19 : V 19 = .pointer (some ⟨rb, i * 9 + 1, none⟩) := hM.p 19 (by decide) (by decide) (hcn 19 (by decide))
  have q19 : D13 19 = some 134 := by kernel_rfl
  have s19 : actOf D13 V (canon 53 rg13.length) a0 20 = (actOf D13 V (canon 53 rg13.length) a0 19).put (some 134) (.pointer (some ⟨rb, i * 9 + 1, none⟩)) := (actOf_step 19 (hcn 19 (by decide))).trans (by rw [q19, p19])
  clear p19 q19
  have p20 : V 20 = .bool m := hM.p 20 (by decide) (by decide) (hcn 20 (by decide))
  have q20 : D13 20 = some 135 := by kernel_rfl
  have s20 : actOf D13 V (canon 53 rg13.length) a0 21 = (actOf D13 V (canon 53 rg13.length) a0 20).put (some 135) (.bool m) := (actOf_step 20 (hcn 20 (by decide))).trans (by rw [q20, p20])
  clear p20 q20
  have p21 : V 21 = .bool false := hM.p 21 (by decide) (by decide) (hcn 21 (by decide))
  have q21 : D13 21 = some 136 := by kernel_rfl
  have s21 : actOf D13 V (canon 53 rg13.length) a0 22 = (actOf D13 V (canon 53 rg13.length) a0 21).put (some 136) (.bool false) := (actOf_step 21 (hcn 21 (by decide))).trans (by rw [q21, p21])
  clear p21 q21
  have p22 : V 22 = .bool false := hM.p 22 (by decide) (by decide) (hcn 22 (by decide))
  have q22 : D13 22 = some 137 := by kernel_rfl
  have s22 : actOf D13 V (canon 53 rg13.length) a0 23 = (actOf D13 V (canon 53 rg13.length) a0 22).put (some 137) (.bool false) := (actOf_step 22 (hcn 22 (by decide))).trans (by rw [q22, p22])
  clear p22 q22
  have p23 : V 23 = .bool false := hM.p 23 (by decide) (by decide) (hcn 23 (by decide))
  have q23 : D13 23 = some 138 := by kernel_rfl
  have s23 : actOf D13 V (canon 53 rg13.length) a0 24 = (actOf D13 V (canon 53 rg13.length) a0 23).put (some 138) (.bool false) := (actOf_step 23 (hcn 23 (by decide))).trans (by rw [q23, p23])
  clear p23 q23
  have p24 : V 24 = .pointer (some ⟨r, 0, none⟩) := hM.p 24 (by decide) (by decide) (hcn 24 (by decide))
  have q24 : D13 24 = some 139 := by kernel_rfl
  have s24 : actOf D13 V (canon 53 rg13.length) a0 25 = (actOf D13 V (canon 53 rg13.length) a0 24).put (some 139) (.pointer (some ⟨r, 0, none⟩)) := (actOf_step 24 (hcn 24 (by decide))).trans (by rw [q24, p24])
  clear p24 q24
  have p25 : V 25 = .int .i64 i := hM.p 25 (by decide) (by decide) (hcn 25 (by decide))
  have q25 : D13 25 = some 140 := by kernel_rfl
  have s25 : actOf D13 V (canon 53 rg13.length) a0 26 = (actOf D13 V (canon 53 rg13.length) a0 25).put (some 140) (.int .i64 i) := (actOf_step 25 (hcn 25 (by decide))).trans (by rw [q25, p25])
  clear p25 q25
  have p26 : V 26 = .pointer (some ⟨sb, 0, none⟩) := hM.p 26 (by decide) (by decide) (hcn 26 (by decide))
  have q26 : D13 26 = some 141 := by kernel_rfl
  have s26 : actOf D13 V (canon 53 rg13.length) a0 27 = (actOf D13 V (canon 53 rg13.length) a0 26).put (some 141) (.pointer (some ⟨sb, 0, none⟩)) := (actOf_step 26 (hcn 26 (by decide))).trans (by rw [q26, p26])
  clear p26 q26
  have p27 : V 27 = .agg #[.int .u8 k] := hM.p 27 (by decide) (by decide) (hcn 27 (by decide))
  have q27 : D13 27 = some 142 := by kernel_rfl
  have s27 : actOf D13 V (canon 53 rg13.length) a0 28 = (actOf D13 V (canon 53 rg13.length) a0 27).put (some 142) (.agg #[.int .u8 k]) := (actOf_step 27 (hcn 27 (by decide))).trans (by rw [q27, p27])
  clear p27 q27
  have p28 : V 28 = .int .i64 (two k) := hM.p 28 (by decide) (by decide) (hcn 28 (by decide))
  have q28 : D13 28 = some 143 := by kernel_rfl
  have s28 : actOf D13 V (canon 53 rg13.length) a0 29 = (actOf D13 V (canon 53 rg13.length) a0 28).put (some 143) (.int .i64 (two k)) := (actOf_step 28 (hcn 28 (by decide))).trans (by rw [q28, p28])
  clear p28 q28
  have p29 : V 29 = .pointer (some ⟨wb, 0, none⟩) := hM.p 29 (by decide) (by decide) (hcn 29 (by decide))
  have q29 : D13 29 = some 144 := by kernel_rfl
  have s29 : actOf D13 V (canon 53 rg13.length) a0 30 = (actOf D13 V (canon 53 rg13.length) a0 29).put (some 144) (.pointer (some ⟨wb, 0, none⟩)) := (actOf_step 29 (hcn 29 (by decide))).trans (by rw [q29, p29])
  clear p29 q29
  have p30 : V 30 = .pointer (some ⟨wb, 0, none⟩) := hM.p 30 (by decide) (by decide) (hcn 30 (by decide))
  have q30 : D13 30 = some 145 := by kernel_rfl
  have s30 : actOf D13 V (canon 53 rg13.length) a0 31 = (actOf D13 V (canon 53 rg13.length) a0 30).put (some 145) (.pointer (some ⟨wb, 0, none⟩)) := (actOf_step 30 (hcn 30 (by decide))).trans (by rw [q30, p30])
  clear p30 q30
  have p31 : V 31 = .pointer (some ⟨wb, 4, none⟩) := hM.p 31 (by decide) (by decide) (hcn 31 (by decide))
  have q31 : D13 31 = some 146 := by kernel_rfl
  have s31 : actOf D13 V (canon 53 rg13.length) a0 32 = (actOf D13 V (canon 53 rg13.length) a0 31).put (some 146) (.pointer (some ⟨wb, 4, none⟩)) := (actOf_step 31 (hcn 31 (by decide))).trans (by rw [q31, p31])
  clear p31 q31
  have p32 : V 32 = .slice (some ⟨rb, 0, none⟩) nL cap := hM.p 32 (by decide) (by decide) (hcn 32 (by decide))
  have q32 : D13 32 = some 147 := by kernel_rfl
  have s32 : actOf D13 V (canon 53 rg13.length) a0 33 = (actOf D13 V (canon 53 rg13.length) a0 32).put (some 147) (.slice (some ⟨rb, 0, none⟩) nL cap) := (actOf_step 32 (hcn 32 (by decide))).trans (by rw [q32, p32])
  clear p32 q32
  have p33 : V 33 = .int .i64 i := hM.p 33 (by decide) (by decide) (hcn 33 (by decide))
  have q33 : D13 33 = some 148 := by kernel_rfl
  have s33 : actOf D13 V (canon 53 rg13.length) a0 34 = (actOf D13 V (canon 53 rg13.length) a0 33).put (some 148) (.int .i64 i) := (actOf_step 33 (hcn 33 (by decide))).trans (by rw [q33, p33])
  clear p33 q33
  have p34 : V 34 = .pointer (some ⟨rb, i * 9, none⟩) := hM.p 34 (by decide) (by decide) (hcn 34 (by decide))
  have q34 : D13 34 = some 149 := by kernel_rfl
  have s34 : actOf D13 V (canon 53 rg13.length) a0 35 = (actOf D13 V (canon 53 rg13.length) a0 34).put (some 149) (.pointer (some ⟨rb, i * 9, none⟩)) := (actOf_step 34 (hcn 34 (by decide))).trans (by rw [q34, p34])
  clear p34 q34
  have p35 : V 35 = .pointer (some ⟨rb, i * 9 + 0, none⟩) := hM.p 35 (by decide) (by decide) (hcn 35 (by decide))
  have q35 : D13 35 = some 150 := by kernel_rfl
  have s35 : actOf D13 V (canon 53 rg13.length) a0 36 = (actOf D13 V (canon 53 rg13.length) a0 35).put (some 150) (.pointer (some ⟨rb, i * 9 + 0, none⟩)) := (actOf_step 35 (hcn 35 (by decide))).trans (by rw [q35, p35])
  clear p35 q35
  have p36 : V 36 = .int .i64 (two k) := hM.p 36 (by decide) (by decide) (hcn 36 (by decide))
  have q36 : D13 36 = some 151 := by kernel_rfl
  have s36 : actOf D13 V (canon 53 rg13.length) a0 37 = (actOf D13 V (canon 53 rg13.length) a0 36).put (some 151) (.int .i64 (two k)) := (actOf_step 36 (hcn 36 (by decide))).trans (by rw [q36, p36])
  clear p36 q36
  have p37 : V 37 = .bool false := hM.p 37 (by decide) (by decide) (hcn 37 (by decide))
  have q37 : D13 37 = some 152 := by kernel_rfl
  have s37 : actOf D13 V (canon 53 rg13.length) a0 38 = (actOf D13 V (canon 53 rg13.length) a0 37).put (some 152) (.bool false) := (actOf_step 37 (hcn 37 (by decide))).trans (by rw [q37, p37])
  clear p37 q37
  have p38 : V 38 = .bool false := hM.p 38 (by decide) (by decide) (hcn 38 (by decide))
  have q38 : D13 38 = some 153 := by kernel_rfl
  have s38 : actOf D13 V (canon 53 rg13.length) a0 39 = (actOf D13 V (canon 53 rg13.length) a0 38).put (some 153) (.bool false) := (actOf_step 38 (hcn 38 (by decide))).trans (by rw [q38, p38])
  clear p38 q38
  have p39 : V 39 = .bool false := hM.p 39 (by decide) (by decide) (hcn 39 (by decide))
  have q39 : D13 39 = some 154 := by kernel_rfl
  have s39 : actOf D13 V (canon 53 rg13.length) a0 40 = (actOf D13 V (canon 53 rg13.length) a0 39).put (some 154) (.bool false) := (actOf_step 39 (hcn 39 (by decide))).trans (by rw [q39, p39])
  clear p39 q39
  have p40 : V 40 = .pointer (some ⟨r, 0, none⟩) := hM.p 40 (by decide) (by decide) (hcn 40 (by decide))
  have q40 : D13 40 = some 155 := by kernel_rfl
  have s40 : actOf D13 V (canon 53 rg13.length) a0 41 = (actOf D13 V (canon 53 rg13.length) a0 40).put (some 155) (.pointer (some ⟨r, 0, none⟩)) := (actOf_step 40 (hcn 40 (by decide))).trans (by rw [q40, p40])
  clear p40 q40
  have p41 : V 41 = .int .i64 i := hM.p 41 (by decide) (by decide) (hcn 41 (by decide))
  have q41 : D13 41 = some 156 := by kernel_rfl
  have s41 : actOf D13 V (canon 53 rg13.length) a0 42 = (actOf D13 V (canon 53 rg13.length) a0 41).put (some 156) (.int .i64 i) := (actOf_step 41 (hcn 41 (by decide))).trans (by rw [q41, p41])
  clear p41 q41
  have q42 : D13 42 = some 157 := by kernel_rfl
  have s42 : actOf D13 V (canon 53 rg13.length) a0 43 = (actOf D13 V (canon 53 rg13.length) a0 42).put (some 157) (V 42) := (actOf_step 42 (hcn 42 (by decide))).trans (by rw [q42])
  have p43 : V 43 = .pointer (some ⟨wb, 0, none⟩) := hM.p 43 (by decide) (by decide) (hcn 43 (by decide))
  have q43 : D13 43 = some 158 := by kernel_rfl
  have s43 : actOf D13 V (canon 53 rg13.length) a0 44 = (actOf D13 V (canon 53 rg13.length) a0 43).put (some 158) (.pointer (some ⟨wb, 0, none⟩)) := (actOf_step 43 (hcn 43 (by decide))).trans (by rw [q43, p43])
  clear p43 q43
  have p44 : V 44 = .pointer (some ⟨wb, 0, none⟩) := hM.p 44 (by decide) (by decide) (hcn 44 (by decide))
  have q44 : D13 44 = some 159 := by kernel_rfl
  have s44 : actOf D13 V (canon 53 rg13.length) a0 45 = (actOf D13 V (canon 53 rg13.length) a0 44).put (some 159) (.pointer (some ⟨wb, 0, none⟩)) := (actOf_step 44 (hcn 44 (by decide))).trans (by rw [q44, p44])
  clear p44 q44
  have p45 : V 45 = .pointer (some ⟨wb, 4, none⟩) := hM.p 45 (by decide) (by decide) (hcn 45 (by decide))
  have q45 : D13 45 = some 160 := by kernel_rfl
  have s45 : actOf D13 V (canon 53 rg13.length) a0 46 = (actOf D13 V (canon 53 rg13.length) a0 45).put (some 160) (.pointer (some ⟨wb, 4, none⟩)) := (actOf_step 45 (hcn 45 (by decide))).trans (by rw [q45, p45])
  clear p45 q45
  have p46 : V 46 = .slice (some ⟨rb, 0, none⟩) nL cap := hM.p 46 (by decide) (by decide) (hcn 46 (by decide))
  have q46 : D13 46 = some 161 := by kernel_rfl
  have s46 : actOf D13 V (canon 53 rg13.length) a0 47 = (actOf D13 V (canon 53 rg13.length) a0 46).put (some 161) (.slice (some ⟨rb, 0, none⟩) nL cap) := (actOf_step 46 (hcn 46 (by decide))).trans (by rw [q46, p46])
  clear p46 q46
  have p47 : V 47 = .int .i64 i := hM.p 47 (by decide) (by decide) (hcn 47 (by decide))
  have q47 : D13 47 = some 162 := by kernel_rfl
  have s47 : actOf D13 V (canon 53 rg13.length) a0 48 = (actOf D13 V (canon 53 rg13.length) a0 47).put (some 162) (.int .i64 i) := (actOf_step 47 (hcn 47 (by decide))).trans (by rw [q47, p47])
  clear p47 q47
  have p48 : V 48 = .pointer (some ⟨rb, i * 9, none⟩) := hM.p 48 (by decide) (by decide) (hcn 48 (by decide))
  have q48 : D13 48 = some 163 := by kernel_rfl
  have s48 : actOf D13 V (canon 53 rg13.length) a0 49 = (actOf D13 V (canon 53 rg13.length) a0 48).put (some 163) (.pointer (some ⟨rb, i * 9, none⟩)) := (actOf_step 48 (hcn 48 (by decide))).trans (by rw [q48, p48])
  clear p48 q48
  have p49 : V 49 = .pointer (some ⟨rb, i * 9 + 8, none⟩) := hM.p 49 (by decide) (by decide) (hcn 49 (by decide))
  have q49 : D13 49 = some 164 := by kernel_rfl
  have s49 : actOf D13 V (canon 53 rg13.length) a0 50 = (actOf D13 V (canon 53 rg13.length) a0 49).put (some 164) (.pointer (some ⟨rb, i * 9 + 8, none⟩)) := (actOf_step 49 (hcn 49 (by decide))).trans (by rw [q49, p49])
  clear p49 q49
  have p50 : V 50 = yw := hM.p 50 (by decide) (by decide) (hcn 50 (by decide))
  have q50 : D13 50 = some 165 := by kernel_rfl
  have s50 : actOf D13 V (canon 53 rg13.length) a0 51 = (actOf D13 V (canon 53 rg13.length) a0 50).put (some 165) (yw) := (actOf_step 50 (hcn 50 (by decide))).trans (by rw [q50, p50])
  clear p50 q50
  have p51 : V 51 = .bool true := hM.p 51 (by decide) (by decide) (hcn 51 (by decide))
  have q51 : D13 51 = some 166 := by kernel_rfl
  have s51 : actOf D13 V (canon 53 rg13.length) a0 52 = (actOf D13 V (canon 53 rg13.length) a0 51).put (some 166) (.bool true) := (actOf_step 51 (hcn 51 (by decide))).trans (by rw [q51, p51])
  clear p51 q51
  have p52 : V 52 = .bool false := hM.p 52 (by decide) (by decide) (hcn 52 (by decide))
  have q52 : D13 52 = some 167 := by kernel_rfl
  have s52 : actOf D13 V (canon 53 rg13.length) a0 53 = (actOf D13 V (canon 53 rg13.length) a0 52).put (some 167) (.bool false) := (actOf_step 52 (hcn 52 (by decide))).trans (by rw [q52, p52])
  clear p52 q52
  rw [s52, s51, s50, s49, s48, s47, s46, s45, s44, s43, s42, s41, s40, s39, s38, s37, s36, s35, s34, s33, s32, s31, s30, s29, s28, s27, s26, s25, s24, s23, s22, s21, s20, s19, s18, s17, s16, s15, s14, s13, s12, s11, s10, s9, s8, s7, s6, s5, s4, s3, s2, s1, s0, actOf_zero]
end Go.Proofs.YtdfcfdcekdmcmaaGreat
namespace Go.Proofs.YtdfcfdcekdmcmaaGreat
open Go.RowKit
set_option linter.unusedVariables false
set_option linter.unusedSimpArgs false
section
variable {R : Rest} {W0 W w : World} {a : Nat} {cs : List Int} {st : Int} {C : Cw} {d : Dw} {q i : Nat} {x : Cr} {y : Dr} {a0 : Act}
theorem mem_dlys (hy : d.L[i]? = some y) {l : Ly} (hl : l ∈ y.lys) : l ∈ d.lys := by
  have : l ∈ lays Dr.lys d.L := by
    unfold lays
    rw [List.mem_flatten]
    exact ⟨y.lys, List.mem_map.2 ⟨y, List.mem_of_getElem? hy, rfl⟩, hl⟩
  simp only [Dw.lys, List.mem_append]
  exact .inr (.inr (.inr this))
def RwA (y : Dr) (v : Value) (w : World) : Prop := w.ownsRow 0 3 1 v y.ws.length (y.ws.map (Value.int .i64))
theorem al_h13 (h : Bo R W0 W a cs st C d q) (hq : q ≤ 900) (hx : C.L[i]? = some x) (hy : d.L[i]? = some y) : ∃ rb cap, ∀ a0 : Act, a0.eval (.tmp 0) = .pointer (some ⟨C.r, 0, none⟩) → a0.eval (.tmp 1) = .pointer (some ⟨d.wb, 0, none⟩) → a0.eval (.tmp 6) = .int .i64 i → a0.eval (.tmp 7) = .int .i64 (if y.many = true then y.c else y.p) → a0.eval (.tmp 8) = .nilIface → a0.tmps.size = 170 →
    H13 a0 C.r d.wb rb x.sb i d.L.length cap (if y.many = true then y.c else y.p) y.k y.many y.wv W (RwA y) := by
  have tw := h.pl.tw i x y hx hy
  have hl8 := h.pl.l8
  have hi : i < d.L.length := (List.getElem?_eq_some_iff.1 hy).1
  obtain ⟨rb, cap, hv, hc, -⟩ := h.dm.at hy
  have hwl := tw.wl
  have k4 : W.cell? ⟨d.wb, 4, none⟩ = some (.slice (some ⟨rb, 0, none⟩) d.L.length cap) := (obj_cell h.dm.box 4).trans (by simp [Dw.cells, hv])
  have hrow : W.ownsRow W0.heap.size 3 1 y.wv y.ws.length (y.ws.map (Value.int .i64)) := h.dm.is (l := .row 3 1 y.wv y.ws.length (y.ws.map (Value.int .i64))) (mem_dlys hy (by simp [Dr.lys]))
  have hf : ∃ p n c, y.wv = .slice p n c := by
    obtain ⟨p, c, e, -⟩ := row_form hrow
    exact ⟨p, _, c, e⟩
  refine ⟨rb, cap, fun a0 e0 e1 e6 e7 e8 hsz => ⟨e0, e1, e6, e7, e8, hsz, hi, hl8, fun w hb => keepc hb k4, fun w hb => keepc hb (hc 0 _ rfl), fun w hb => keepc hb (hc 1 _ rfl), fun w hb => keepc hb (hc 8 _ rfl), hf, fun w hb => ?_, fun w hb => ?_, fun w hb => ?_, fun w hb => ?_, fun w hb => ?_, fun w hb => ?_, fun v w hb hR => ?_⟩⟩
  · exact (al_dcursor (h.keep hb) hy).mono fun e w' ⟨h1, h2⟩ => ⟨h1, h2 ▸ Below.refl _ _⟩
  · exact al_many (h.keep hb) hx hy
  · exact al_slots (h.keep hb) hx
  · have := al_size (h.keep hb) hx hy
    rw [tw.k] at this
    exact this
  · have := al_sizes (h.keep hb) hx hy w
    rw [tw.k] at this
    exact this
  · exact (al_waiting (h.keep hb) hq hx hy).mono fun e w' ⟨v, h1, h2, h3⟩ => ⟨v, h1, row_base h2 (Nat.zero_le _), h3⟩
  · exact same14 hR ((Frm.of_below hb fun _ => False).row hrow fun _ _ => id) (by omega)
end
end Go.Proofs.YtdfcfdcekdmcmaaGreat
namespace Go.Proofs.YtdfcfdcekdmcmaaGreat
open Go.RowKit
set_option linter.unusedVariables false
set_option linter.unusedSimpArgs false
def AlikeOk : Prop := ∀ (R : Rest) (W0 W : World) (a q r wb : Nat), q ≤ 890 → Mid W0 a (PlP a q r wb) R W → Calls Tryz.prog 13 #[.pointer (some ⟨r, 0, none⟩), .pointer (some ⟨wb, 0, none⟩)] W fun e w' => e = .returned (.bool true) ∧ Mid W0 a (PlP a (q + 1) r wb) R w'
set_option maxHeartbeats 4000000 in
set_option maxRecDepth 100000 in
theorem rplays_walk (hal : AlikeOk) {W : World} {v : Value} {n : Nat} {z : Nat → Nat → Int} (hO : OpsAt W v n 5 z) :
    Calls Tryz.prog 3 #[v] W fun e w' => e = .returned (.bool true) ∧ Below W.heap.size W w' := by
  have HSM := Lib.hid (small14 hO)
  obtain ⟨p, cap, rfl, hnm, hc⟩ := hO
  have HC := Lib.hid hc
  have HAL := Lib.hid hal
  have hnb : (n : Int) ≤ 9223372036854775807 := by unfold maxLen at hnm; omega
  clear hc hal
  go_enter Tryz.func3, Tryz.ntmps3
  go_wp2_with (first
    | (go_at_call 8; refine HSM.out.mono ?_; rintro e w1 ⟨b, rfl, hs, hb⟩; have HB := Lib.hid hb; have HS := Lib.hid hs; clear hb hs)
    | (go_at_call 9; refine (awake14 _).mono ?_; rintro e w2 ⟨rfl, hb⟩; have HB2 := Lib.hid (bthen HB.out hb); clear hb)
    | (go_at_call 10; refine (rnew _).mono ?_; rintro e w2 ⟨r1, a1, c1, t1, rfl, hr⟩; have HR := Lib.hid hr; clear hr)
    | (go_at_call 11; refine (both_new HR.out).mono ?_; rintro e w3 ⟨rfl, hm⟩; have HM := Lib.hid hm; clear hm))
  · go_ret
    exact ⟨rfl, HB2.out⟩
  · have eb : b = true := by cases b <;> simp_all
    obtain ⟨hn, hsm⟩ := HS.out eb
    have HS2 := Lib.hid hsm
    clear hsm HS eb
    generalize w2.heap.size + 1 = wb at *
    go_loopw [17] (fun i wl => ∃ k : Nat, k ≤ n ∧ i = .int .i64 k ∧ Hid (Mid w1 a1 (PlP a1 (2 * k) r1 wb) R0 wl)) (fun i _ => n - (intOf i).toNat)
    case atStart => exact ⟨0, Nat.zero_le _, rfl, HM⟩
    case round =>
      obtain ⟨k, hk, rfl, HK⟩ := hrel
      have HBL := Lib.hid (bthen HB.out HK.out.below)
      by_cases hlt : k < n
      · obtain ⟨b, off, rfl, hcell⟩ := HC.out.resolve_left (by omega)
        have hk4 := hcell k hlt
        have q0 := keepc HBL.out (hk4 0 (by decide)).1
        have q1 := keepc HBL.out (hk4 1 (by decide)).1
        have q2 := keepc HBL.out (hk4 2 (by decide)).1
        have q3 := keepc HBL.out (hk4 3 (by decide)).1
        have q4 := keepc HBL.out (hk4 4 (by decide)).1
        simp only [Nat.add_zero] at q0
        have HM1 := Lib.hid ((mid_bx _ _ _).new #[.int .i64 (z k 0), .int .i64 (z k 1), .int .i64 (z k 2), .int .i64 (z k 3), .int .i64 (z k 4)] 30 HK.out)
        have HD := Lib.hid (do_any HM1.out (by omega) (z k 0) (z k 1) (z k 2) (z k 3) (z k 4) (HS2.out k hlt) (hk4 1 (by decide)).2.1 (hk4 3 (by decide)).2.1 (hk4 3 (by decide)).2.2)
        clear hcell hk4
        generalize z k 0 = z0 at *
        generalize z k 1 = z1 at *
        generalize z k 2 = z2 at *
        generalize z k 3 = z3 at *
        generalize z k 4 = z4 at *
        go_wp2_with (first
          | (go_at_call 12; refine HD.out.mono ?_; rintro e w4 ⟨rfl, hm⟩; have HM2 := Lib.hid hm; clear hm)
          | (go_at_call 13; refine (HAL.out _ _ _ _ _ _ _ (by omega) HM2.out).mono ?_; rintro e w5 ⟨rfl, hm⟩; have HM3 := Lib.hid ((mid_bx _ _ _).drop hm); clear hm))
        exact ⟨⟨k + 1, by omega, by go_num, HM3⟩, by simp [intOf]; omega⟩
      · obtain rfl : k = n := by omega
        go_wp2_with (go_at_call 9; refine (awake14 _).mono ?_; rintro e w6 ⟨rfl, hb⟩; have HB6 := Lib.hid (bthen HBL.out hb); clear hb)
        go_ret
        exact ⟨rfl, HB6.out⟩
end Go.Proofs.YtdfcfdcekdmcmaaGreat
namespace Go.Proofs.YtdfcfdcekdmcmaaGreat
open Go.RowKit
set_option linter.unusedVariables false
set_option linter.unusedSimpArgs false
section
variable {R : Rest} {W0 W w : World} {a : Nat} {cs : List Int} {st : Int} {C : Cw} {d : Dw} {q i : Nat} {x : Cr} {y : Dr}
theorem al_row (h : Bo R W0 W a cs st C d q) {j : Nat} {u : Ac} (hu : d.xs[j]? = some u) : ∃ bs ks bt kt, W.cell? ⟨d.tb, 0, none⟩ = some (.slice (some ⟨bs, 0, none⟩) d.xs.length ks) ∧ W.cell? ⟨d.tb, 1, none⟩ = some (.slice (some ⟨bt, 0, none⟩) d.xs.length kt) ∧ W.cell? ⟨bs, j, none⟩ = some (.int .i64 u.1) ∧ W.cell? ⟨bt, j, none⟩ = some (.bool u.2.1) := by
  have hd := h.dm
  have hj : j < d.xs.length := (List.getElem?_eq_some_iff.1 hu).1
  have r1 := hd.is (l := .row 3 1 d.v1 d.xs.length (d.xs.map fun a => .int .i64 a.1)) (by simp [Dw.lys, Dw.table])
  have r2 := hd.is (l := .row 4 1 d.v2 d.xs.length (d.xs.map fun a => .bool a.2.1)) (by simp [Dw.lys, Dw.table])
  have r1' : W.ownsRow W0.heap.size 3 1 d.v1 d.xs.length (d.xs.map fun a => .int .i64 a.1) := r1
  have r2' : W.ownsRow W0.heap.size 4 1 d.v2 d.xs.length (d.xs.map fun a => .bool a.2.1) := r2
  obtain ⟨bs, ks, e1, _, _⟩ := row_some r1' (by omega)
  obtain ⟨bt, kt, e2, _, _⟩ := row_some r2' (by omega)
  have t1 := (obj_cell hd.tbox 0).trans (show (#[d.v1, d.v2, d.v3] : Array Value)[0]? = some d.v1 from rfl)
  have t2 := (obj_cell hd.tbox 1).trans (show (#[d.v1, d.v2, d.v3] : Array Value)[1]? = some d.v2 from rfl)
  rw [e1] at t1 r1'
  rw [e2] at t2 r2'
  refine ⟨bs, ks, bt, kt, t1, t2, ?_, ?_⟩
  · rw [r1'.cellAt j (by omega)]
    simp [hu]
  · rw [r2'.cellAt j (by omega)]
    simp [hu]
set_option maxHeartbeats 4000000 in
set_option maxRecDepth 100000 in
theorem alike (h : Bo R W0 W a cs st C d q) (hq : q ≤ 890) :
    Calls Tryz.prog 13 #[.pointer (some ⟨C.r, 0, none⟩), .pointer (some ⟨d.wb, 0, none⟩)] W fun e w' => e = .returned (.bool true) ∧ Mid W0 a (PlP a (q + 1) C.r d.wb) R w' := by
  have H := Lib.hid h
  obtain ⟨p4, p1, ps, pt, c4, c1, cs', ct, k4, k2, k0, k1, ks, kt⟩ := al_cells h
  have HXL := Lib.hid h.pl.xl
  have HL8 := Lib.hid h.pl.l8
  have n4 : ∀ x : Later W, x.to.cell? ⟨d.wb, 4, none⟩ = some (.slice p4 d.L.length c4) := fun x => keepc x.below k4
  have n2 : ∀ x : Later W, x.to.cell? ⟨d.wb, 2, none⟩ = some (.pointer (some ⟨d.tb, 0, none⟩)) := fun x => keepc x.below k2
  have n0 : ∀ x : Later W, x.to.cell? ⟨d.wb, 0, none⟩ = some (.int .i64 d.now) := fun x => keepc x.below k0
  have n1 : ∀ x : Later W, x.to.cell? ⟨d.wb, 1, none⟩ = some (.slice p1 d.ms.length c1) := fun x => keepc x.below k1
  have ns : ∀ x : Later W, x.to.cell? ⟨d.tb, 0, none⟩ = some (.slice ps d.xs.length cs') := fun x => keepc x.below ks
  have QR : Hid (∀ x : Later W, Calls Tryz.prog 16 #[.pointer (some ⟨C.r, 0, none⟩)] x.to fun e w'' => e = .returned (.int .i64 d.L.length) ∧ ∃ y : Later W, w'' = y.to) := Lib.hid fun x => (al_rings (h.keep x.below)).mono fun e w h => ⟨h.1, x, h.2.symm⟩
  have QA : Hid (∀ x : Later W, Calls Tryz.prog 14 #[.pointer (some ⟨C.r, 0, none⟩)] x.to fun e w'' => e = .returned (.pointer (some ⟨C.t, 0, none⟩)) ∧ ∃ y : Later W, w'' = y.to) := Lib.hid fun x => (al_actors (h.keep x.below)).mono fun e w h => ⟨h.1, x, h.2.symm⟩
  have QL : Hid (∀ x : Later W, Calls Tryz.prog 15 #[.pointer (some ⟨C.t, 0, none⟩)] x.to fun e w'' => e = .returned (.int .i64 d.xs.length) ∧ ∃ y : Later W, w'' = y.to) := Lib.hid fun x => (al_len (h.keep x.below)).mono fun e w h => ⟨h.1, x, h.2.symm⟩
  have QC : Hid (∀ x : Later W, Calls Tryz.prog 47 #[.pointer (some ⟨C.r, 0, none⟩)] x.to fun e w'' => e = .returned (.pointer (some ⟨C.c, 0, none⟩)) ∧ ∃ y : Later W, w'' = y.to) := Lib.hid fun x => (al_clock (h.keep x.below)).mono fun e w h => ⟨h.1, x, h.2.symm⟩
  have QN : Hid (∀ x : Later W, Calls Tryz.prog 48 #[.pointer (some ⟨C.c, 0, none⟩)] x.to fun e w'' => e = .returned (.int .i64 d.now) ∧ ∃ y : Later W, w'' = y.to) := Lib.hid fun x => (al_now (h.keep x.below)).mono fun e w h => ⟨h.1, x, h.2.symm⟩
  have QT : Hid (∀ x : Later W, Calls Tryz.prog 67 #[.pointer (some ⟨C.c, 0, none⟩)] x.to fun e w'' => e = .returned (.int .i64 d.ms.length) ∧ ∃ y : Later W, w'' = y.to) := Lib.hid fun x => (al_timers (h.keep x.below)).mono fun e w h => ⟨h.1, x, h.2.symm⟩
  have f1 : ((d.L.length : Int) != (d.L.length : Int)) = false := by simp
  have f2 : ((d.xs.length : Int) != (d.xs.length : Int)) = false := by simp
  have f3 : (d.now != d.now) = false := by simp
  have f4 : ((d.ms.length : Int) != (d.ms.length : Int)) = false := by simp
  clear h k0 k1 k2 k4 ks kt
  go_enter Tryz.func13, Tryz.ntmps13
  go_wp2_with fail
  refine wp_region_later (by kernel_rfl) (by kernel_rfl) ?_
  repeat (go_big_quiet_step ((first
    | (go_at_call 16; exact QR.out _)
    | (go_at_call 14; exact QA.out _)
    | (go_at_call 15; exact QL.out _)
    | (go_at_call 47; exact QC.out _)
    | (go_at_call 48; exact QN.out _)
    | (go_at_call 67; exact QT.out _))))
  refine wpQuiet_nil ?_
  intro w1 hw'
  obtain ⟨⟨w1', hb1⟩, hw1⟩ := hw'
  obtain rfl : w1 = w1' := hw1
  clear n4 n0 n1 QR QL QC QN QT f1 f2 f3 f4 QA
  have m2 := n2 ⟨w1, hb1⟩
  have ms := ns ⟨w1, hb1⟩
  simp only at m2 ms
  clear n2 ns
  go_wp2_with fail
  clear m2 ms
  have HB : Hid (Below W.heap.size W w1) := Lib.hid hb1
  clear hb1
  go_loopw [62] (fun iv wl => ∃ j : Nat, j ≤ d.xs.length ∧ iv = .int .i64 j ∧ Hid (Below W.heap.size W wl)) (fun iv _ => d.xs.length - (intOf iv).toNat)
  case atStart => exact ⟨0, by omega, rfl, HB⟩
  case round =>
    obtain ⟨j, hj, rfl, HB2⟩ := hrel
    by_cases hlt : j < d.xs.length
    · obtain ⟨u, hu⟩ : ∃ u, d.xs[j]? = some u := ⟨_, List.getElem?_eq_getElem hlt⟩
      have HW := Lib.hid (H.out.keep HB2.out)
      obtain ⟨bs, ks, bt, kt, k0, k1, k2, k3⟩ := al_row HW.out hu
      obtain ⟨_, _, _, _, _, _, _, _, _, k4, _⟩ := al_cells HW.out
      have n0 : ∀ x : Later wr, x.to.cell? ⟨d.tb, 0, none⟩ = some (.slice (some ⟨bs, 0, none⟩) d.xs.length ks) := fun x => keepc x.below k0
      have n1 : ∀ x : Later wr, x.to.cell? ⟨d.tb, 1, none⟩ = some (.slice (some ⟨bt, 0, none⟩) d.xs.length kt) := fun x => keepc x.below k1
      have n2 : ∀ x : Later wr, x.to.cell? ⟨bs, j, none⟩ = some (.int .i64 u.1) := fun x => keepc x.below k2
      have n3 : ∀ x : Later wr, x.to.cell? ⟨bt, j, none⟩ = some (.bool u.2.1) := fun x => keepc x.below k3
      have n4 : ∀ x : Later wr, x.to.cell? ⟨d.wb, 2, none⟩ = some (.pointer (some ⟨d.tb, 0, none⟩)) := fun x => keepc x.below k4
      have QA : Hid (∀ x : Later wr, Calls Tryz.prog 14 #[.pointer (some ⟨C.r, 0, none⟩)] x.to fun e w'' => e = .returned (.pointer (some ⟨C.t, 0, none⟩)) ∧ ∃ y : Later wr, w'' = y.to) := Lib.hid fun x => (al_actors (HW.out.keep x.below)).mono fun e w h => ⟨h.1, x, h.2.symm⟩
      have QS : Hid (∀ x : Later wr, Calls Tryz.prog 19 #[.pointer (some ⟨C.t, 0, none⟩), .int .i64 j] x.to fun e w'' => e = .returned (.int .i64 u.1) ∧ ∃ y : Later wr, w'' = y.to) := Lib.hid fun x => (al_state (HW.out.keep x.below) hu).mono fun e w h => ⟨h.1, ⟨w, bthen x.below h.2⟩, rfl⟩
      have QK : Hid (∀ x : Later wr, Calls Tryz.prog 21 #[.pointer (some ⟨C.t, 0, none⟩), .int .i64 j] x.to fun e w'' => e = .returned (.bool u.2.1) ∧ ∃ y : Later wr, w'' = y.to) := Lib.hid fun x => (al_token (HW.out.keep x.below) hu).mono fun e w h => ⟨h.1, ⟨w, bthen x.below h.2⟩, rfl⟩
      have f1 : (u.1 != u.1) = false := by simp
      have f2 : (u.2.1 != u.2.1) = false := by simp
      have b0 : (0 : Int) ≤ (j : Int) := by omega
      have b1 : (j : Int) < (d.xs.length : Int) := by omega
      have hx64 : d.xs.length ≤ 64 := HXL.out
      clear k0 k1 k2 k3 k4 hu
      go_wp2_with fail
      refine wp_region_later (by kernel_rfl) (by kernel_rfl) ?_
      repeat (go_big_quiet_step ((first
        | (go_at_call 14; exact QA.out _)
        | (go_at_call 19; exact QS.out _)
        | (go_at_call 21; exact QK.out _))))
      refine wpQuiet_nil ?_
      intro w2 hw'
      obtain ⟨⟨w2', hb2⟩, hw2⟩ := hw'
      obtain rfl : w2 = w2' := hw2
      clear n0 n1 n2 n3 n4 QA QS QK f1 f2
      go_wp2_with fail
      exact ⟨⟨j + 1, by omega, by go_num, Lib.hid (bthen HB2.out hb2)⟩, by simp [intOf]; omega⟩
    · obtain ⟨p4, p1, ps, pt, c4, c1, cs', ct, k4, _⟩ := al_cells (H.out.keep HB2.out)
      have hl8 : d.L.length ≤ 8 := HL8.out
      have HBO : Hid (Bo R W0 wr a cs st C d (q + 1)) := Lib.hid ⟨(H.out.keep HB2.out).mv, H.out.pl.up (by omega)⟩
      have HS1 : Hid (st ≤ 2000000 * q ∧ 0 ≤ st) := Lib.hid ⟨H.out.pl.st1, H.out.pl.st0⟩
      clear HB2 HB H HXL
      go_wp2_with fail
      clear k4
      go_loopw [103] (fun iv wl => ∃ (j : Nat) (st' : Int), j ≤ d.L.length ∧ iv = .int .i64 j ∧ st ≤ st' ∧ st' ≤ st + j ∧ Hid (Bo R W0 wl a cs st' C d (q + 1))) (fun iv _ => d.L.length - (intOf iv).toNat)
      case atStart => exact ⟨0, st, by omega, rfl, by omega, by omega, HBO⟩
      case round =>
        obtain ⟨j, st', hj, rfl, hs0, hs1, HK⟩ := hrel
        clear HBO
        by_cases hlt : j < d.L.length
        · obtain ⟨x, y, hx, hy, tw⟩ := HK.out.pl.at hlt
          have HAR := Lib.hid (rarena 0 HK.out.cm.rm)
          have HCU := Lib.hid (al_cursor HK.out hx hy)
          have HLO : Hid (∀ w, Below wr.heap.size wr w → Calls Tryz.prog 35 #[.pointer (some ⟨a, 0, none⟩), .int .i64 x.o] w fun e w' => e = .returned (.tuple #[.int .i64 (if y.many = true then y.c else y.p), .nilIface]) ∧ Bo R W0 w' a cs (st' + 1) C d (q + 1)) := Lib.hid fun w hb => by
            have hk := HK.out.keep hb
            refine (al_load hk (by omega) (al_cell hk hx hy)).mono ?_
            rintro e w' ⟨h1, h2⟩
            have := HS1.out
            exact ⟨h1, h2, { hk.pl with st0 := by omega, st1 := by omega }⟩
          have HH : Hid (∀ w, Bo R W0 w a cs (st' + 1) C d (q + 1) → _) := Lib.hid fun w hb => al_h13 hb (by omega) hx hy
          have b0 : (0 : Int) ≤ (j : Int) := by omega
          have b1 : (j : Int) < (d.L.length : Int) := by omega
          generalize x.o = xo at *
          generalize x.sb = xsb at *
          generalize (if y.many = true then y.c else y.p) = z at *
          clear tw hx hy HK
          go_upto_region 13 with (first
            | (go_at_call 33; refine HAR.out.mono ?_; rintro e w1 ⟨rfl, rfl⟩)
            | (go_at_call 36; refine HCU.out.mono ?_; rintro e w1 ⟨rfl, hb⟩; have HB1 := Lib.hid hb; clear hb)
            | (go_at_call 35; refine (HLO.out _ HB1.out).mono ?_; rintro e w2 ⟨rfl, hb⟩; have HB2 := Lib.hid hb; clear hb))
          obtain ⟨rb, cap, h13⟩ := HH.out _ HB2.out
          refine wp_frame (fun a0 => a0.eval (.tmp 0) = .pointer (some ⟨C.r, 0, none⟩) ∧ a0.eval (.tmp 1) = .pointer (some ⟨d.wb, 0, none⟩) ∧ a0.eval (.tmp 6) = .int .i64 j ∧ a0.eval (.tmp 7) = .int .i64 z ∧ a0.eval (.tmp 8) = .nilIface ∧ a0.tmps.size = 170)
            (fun a0 a' y' => ∃ v, Below w2.heap.size w2 y' ∧ a' = A13 a0 C.r d.wb rb xsb j d.L.length cap z y.k y.many y.wv v) ⟨rfl, rfl, rfl, rfl, rfl, rfl⟩ (fun a0 hE => ?_) (fun a' y' hR => ?_)
          · obtain ⟨e0, e1, e6, e7, e8, hsz⟩ := hE
            exact wr13 (h13 a0 e0 e1 e6 e7 e8 hsz)
          · obtain ⟨v, hb, rfl⟩ := hR
            have HB3 := Lib.hid (HB2.out.keep hb)
            clear hb h13 HH HAR HCU HLO HB1 HB2
            simp only [A13, Act.put, List.setIfInBounds_toArray, List.set_cons_zero, List.set_cons_succ]
            go_wp2_with fail
            exact ⟨⟨j + 1, st' + 1, by omega, by go_num, by omega, by omega, HB3⟩, by simp [intOf]; omega⟩
        · have HM : Hid (Mid W0 a (PlP a (q + 1) C.r d.wb) R wr) := Lib.hid ⟨cs, st', C, d, ⟨rfl, rfl, HK.out.pl⟩, HK.out.mv⟩
          obtain rfl : j = d.L.length := by omega
          clear HK
          go_wp2_with fail
          go_ret
          exact ⟨rfl, HM.out⟩
end
theorem alike_ok : AlikeOk := by
  intro R W0 W a q r wb hq h
  obtain ⟨cs, st, C, d, ⟨rfl, rfl, pl⟩, hmv⟩ := h
  exact alike ⟨hmv, pl⟩ (by omega)
end Go.Proofs.YtdfcfdcekdmcmaaGreat
