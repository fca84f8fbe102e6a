/-
  The document's world of layer 14: Enlist by contract. Conditions: as each theorem names them.
-/
import Derived.Test.YtdfcfdcekdmcmaaGreatPk02
import Derived.Test.YtdfcfdcekdmcmaaGreatPk35
set_option linter.unusedVariables false
set_option linter.unusedSimpArgs false
namespace Go.Proofs.YtdfcfdcekdmcmaaGreat
open Go.RowKit
set_option linter.unusedVariables false
set_option linter.unusedSimpArgs false
def rgE : List Oper :=
  [{ dst := some 52, op := Op.move (Operand.tmp 0), type := 27, pos := "ref.go:302", after := #[], guard := none },
  { dst := some 53, op := Op.nilCheck (Operand.tmp 52), type := 0, pos := "ref.go:302", after := #[{ on := 0, ground := Ground.data }], guard := none },
  { dst := some 54, op := Op.fieldAddr 120 (Operand.tmp 53) 3, type := 0, pos := "ref.go:302", after := #[{ on := 1, ground := Ground.data }], guard := none },
  { dst := some 55, op := Op.load 118 (Operand.tmp 54), type := 118, pos := "ref.go:302", after := #[{ on := 2, ground := Ground.data }], guard := none },
  { dst := some 56, op := Op.move (Operand.tmp 1), type := 3, pos := "ref.go:302", after := #[], guard := none },
  { dst := some 57, op := Op.move (Operand.tmp 0), type := 27, pos := "ref.go:302", after := #[], guard := none },
  { dst := some 58, op := Op.nilCheck (Operand.tmp 57), type := 0, pos := "ref.go:302", after := #[{ on := 5, ground := Ground.data }], guard := none },
  { dst := some 59, op := Op.fieldAddr 120 (Operand.tmp 58) 3, type := 0, pos := "ref.go:302", after := #[{ on := 6, ground := Ground.data }], guard := none },
  { dst := some 60, op := Op.load 118 (Operand.tmp 59), type := 118, pos := "ref.go:302", after := #[{ on := 7, ground := Ground.data }], guard := none },
  { dst := some 61, op := Op.move (Operand.tmp 1), type := 3, pos := "ref.go:302", after := #[], guard := none },
  { dst := some 62, op := Op.indexAddr 118 (Operand.tmp 60) (Operand.tmp 61), type := 0, pos := "ref.go:302", after := #[{ on := 8, ground := Ground.data }, { on := 9, ground := Ground.data }], guard := none },
  { dst := some 63, op := Op.fieldAddr 139 (Operand.tmp 62) 8, type := 0, pos := "ref.go:302", after := #[{ on := 10, ground := Ground.data }], guard := none },
  { dst := some 64, op := Op.load 40 (Operand.tmp 63), type := 40, pos := "ref.go:302", after := #[{ on := 11, ground := Ground.data }], guard := none },
  { dst := some 65, op := Op.move (Operand.tmp 2), type := 3, pos := "ref.go:302", after := #[], guard := none },
  { dst := some 66, op := Op.buildSlice 40 1 #[(0, Operand.tmp 65)], type := 40, pos := "ref.go:302", after := #[{ on := 13, ground := Ground.data }], guard := none },
  { dst := some 67, op := Op.call { callee := Callee.builtin Builtin.append, args := #[Operand.tmp 64, Operand.tmp 66], argTypes := #[40, 40] }, type := 40, pos := "ref.go:302", after := #[{ on := 12, ground := Ground.data }, { on := 14, ground := Ground.data }], guard := none },
  { dst := some 68, op := Op.indexAddr 118 (Operand.tmp 55) (Operand.tmp 56), type := 0, pos := "ref.go:302", after := #[{ on := 3, ground := Ground.data }, { on := 4, ground := Ground.data }, { on := 0, ground := Ground.phase }, { on := 1, ground := Ground.phase }, { on := 2, ground := Ground.phase }, { on := 3, ground := Ground.phase }, { on := 4, ground := Ground.phase }, { on := 5, ground := Ground.phase }, { on := 6, ground := Ground.phase }, { on := 7, ground := Ground.phase }, { on := 8, ground := Ground.phase }, { on := 9, ground := Ground.phase }, { on := 10, ground := Ground.phase }, { on := 11, ground := Ground.phase }, { on := 12, ground := Ground.phase }, { on := 13, ground := Ground.phase }, { on := 14, ground := Ground.phase }, { on := 15, ground := Ground.phase }], guard := none },
  { dst := some 69, op := Op.fieldAddr 139 (Operand.tmp 68) 8, type := 0, pos := "ref.go:302", after := #[{ on := 16, ground := Ground.data }, { on := 0, ground := Ground.phase }, { on := 1, ground := Ground.phase }, { on := 2, ground := Ground.phase }, { on := 3, ground := Ground.phase }, { on := 4, ground := Ground.phase }, { on := 5, ground := Ground.phase }, { on := 6, ground := Ground.phase }, { on := 7, ground := Ground.phase }, { on := 8, ground := Ground.phase }, { on := 9, ground := Ground.phase }, { on := 10, ground := Ground.phase }, { on := 11, ground := Ground.phase }, { on := 12, ground := Ground.phase }, { on := 13, ground := Ground.phase }, { on := 14, ground := Ground.phase }, { on := 15, ground := Ground.phase }], guard := none },
  { dst := none, op := Op.store 40 (Operand.tmp 69) (Operand.tmp 67), type := 0, pos := "ref.go:302", after := #[{ on := 17, ground := Ground.data }, { on := 15, ground := Ground.data }, { on := 15, ground := Ground.chain }, { on := 0, ground := Ground.phase }, { on := 1, ground := Ground.phase }, { on := 2, ground := Ground.phase }, { on := 3, ground := Ground.phase }, { on := 4, ground := Ground.phase }, { on := 5, ground := Ground.phase }, { on := 6, ground := Ground.phase }, { on := 7, ground := Ground.phase }, { on := 8, ground := Ground.phase }, { on := 9, ground := Ground.phase }, { on := 10, ground := Ground.phase }, { on := 11, ground := Ground.phase }, { on := 12, ground := Ground.phase }, { on := 13, ground := Ground.phase }, { on := 14, ground := Ground.phase }, { on := 15, ground := Ground.phase }], guard := none }]
def LE : List (Option Tmp) := [some 52, some 53, some 54, some 55, some 56, some 57, some 58, some 59, some 60, some 61, some 62, some 63, some 64, some 65, some 66, some 67, some 68, some 69]
theorem sets_true (s : Array Bool) (i : Nat) : (s.setIfInBounds i true).getD i true = true := set_self s i
theorem ddE : DD (fun i => LE.getD i none) 18 := dd_of (by kernel_rfl) 18 (by decide)
theorem i_cases18 {i : Nat} (h : i < 18) : i = 0 ∨ i = 1 ∨ i = 2 ∨ i = 3 ∨ i = 4 ∨ i = 5 ∨ i = 6 ∨ i = 7 ∨ i = 8 ∨ i = 9 ∨ i = 10 ∨ i = 11 ∨ i = 12 ∨ i = 13 ∨ i = 14 ∨ i = 15 ∨ i = 16 ∨ i = 17 := by omega
def vE (wb rb n cap i : Nat) (wv : Value) (who : Int) : List Value := [.pointer (some ⟨wb, 0, none⟩), .pointer (some ⟨wb, 0, none⟩), .pointer (some ⟨wb, 4, none⟩), .slice (some ⟨rb, 0, none⟩) n cap, .int .i64 i, .pointer (some ⟨wb, 0, none⟩), .pointer (some ⟨wb, 0, none⟩), .pointer (some ⟨wb, 4, none⟩), .slice (some ⟨rb, 0, none⟩) n cap, .int .i64 i, .pointer (some ⟨rb, i * 9, none⟩), .pointer (some ⟨rb, i * 9 + 8, none⟩), wv, .int .i64 who, undef, undef, .pointer (some ⟨rb, i * 9, none⟩), .pointer (some ⟨rb, i * 9 + 8, none⟩)]
structure ME (W : World) (wb rb n cap i : Nat) (wv : Value) (ws : List Int) (who : Int) (s : Array Bool) (V : Nat → Value) (w : World) : Prop where
  p : ∀ k, k < 18 → k ≠ 14 → k ≠ 15 → s.getD k true = true → V k = (vE wb rb n cap i wv who).getD k undef
  l : s.getD 14 true = true → s.getD 15 true = false → ∃ g, W.heap.size ≤ g ∧ V 14 = .slice (some ⟨g, 0, none⟩) 1 1 ∧ w.heap[g]? = some (.cells #[.int .i64 who] 3 (0, 0))
  f : Frm (fun k => wv.ownBlock = some k) W w
  n : s.getD 15 true = false → w.ownsRow 0 3 1 wv ws.length (ws.map (Value.int .i64))
  y : s.getD 15 true = true → w.ownsRow 0 3 1 (V 15) (ws.length + 1) (ws.map (Value.int .i64) ++ [.int .i64 who]) ∧ ((V 15).ownBlock = wv.ownBlock ∨ ∀ g, (V 15).ownBlock = some g → W.heap.size ≤ g)
section
variable {W w w' : World} {wb rb n cap i : Nat} {wv : Value} {ws : List Int} {who : Int} {s : Array Bool} {V : Nat → Value}
theorem ME.far (h : ME W wb rb n cap i wv ws who s V w) {k : Nat} {v : Value} (k15 : k ≠ 15) (hb : Below w.heap.size w w') (hp : k ≠ 14 → v = (vE wb rb n cap i wv who).getD k undef) (hl : k = 14 → ∃ g, W.heap.size ≤ g ∧ v = .slice (some ⟨g, 0, none⟩) 1 1 ∧ w'.heap[g]? = some (.cells #[.int .i64 who] 3 (0, 0))) :
    ME W wb rb n cap i wv ws who (s.setIfInBounds k true) (upd V k v) w' := by
  have hF : Frm (fun _ => False) w w' := Frm.of_below hb fun _ => False
  refine ⟨fun j hj j14 j15 hs => ?_, fun h14 h15 => ?_, h.f.trans (hF.mono fun _ _ e => e.elim), fun h15 => ?_, fun h15 => ?_⟩
  · by_cases e : j = k
    · subst e
      rw [upd_self]
      exact hp j14
    · rw [upd_ne _ e]
      rw [getD_set_ne true (Ne.symm e)] at hs
      exact h.p j hj j14 j15 hs
  · by_cases e : k = 14
    · subst e
      rw [upd_self]
      exact hl rfl
    · rw [upd_ne _ (Ne.symm e)]
      rw [getD_set_ne true e] at h14
      rw [getD_set_ne true k15] at h15
      obtain ⟨g, q1, q2, q3⟩ := h.l h14 h15
      exact ⟨g, q1, q2, (hb.block g (lt_of_block q3)).trans q3⟩
  · rw [getD_set_ne true k15] at h15
    exact hF.row (h.n h15) fun _ _ => id
  · rw [getD_set_ne true k15] at h15
    rw [upd_ne _ (Ne.symm k15)]
    exact ⟨hF.row (h.y h15).1 fun _ _ => id, (h.y h15).2⟩
theorem wpList_st {P : Program} {ops : Array Oper} {Q : Exit → Act → World → Prop} {o : Oper} {rest : List Oper} {a : Act} {w w' : World} {u v : Value} (hg : o.guard = none) (ty : TypeId) (x y : Operand) (ho : o.op = .store ty x y) (hd : o.dst = none) (hx : a.eval x = u) (hy : a.eval y = v) (hr : (Instr.storeAt ty u v).run P w = .ok () w') (h : wpList P ops Q rest a w') : wpList P ops Q (o :: rest) a w := by
  refine wpList_plain hg fun _ hK => ?_
  unfold Oper.wp execOp
  simp only [ho, hx, hy, hr, Sem.run_bind, Result.andThen_ok, Sem.run_pure]
  exact hK _ _ (by rw [hd]; exact h)
theorem ex_nil (x : Operand) {op : Oper} {a : Act} {w : World} {P : Program} {q : Addr} (ho : op.op = .nilCheck x) (hx : a.eval x = .pointer (some q)) : (execOp a.eval op).run P w = .ok (.value (.pointer (some q))) w := by
  unfold execOp
  simp only [ho, hx, Sem.run_pure]
set_option maxHeartbeats 8000000 in
theorem wrE {a0 : Act} (e0 : a0.eval (.tmp 0) = .pointer (some ⟨wb, 0, none⟩)) (e1 : a0.eval (.tmp 1) = .int .i64 i) (e2 : a0.eval (.tmp 2) = .int .i64 who) (hsz : a0.tmps.size = 70) (hi : i < n) (hn : n ≤ 8)
    (hlen : (ws.length : Int) ≤ 1000000) (hrow : W.ownsRow 0 3 1 wv ws.length (ws.map (Value.int .i64)))
    (hc : ∀ w, Frm (fun k => wv.ownBlock = some k) W w → w.cell? ⟨wb, 4, none⟩ = some (.slice (some ⟨rb, 0, none⟩) n cap) ∧ w.cell? ⟨rb, i * 9 + 8, none⟩ = some wv ∧ w.frozen? ⟨rb, i * 9 + 8, none⟩ = false) :
    (Code.region 11 rgE.toArray true).wp Tryz.prog (fun e a' y => e = .normal ∧ ∃ (v' x1 : Value) (w : World), (w.ownsRow 0 3 1 v' (ws.length + 1) (ws.map (Value.int .i64) ++ [.int .i64 who]) ∧ Frm (fun k => wv.ownBlock = some k) W w ∧ (v'.ownBlock = wv.ownBlock ∨ ∀ g, v'.ownBlock = some g → W.heap.size ≤ g)) ∧ y = w.setCell ⟨rb, i * 9 + 8, none⟩ v' ∧
      a' = ((((((((((((((((((a0.put (some 52) (.pointer (some ⟨wb, 0, none⟩))).put (some 53) (.pointer (some ⟨wb, 0, none⟩))).put (some 54) (.pointer (some ⟨wb, 4, none⟩))).put (some 55) (.slice (some ⟨rb, 0, none⟩) n cap)).put (some 56) (.int .i64 i)).put (some 57) (.pointer (some ⟨wb, 0, none⟩))).put (some 58) (.pointer (some ⟨wb, 0, none⟩))).put (some 59) (.pointer (some ⟨wb, 4, none⟩))).put (some 60) (.slice (some ⟨rb, 0, none⟩) n cap)).put (some 61) (.int .i64 i)).put (some 62) (.pointer (some ⟨rb, i * 9, none⟩))).put (some 63) (.pointer (some ⟨rb, i * 9 + 8, none⟩))).put (some 64) (wv)).put (some 65) (.int .i64 who)).put (some 66) (x1)).put (some 67) (v')).put (some 68) (.pointer (some ⟨rb, i * 9, none⟩))).put (some 69) (.pointer (some ⟨rb, i * 9 + 8, none⟩)))) a0 W := by
  have hrep : ∀ k, k < 19 → (Array.replicate rgE.length false).getD k true = false := fun k hk => by
    simp [show k < rgE.length from hk]
  obtain ⟨i2, ki, kz0, kz1, kz2⟩ := info_parts infoN
  have hb2 : ∀ w : World, (Instr.buildSlice 40 1 #[(0, .int .i64 who)]).run Tryz.prog w = .ok (.slice (some ⟨w.heap.size, 0, none⟩) 1 1) (w.alloc (.cells #[.int .i64 who] 3)) := fun w => by go_simp
  have hf3 : ∀ w : World, (Instr.fieldAt 120 (.pointer (some ⟨wb, 0, none⟩)) 3).run Tryz.prog w = .ok (.pointer (some ⟨wb, 4, none⟩)) w := fun w => by kernel_rfl
  have hf8 : ∀ w : World, (Instr.fieldAt 139 (.pointer (some ⟨rb, i * 9, none⟩)) 8).run Tryz.prog w = .ok (.pointer (some ⟨rb, i * 9 + 8, none⟩)) w := fun w => by go_simp
  have b0 : (0 : Int) ≤ (i : Int) := by omega
  have b1 : (i : Int) < (n : Int) := by omega
  have hix : ∀ w : World, (Instr.indexAt 118 (.slice (some ⟨rb, 0, none⟩) n cap) (.int .i64 i)).run Tryz.prog w = .ok (.pointer (some ⟨rb, i * 9, none⟩)) w := fun w => by go_simp
  have hl4 : ∀ w : World, Frm (fun k => wv.ownBlock = some k) W w → (Instr.loadAt 118 (.pointer (some ⟨wb, 4, none⟩))).run Tryz.prog w = .ok (.slice (some ⟨rb, 0, none⟩) n cap) w := fun w hw => by
    have k4 := (hc w hw).1
    go_simp
  have hl8 : ∀ w : World, Frm (fun k => wv.ownBlock = some k) W w → (Instr.loadAt 40 (.pointer (some ⟨rb, i * 9 + 8, none⟩))).run Tryz.prog w = .ok wv w := fun w hw => by
    have k8 := (hc w hw).2.1
    obtain ⟨pw, cw, rfl, -⟩ := row_form hrow
    go_simp
  have fw : ∀ g k, wv.ownBlock = some k → W.heap.size ≤ g → g ≠ k := fun g k hk hg => by have := (hrow.lt k hk).2; omega
  refine wp_region_act (l := rgE) 18 (fun k => LE.getD k none) (ME W wb rb n cap i wv ws who) mixed (by decide) (by kernel_rfl) (by kernel_rfl) (by kernel_rfl) (by kernel_rfl) (fun _ => undef) ⟨fun k hk _ _ h => (by rw [hrep k (by omega)] at h; cases h), fun h => (by rw [hrep 14 (by decide)] at h; cases h), Frm.of_below (Below.drew (Below.refl _ _)) _, fun _ => (Frm.of_below (Below.drew (Below.refl _ _)) fun _ => False).row hrow fun _ _ => id, fun h => (by rw [hrep 15 (by decide)] at h; cases h)⟩ (fun k s V w hk hr hM => ?_) (fun V w hM => ?_)
  · have hun := ready_un hr
    have ev : ∀ (j k : Nat), j < 18 → LE.getD j none = some k → s.getD j true = true → k < 70 → (actOf (fun k => LE.getD k none) V s a0 18).eval (.tmp k) = V j := fun j k hj hk hs hk2 => actOf_eval 18 ddE hj hk hs (by rw [hsz]; exact hk2)
    have ev0 : ∀ k, (∀ j, j < 18 → LE.getD j none ≠ some k) → (actOf (fun k => LE.getD k none) V s a0 18).eval (.tmp k) = a0.eval (.tmp k) := fun k h => actOf_eval0 18 fun j hj _ => h j hj
    rcases i_cases18 hk with rfl | rfl | rfl | rfl | rfl | rfl | rfl | rfl | rfl | rfl | rfl | rfl | rfl | rfl | rfl | rfl | rfl | rfl
    · exact act_val ddE rfl rfl rfl hk hun (ex_move (.tmp 0) rfl ((ev0 0 (by decide)).trans e0)) (hM.far (by decide) (Below.refl _ _) (fun _ => rfl) (by simp))
    · have d := ready_on hr 0 (by kernel_rfl)
      exact act_val ddE rfl rfl rfl hk hun (ex_nil (.tmp 52) rfl ((ev 0 52 (by decide) rfl d (by decide)).trans (hM.p 0 (by decide) (by decide) (by decide) d))) (hM.far (by decide) (Below.refl _ _) (fun _ => rfl) (by simp))
    · have d := ready_on hr 1 (by kernel_rfl)
      exact act_val ddE rfl rfl rfl hk hun (ex_field 120 (.tmp 53) 3 rfl ((ev 1 53 (by decide) rfl d (by decide)).trans (hM.p 1 (by decide) (by decide) (by decide) d)) (hf3 w)) (hM.far (by decide) (Below.refl _ _) (fun _ => rfl) (by simp))
    · have d := ready_on hr 2 (by kernel_rfl)
      exact act_val ddE rfl rfl rfl hk hun (ex_load 118 (.tmp 54) rfl ((ev 2 54 (by decide) rfl d (by decide)).trans (hM.p 2 (by decide) (by decide) (by decide) d)) (hl4 w hM.f)) (hM.far (by decide) (Below.refl _ _) (fun _ => rfl) (by simp))
    · exact act_val ddE rfl rfl rfl hk hun (ex_move (.tmp 1) rfl ((ev0 1 (by decide)).trans e1)) (hM.far (by decide) (Below.refl _ _) (fun _ => rfl) (by simp))
    · exact act_val ddE rfl rfl rfl hk hun (ex_move (.tmp 0) rfl ((ev0 0 (by decide)).trans e0)) (hM.far (by decide) (Below.refl _ _) (fun _ => rfl) (by simp))
    · have d := ready_on hr 5 (by kernel_rfl)
      exact act_val ddE rfl rfl rfl hk hun (ex_nil (.tmp 57) rfl ((ev 5 57 (by decide) rfl d (by decide)).trans (hM.p 5 (by decide) (by decide) (by decide) d))) (hM.far (by decide) (Below.refl _ _) (fun _ => rfl) (by simp))
    · have d := ready_on hr 6 (by kernel_rfl)
      exact act_val ddE rfl rfl rfl hk hun (ex_field 120 (.tmp 58) 3 rfl ((ev 6 58 (by decide) rfl d (by decide)).trans (hM.p 6 (by decide) (by decide) (by decide) d)) (hf3 w)) (hM.far (by decide) (Below.refl _ _) (fun _ => rfl) (by simp))
    · have d := ready_on hr 7 (by kernel_rfl)
      exact act_val ddE rfl rfl rfl hk hun (ex_load 118 (.tmp 59) rfl ((ev 7 59 (by decide) rfl d (by decide)).trans (hM.p 7 (by decide) (by decide) (by decide) d)) (hl4 w hM.f)) (hM.far (by decide) (Below.refl _ _) (fun _ => rfl) (by simp))
    · exact act_val ddE rfl rfl rfl hk hun (ex_move (.tmp 1) rfl ((ev0 1 (by decide)).trans e1)) (hM.far (by decide) (Below.refl _ _) (fun _ => rfl) (by simp))
    · have d := ready_on hr 8 (by kernel_rfl)
      have d2 := ready_on hr 9 (by kernel_rfl)
      exact act_val ddE rfl rfl rfl hk hun (ex_index 118 (.tmp 60) (.tmp 61) rfl ((ev 8 60 (by decide) rfl d (by decide)).trans (hM.p 8 (by decide) (by decide) (by decide) d)) ((ev 9 61 (by decide) rfl d2 (by decide)).trans (hM.p 9 (by decide) (by decide) (by decide) d2)) (hix w)) (hM.far (by decide) (Below.refl _ _) (fun _ => rfl) (by simp))
    · have d := ready_on hr 10 (by kernel_rfl)
      exact act_val ddE rfl rfl rfl hk hun (ex_field 139 (.tmp 62) 8 rfl ((ev 10 62 (by decide) rfl d (by decide)).trans (hM.p 10 (by decide) (by decide) (by decide) d)) (hf8 w)) (hM.far (by decide) (Below.refl _ _) (fun _ => rfl) (by simp))
    · have d := ready_on hr 11 (by kernel_rfl)
      exact act_val ddE rfl rfl rfl hk hun (ex_load 40 (.tmp 63) rfl ((ev 11 63 (by decide) rfl d (by decide)).trans (hM.p 11 (by decide) (by decide) (by decide) d)) (hl8 w hM.f)) (hM.far (by decide) (Below.refl _ _) (fun _ => rfl) (by simp))
    · exact act_val ddE rfl rfl rfl hk hun (ex_move (.tmp 2) rfl ((ev0 2 (by decide)).trans e2)) (hM.far (by decide) (Below.refl _ _) (fun _ => rfl) (by simp))
    · have d := ready_on hr 13 (by kernel_rfl)
      exact act_slice1 ddE rfl rfl rfl hk hun 40 3 (.tmp 65) rfl #[.int .i64 who] (.int .i64 who) ((ev 13 65 (by decide) rfl d (by decide)).trans (hM.p 13 (by decide) (by decide) (by decide) d)) (hb2 _) fun w' hb hn => hM.far (by decide) hb (fun e => absurd rfl e) (fun _ => ⟨_, hM.f.size, rfl, hn⟩)
    · have d := ready_on hr 12 (by kernel_rfl)
      have d2 := ready_on hr 14 (by kernel_rfl)
      obtain ⟨g, q1, q2, q3⟩ := hM.l d2 hun
      have hrow2 := hM.n hun
      refine act_append ddE rfl rfl rfl hk hun (.tmp 64) (.tmp 66) 40 rfl 3 i2 (.int .i64 0) 1 8 Tryz.underlying40 ki kz0 kz1 kz2 rfl (by decide) wv ws.length (ws.map (Value.int .i64)) ((ev 12 64 (by decide) rfl d (by decide)).trans (hM.p 12 (by decide) (by decide) (by decide) d)) hrow2 ⟨g, 0, none⟩ 1 1 [.int .i64 who] ((ev 14 66 (by decide) rfl d2 (by decide)).trans q2) rfl (newsB q3) (fun x hx => by simp at hx; subst hx; rfl) (by unfold maxLen; omega) (by omega) fun v' w' a1 a2 a3 => ?_
      refine ⟨fun j hj j14 j15 hs => ?_, fun _ h15 => (by rw [sets_true] at h15; cases h15), hM.f.trans a2, fun h15 => (by rw [sets_true] at h15; cases h15), fun _ => ?_⟩
      · rw [upd_ne _ j15]
        rw [getD_set_ne true (Ne.symm j15)] at hs
        exact hM.p j hj j14 j15 hs
      · rw [upd_self]
        refine ⟨a1, ?_⟩
        rcases a3 with a3 | a3
        · exact .inl a3
        · exact .inr fun q hq => Nat.le_trans hM.f.size (a3 q hq)
    · have d := ready_on hr 3 (by kernel_rfl)
      have d2 := ready_on hr 4 (by kernel_rfl)
      exact act_val ddE rfl rfl rfl hk hun (ex_index 118 (.tmp 55) (.tmp 56) rfl ((ev 3 55 (by decide) rfl d (by decide)).trans (hM.p 3 (by decide) (by decide) (by decide) d)) ((ev 4 56 (by decide) rfl d2 (by decide)).trans (hM.p 4 (by decide) (by decide) (by decide) d2)) (hix w)) (hM.far (by decide) (Below.refl _ _) (fun _ => rfl) (by simp))
    · have d := ready_on hr 16 (by kernel_rfl)
      exact act_val ddE rfl rfl rfl hk hun (ex_field 139 (.tmp 68) 8 rfl ((ev 16 68 (by decide) rfl d (by decide)).trans (hM.p 16 (by decide) (by decide) (by decide) d)) (hf8 w)) (hM.far (by decide) (Below.refl _ _) (fun _ => rfl) (by simp))
  · have hcn : ∀ j, j < 18 → (canon 18 rgE.length).getD j true = true := fun j hj => canon_at hj
    have hy := hM.y (hcn 15 (by decide))
    have p0 := hM.p 0 (by decide) (by decide) (by decide) (hcn 0 (by decide))
    have p1 := hM.p 1 (by decide) (by decide) (by decide) (hcn 1 (by decide))
    have p2 := hM.p 2 (by decide) (by decide) (by decide) (hcn 2 (by decide))
    have p3 := hM.p 3 (by decide) (by decide) (by decide) (hcn 3 (by decide))
    have p4 := hM.p 4 (by decide) (by decide) (by decide) (hcn 4 (by decide))
    have p5 := hM.p 5 (by decide) (by decide) (by decide) (hcn 5 (by decide))
    have p6 := hM.p 6 (by decide) (by decide) (by decide) (hcn 6 (by decide))
    have p7 := hM.p 7 (by decide) (by decide) (by decide) (hcn 7 (by decide))
    have p8 := hM.p 8 (by decide) (by decide) (by decide) (hcn 8 (by decide))
    have p9 := hM.p 9 (by decide) (by decide) (by decide) (hcn 9 (by decide))
    have p10 := hM.p 10 (by decide) (by decide) (by decide) (hcn 10 (by decide))
    have p11 := hM.p 11 (by decide) (by decide) (by decide) (hcn 11 (by decide))
    have p12 := hM.p 12 (by decide) (by decide) (by decide) (hcn 12 (by decide))
    have p13 := hM.p 13 (by decide) (by decide) (by decide) (hcn 13 (by decide))
    have p16 := hM.p 16 (by decide) (by decide) (by decide) (hcn 16 (by decide))
    have p17 := hM.p 17 (by decide) (by decide) (by decide) (hcn 17 (by decide))
    have x17 : (actOf (fun k => LE.getD k none) V (canon 18 rgE.length) a0 18).eval (.tmp 69) = V 17 := actOf_eval 18 ddE (i := 17) (by decide) rfl (hcn 17 (by decide)) (by rw [hsz]; decide)
    have x15 : (actOf (fun k => LE.getD k none) V (canon 18 rgE.length) a0 18).eval (.tmp 67) = V 15 := actOf_eval 18 ddE (i := 15) (by decide) rfl (hcn 15 (by decide)) (by rw [hsz]; decide)
    have hst : (Instr.storeAt 40 (.pointer (some ⟨rb, i * 9 + 8, none⟩)) (V 15)).run Tryz.prog w = .ok () (w.setCell ⟨rb, i * 9 + 8, none⟩ (V 15)) := by
      obtain ⟨_, k8, kf⟩ := hc w hM.f
      obtain ⟨pv, cv, hpv, -⟩ := row_form hy.1
      rw [hpv]
      go_simp
    refine wpList_st rfl 40 (.tmp 69) (.tmp 67) rfl rfl (x17.trans p17) x15 hst ?_
    refine ⟨rfl, V 15, V 14, w, ⟨hy.1, hM.f, hy.2⟩, rfl, ?_⟩
    simp only [actOf]
    rw [if_pos (hcn 0 (by decide)), if_pos (hcn 1 (by decide)), if_pos (hcn 2 (by decide)), if_pos (hcn 3 (by decide)), if_pos (hcn 4 (by decide)), if_pos (hcn 5 (by decide)), if_pos (hcn 6 (by decide)), if_pos (hcn 7 (by decide)), if_pos (hcn 8 (by decide)), if_pos (hcn 9 (by decide)), if_pos (hcn 10 (by decide)), if_pos (hcn 11 (by decide)), if_pos (hcn 12 (by decide)), if_pos (hcn 13 (by decide)), if_pos (hcn 14 (by decide)), if_pos (hcn 15 (by decide)), if_pos (hcn 16 (by decide)), if_pos (hcn 17 (by decide))]
    rw [p0, p1, p2, p3, p4, p5, p6, p7, p8, p9, p10, p11, p12, p13, p16, p17]
    simp only [LE, vE, List.getD_cons_zero, List.getD_cons_succ]
end
section
variable {R : Rest} {W0 W w : World} {a : Nat} {cs : List Int} {st : Int} {d : Dw} {i : Nat} {x : Dr}
def enlD (ws : List Int) (j : Int) : List Int := if ws.contains j = true then ws else ws ++ [j]
theorem denlist_none (h : Dm R W0 W a cs st d) (z who : Int) (hz : z < 0 ∨ (d.L.length : Int) ≤ z) (hl : d.L.length ≤ 8) :
    Calls Tryz.prog 57 #[.pointer (some ⟨d.wb, 0, none⟩), .int .i64 z, .int .i64 who] W fun e w' => e = .returned (.int .i64 3) ∧ W = w' := by
  obtain ⟨p, cap, hv, -⟩ := row_form h.rings
  have k4 : W.cell? ⟨d.wb, 4, none⟩ = some (.slice p d.L.length cap) := (obj_cell h.box 4).trans (by simp [Dw.cells, hv])
  generalize d.L.length = n at *
  generalize d.wb = wb at *
  clear h hv
  by_cases hn : z < 0
  · have e1 : decide (z < 0) = true := decide_eq_true hn
    go_enter Tryz.func57, Tryz.ntmps57
    go_wp2
    go_ret
    exact ⟨rfl, rfl⟩
  · have e1 : decide (z < 0) = false := decide_eq_false hn
    have e2 : decide ((n : Int) ≤ z) = true := decide_eq_true (by omega)
    go_enter Tryz.func57, Tryz.ntmps57
    go_wp2
    go_ret
    exact ⟨rfl, rfl⟩
theorem denlist_bad (h : Dm R W0 W a cs st d) (hil : i < d.L.length) (hl8 : d.L.length ≤ 8) (who n : Int) (hw : Wr d.xs who n) (hn : n ≠ 0) :
    Calls Tryz.prog 57 #[.pointer (some ⟨d.wb, 0, none⟩), .int .i64 i, .int .i64 who] W fun e w' => e = .returned (.int .i64 n) ∧ W = w' := by
  obtain ⟨p, cap, hv, -⟩ := row_form h.rings
  have k4 : W.cell? ⟨d.wb, 4, none⟩ = some (.slice p d.L.length cap) := (obj_cell h.box 4).trans (by simp [Dw.cells, hv])
  have HW := Lib.hid (dwrong_bad h who n hw)
  have e0 : decide ((i : Int) < 0) = false := decide_eq_false (by omega)
  have e00 : decide ((d.L.length : Int) ≤ (i : Int)) = false := decide_eq_false (by omega)
  have d1 : (n != 0) = true := by simp [hn]
  clear h hv hw hn
  go_enter Tryz.func57, Tryz.ntmps57
  go_wp2_with (go_at_call 104; refine HW.out.mono ?_; rintro e w1 ⟨rfl, rfl⟩)
  go_ret
  exact ⟨rfl, rfl⟩
set_option maxHeartbeats 4000000 in
set_option maxRecDepth 100000 in
theorem denlist_ok (h : Dm R W0 W a cs st d) (hx : d.L[i]? = some x) (hl8 : d.L.length ≤ 8) {j : Nat} {y : Ac} (hy : d.xs[j]? = some y) (hs : y.1 ≠ 2) (hlen : (x.ws.length : Int) ≤ 1000000) :
    Calls Tryz.prog 57 #[.pointer (some ⟨d.wb, 0, none⟩), .int .i64 i, .int .i64 j] W fun e w' => e = .returned (.int .i64 0) ∧ ∃ v', Dm R W0 w' a cs st { d with L := d.L.set i { x with ws := enlD x.ws j, wv := v' } } := by
  obtain ⟨rb, cap, hv, hrd⟩ := h.rd hx
  have hil : i < d.L.length := (List.getElem?_eq_some_iff.1 hx).1
  have HWT := Lib.hid (h.wt hx)
  obtain ⟨pw, cw, hwv, -⟩ := row_form (h.wt hx)
  have k4 := hrd.k4
  have r8 := hrd.r8
  rw [hwv] at r8
  have b0 : (0 : Int) ≤ (i : Int) := by omega
  have b1 : (i : Int) < (d.L.length : Int) := by omega
  have e0 : decide ((i : Int) < 0) = false := decide_eq_false (by omega)
  have e00 : decide ((d.L.length : Int) ≤ (i : Int)) = false := decide_eq_false (by omega)
  have e01 : decide (d.L.length ≤ i) = false := decide_eq_false (by omega)
  have HX := Lib.hid hx
  have H := Lib.hid h
  have HV := Lib.hid hv
  have HWV := Lib.hid hwv
  have HW := Lib.hid (dwrong_ok h hy hs)
  have HSAME : Hid (x.ws.contains (j : Int) = true → ∃ v', Dm R W0 W a cs st { d with L := d.L.set i { x with ws := enlD x.ws j, wv := v' } }) := Lib.hid fun hcn => ⟨x.wv, by unfold enlD; rw [if_pos hcn, show ({ x with ws := x.ws, wv := x.wv } : Dr) = x from rfl, set_same hx]; exact h⟩
  have HNEW : Hid (x.ws.contains (j : Int) = false → ∀ (w : World) (v' : Value), w.ownsRow 0 3 1 v' (x.ws.length + 1) (x.ws.map (Value.int .i64) ++ [.int .i64 j]) → Frm (fun k => (Value.slice pw x.ws.length cw).ownBlock = some k) W w → (v'.ownBlock = (Value.slice pw x.ws.length cw).ownBlock ∨ ∀ g, v'.ownBlock = some g → W.heap.size ≤ g) → ∃ u, Dm R W0 (w.setCell ⟨rb, i * 9 + 8, none⟩ v') a cs st { d with L := d.L.set i { x with ws := enlD x.ws j, wv := u } }) := Lib.hid fun hcn w v' ho hf hn => ⟨v', by
    unfold enlD
    rw [if_neg (by rw [hcn]; decide)]
    rw [← hwv] at hf hn
    refine h.wapp hx hv ?_ hf hn
    rw [List.length_append, List.length_singleton, List.map_append]
    exact ho⟩
  have HKP : Hid (∀ w, Frm (fun k => (Value.slice pw x.ws.length cw).ownBlock = some k) W w → w.cell? ⟨d.wb, 4, none⟩ = some (.slice (some ⟨rb, 0, none⟩) d.L.length cap) ∧ w.cell? ⟨rb, i * 9 + 8, none⟩ = some (.slice pw x.ws.length cw) ∧ w.frozen? ⟨rb, i * 9 + 8, none⟩ = false) := Lib.hid fun w hf => by
    have hwt := h.wt hx
    rw [hwv] at hwt
    have hb := hf.obj h.box fun e => row_ne hwt h.box (by decide) e
    have hrr := h.rings
    have hr := hf.row hrr fun g hg e => rows_apart hwt hrr (by decide) e hg
    rw [hv] at hr
    have hlt : (i + 1) * 9 ≤ d.L.length * 9 := Nat.mul_le_mul_right 9 hil
    have e8 := fl_at Dr.cells 9 d.L i x (fun x _ => rfl) hx 8 (by decide)
    refine ⟨(obj_cell hb 4).trans (by simp [Dw.cells, hv]), ?_, hr.frozenAt _⟩
    rw [hr.cellAt (i * 9 + 8) (by omega)]
    refine e8.trans ?_
    rw [← hwv]
    rfl
  clear h hx hy hs hrd hv hwv
  go_enter Tryz.func57, Tryz.ntmps57
  go_wp2_with (go_at_call 104; refine HW.out.mono ?_; rintro e w1 ⟨rfl, rfl⟩)
  go_loopw [8] (fun iv wl => ∃ k : Nat, k ≤ x.ws.length ∧ iv = .int .i64 k ∧ Hid (∀ q, q < k → x.ws.getD q 0 ≠ (j : Int)) ∧ wl = W) (fun iv _ => x.ws.length - (intOf iv).toNat)
  case atStart => exact ⟨0, by omega, rfl, Lib.hid fun q hq => absurd hq (Nat.not_lt_zero _), rfl⟩
  case round =>
    obtain ⟨k, hk, rfl, HQ, rfl⟩ := hrel
    by_cases hlt : k < x.ws.length
    · have hwt := HWT.out
      rw [HWV.out] at hwt
      obtain ⟨gw, cap2, hsl, _⟩ := row_some hwt (by omega)
      obtain rfl : pw = some ⟨gw, 0, none⟩ := by simp at hsl; exact hsl.1
      have ck : wr.cell? ⟨gw, k, none⟩ = some (.int .i64 (x.ws.getD k 0)) := by
        rw [hwt.cellAt k (by omega)]
        simp [List.getD, hlt]
      have HM : Hid (x.ws.getD k 0 = (j : Int) → x.ws.contains (j : Int) = true) := Lib.hid fun e => by
        rw [List.contains_iff_mem, ← e]
        simp only [List.getD, List.getElem?_eq_getElem hlt, Option.getD_some]
        exact List.getElem_mem hlt
      clear hwt hsl
      have kl : decide ((k : Int) < (x.ws.length : Int)) = true := decide_eq_true (by omega)
      by_cases he : x.ws.getD k 0 = (j : Int)
      · have e1 : (x.ws.getD k 0 == (j : Int)) = true := by rw [he]; simp
        have HE := Lib.hid (HSAME.out (HM.out he))
        clear he HSAME HNEW HKP
        generalize x.ws.getD k 0 = who at *
        go_wp2_with fail
        go_ret
        exact ⟨rfl, HE.out⟩
      · have e1 : (x.ws.getD k 0 == (j : Int)) = false := by simpa using he
        have HE := Lib.hid he
        have HQ2 : Hid (∀ q, q < k + 1 → x.ws.getD q 0 ≠ (j : Int)) := Lib.hid fun q hq => by
          by_cases hqk : q = k
          · rw [hqk]
            exact he
          · exact HQ.out q (by omega)
        clear he
        generalize x.ws.getD k 0 = who at *
        go_wp2_with fail
        exact ⟨⟨k + 1, by omega, by go_num, HQ2, trivial⟩, by simp [intOf]; omega⟩
    · obtain rfl : k = x.ws.length := by omega
      have hcn : x.ws.contains (j : Int) = false := by
        rw [Bool.eq_false_iff, ne_eq, List.contains_iff_mem]
        intro hm
        obtain ⟨q, hq, e⟩ := List.getElem_of_mem hm
        exact HQ.out q hq (by simp [List.getD, hq, e])
      have HN2 := Lib.hid (HNEW.out hcn)
      have hwt := HWT.out
      rw [HWV.out] at hwt
      have HR := Lib.hid (row_base hwt (Nat.zero_le _))
      clear hwt hcn HNEW HSAME
      go_upto_region 11 with fail
      refine wp_frame (fun a0 => a0.eval (.tmp 0) = .pointer (some ⟨d.wb, 0, none⟩) ∧ a0.eval (.tmp 1) = .int .i64 i ∧ a0.eval (.tmp 2) = .int .i64 j ∧ a0.tmps.size = 70)
        (fun a0 a' y => ∃ (v' x1 : Value) (w : World), (w.ownsRow 0 3 1 v' (x.ws.length + 1) (x.ws.map (Value.int .i64) ++ [.int .i64 j]) ∧ Frm (fun k => (Value.slice pw x.ws.length cw).ownBlock = some k) wr w ∧ (v'.ownBlock = (Value.slice pw x.ws.length cw).ownBlock ∨ ∀ g, v'.ownBlock = some g → wr.heap.size ≤ g)) ∧ y = w.setCell ⟨rb, i * 9 + 8, none⟩ v' ∧
          a' = ((((((((((((((((((a0.put (some 52) (.pointer (some ⟨d.wb, 0, none⟩))).put (some 53) (.pointer (some ⟨d.wb, 0, none⟩))).put (some 54) (.pointer (some ⟨d.wb, 4, none⟩))).put (some 55) (.slice (some ⟨rb, 0, none⟩) d.L.length cap)).put (some 56) (.int .i64 i)).put (some 57) (.pointer (some ⟨d.wb, 0, none⟩))).put (some 58) (.pointer (some ⟨d.wb, 0, none⟩))).put (some 59) (.pointer (some ⟨d.wb, 4, none⟩))).put (some 60) (.slice (some ⟨rb, 0, none⟩) d.L.length cap)).put (some 61) (.int .i64 i)).put (some 62) (.pointer (some ⟨rb, i * 9, none⟩))).put (some 63) (.pointer (some ⟨rb, i * 9 + 8, none⟩))).put (some 64) ((.slice pw x.ws.length cw))).put (some 65) (.int .i64 j)).put (some 66) (x1)).put (some 67) (v')).put (some 68) (.pointer (some ⟨rb, i * 9, none⟩))).put (some 69) (.pointer (some ⟨rb, i * 9 + 8, none⟩)))) ⟨rfl, rfl, rfl, rfl⟩ (fun a0 hE => ?_) (fun a' y hR => ?_)
      · obtain ⟨q0, q1, q2, hsz⟩ := hE
        exact wrE q0 q1 q2 hsz hil hl8 hlen HR.out HKP.out
      · obtain ⟨v', x1, w, ⟨r1, r2, r3⟩, rfl, rfl⟩ := hR
        have HE := Lib.hid (HN2.out w v' r1 r2 r3)
        clear r1 r2 r3 HN2
        simp only [Act.put, List.setIfInBounds_toArray, List.set_cons_zero, List.set_cons_succ]
        generalize World.setCell w _ _ = w9 at *
        go_wp2_with fail
        go_ret
        exact ⟨rfl, HE.out⟩
end
end Go.Proofs.YtdfcfdcekdmcmaaGreat
