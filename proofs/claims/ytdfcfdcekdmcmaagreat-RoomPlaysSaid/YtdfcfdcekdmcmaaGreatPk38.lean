/-
  The document's world of layer 14: AddRing, New by contract. Conditions: as each theorem names them.
  ClockPlays' plain facts: how the sorted timers and the timers as they were set go together, kind by kind. Plain lists alone.
  The document's world of layer 14: Tick by contract. Conditions: as each theorem names them.
  The document's world of layer 14: AddRing by contract. Conditions: as each theorem names them.
-/
import Derived.Test.YtdfcfdcekdmcmaaGreatPk32
import Derived.Test.YtdfcfdcekdmcmaaGreatPk35
import Derived.Test.YtdfcfdcekdmcmaaGreatPk36
set_option linter.unusedVariables false
set_option linter.unusedSimpArgs false
namespace Go.Proofs.YtdfcfdcekdmcmaaGreat
open Go.RowKit
set_option linter.unusedVariables false
set_option linter.unusedSimpArgs false
section
variable {R : Rest} {W0 W w : World} {a : Nat} {cs : List Int} {st : Int} {d : Dw} {i : Nat} {x : Dr}
theorem Dm.radd {y : Dr} (h : Dm (lay W0.heap.size y.lys R) W0 W a cs st d) {v' : Value} (ho : w.ownsRow 0 139 9 v' (d.L.length + 1) (ringsOf d.L ++ y.cells)) (hf : Frm (fun k => d.rv.ownBlock = some k) W w) (hn : v'.ownBlock = d.rv.ownBlock ∨ ∀ g, v'.ownBlock = some g → W.heap.size ≤ g) :
    Dm R W0 (w.setCell ⟨d.wb, 4, none⟩ v') a cs st { d with L := d.L ++ [y], rv := v' } := by
  have h1 : Mv ((lay W0.heap.size (.box d.wb d.cells 120 :: (d.clock ++ (d.table ++ (lays Dr.lys d.L ++ y.lys)))) R).row W0.heap.size 139 9 d.rv d.L.length (ringsOf d.L)) W0 W a cs st := by
    refine Mv.le h ?_
    rw [← lay_app]
    refine lay_perm (ms := .row 139 9 d.rv d.L.length (ringsOf d.L) :: .box d.wb d.cells 120 :: (d.clock ++ (d.table ++ (lays Dr.lys d.L ++ y.lys)))) ?_
    simp only [Dw.lys, Dw.head, List.cons_append, List.nil_append, List.append_assoc]
    exact List.Perm.swap _ _ _
  have h2 := Mv.app h1 (v' := v') (n' := d.L.length + 1) (ys := ringsOf d.L ++ y.cells) ho hf hn
  have h3 : Mv ((lay W0.heap.size (.row 139 9 v' (d.L.length + 1) (ringsOf d.L ++ y.cells) :: (d.clock ++ (d.table ++ (lays Dr.lys d.L ++ y.lys)))) R).box W0.heap.size d.wb d.cells 120) W0 w a cs st :=
    Mv.le h2 (lay_perm (R := R) (ls := .row 139 9 v' (d.L.length + 1) (ringsOf d.L ++ y.cells) :: .box d.wb d.cells 120 :: (d.clock ++ (d.table ++ (lays Dr.lys d.L ++ y.lys)))) (List.Perm.swap _ _ _))
  have h4 := h3.boxSet 4 v'
  have e : ({ d with L := d.L ++ [y], rv := v' } : Dw).lys = .box d.wb (d.cells.setIfInBounds 4 v') 120 :: .row 139 9 v' (d.L.length + 1) (ringsOf d.L ++ y.cells) :: (d.clock ++ (d.table ++ (lays Dr.lys d.L ++ y.lys))) := by
    unfold Dw.lys
    rw [lays_snoc]
    simp [Dw.head, Dw.clock, Dw.table, Dw.cells, ringsOf]
  show Mv (lay W0.heap.size ({ d with L := d.L ++ [y], rv := v' } : Dw).lys R) W0 _ a cs st
  rw [e]
  exact h4
def dw0 (W : World) : Dw := ⟨W.heap.size + 1, W.heap.size, 0, [], [], [], .slice none 0 0, .slice none 0 0, .slice none 0 0, .slice none 0 0, .slice none 0 0⟩
theorem dnew (h : Mv R W0 W a cs st) : Calls Tryz.prog 11 #[] W fun e w' => e = .returned (.pointer (some ⟨W.heap.size + 1, 0, none⟩)) ∧ Dm R W0 w' a cs st (dw0 W) := by
  have h1 := ((h.nil 3 1).nil 4 1).nil 3 1
  have h2 := (h1.boxNew #[.slice none 0 0, .slice none 0 0, .slice none 0 0] 113)
  have h3 := (h2.nil 237 2).nil 139 9
  have h4 := h3.boxNew #[.int .i64 0, .slice none 0 0, .pointer (some ⟨W.heap.size, 0, none⟩), .slice none 0 0, .slice none 0 0] 120
  have e : (W.alloc (.cells #[.slice none 0 0, .slice none 0 0, .slice none 0 0] 113)).heap.size = W.heap.size + 1 := by simp
  rw [e] at h4
  have H := Lib.hid h4
  clear h h1 h2 h3 h4 e
  go_enter Tryz.func11, Tryz.ntmps11
  go_wp2
  go_ret
  exact ⟨rfl, H.out⟩
end
def rgA : List Oper :=
  [{ dst := some 40, op := Op.move (Operand.tmp 0), type := 27, pos := "ref.go:74", after := #[], guard := none },
  { dst := some 41, op := Op.move (Operand.tmp 0), type := 27, pos := "ref.go:74", after := #[], guard := none },
  { dst := some 42, op := Op.nilCheck (Operand.tmp 41), type := 0, pos := "ref.go:74", after := #[{ on := 1, ground := Ground.data }], guard := none },
  { dst := some 43, op := Op.fieldAddr 120 (Operand.tmp 42) 3, type := 0, pos := "ref.go:74", after := #[{ on := 2, ground := Ground.data }], guard := none },
  { dst := some 44, op := Op.load 118 (Operand.tmp 43), type := 118, pos := "ref.go:74", after := #[{ on := 3, ground := Ground.data }], guard := none },
  { dst := some 45, op := Op.load 139 (Operand.tmp 7), type := 139, pos := "ref.go:74", after := #[], guard := none },
  { dst := some 46, op := Op.buildSlice 118 1 #[(0, Operand.tmp 45)], type := 118, pos := "ref.go:74", after := #[{ on := 5, ground := Ground.data }], guard := none },
  { dst := some 47, op := Op.call { callee := Callee.builtin Builtin.append, args := #[Operand.tmp 44, Operand.tmp 46], argTypes := #[118, 118] }, type := 118, pos := "ref.go:74", after := #[{ on := 4, ground := Ground.data }, { on := 6, ground := Ground.data }], guard := none },
  { dst := some 48, op := Op.nilCheck (Operand.tmp 40), type := 0, pos := "ref.go:74", after := #[{ on := 0, ground := Ground.data }, { on := 0, ground := Ground.phase }, { on := 1, ground := Ground.phase }, { on := 2, ground := Ground.phase }, { on := 3, ground := Ground.phase }, { on := 4, ground := Ground.phase }, { on := 5, ground := Ground.phase }, { on := 6, ground := Ground.phase }, { on := 7, ground := Ground.phase }], guard := none },
  { dst := some 49, op := Op.fieldAddr 120 (Operand.tmp 48) 3, type := 0, pos := "ref.go:74", after := #[{ on := 8, ground := Ground.data }, { on := 0, ground := Ground.phase }, { on := 1, ground := Ground.phase }, { on := 2, ground := Ground.phase }, { on := 3, ground := Ground.phase }, { on := 4, ground := Ground.phase }, { on := 5, ground := Ground.phase }, { on := 6, ground := Ground.phase }, { on := 7, ground := Ground.phase }], guard := none },
  { dst := none, op := Op.store 118 (Operand.tmp 49) (Operand.tmp 47), type := 0, pos := "ref.go:74", after := #[{ on := 9, ground := Ground.data }, { on := 7, ground := Ground.data }, { on := 7, ground := Ground.chain }, { on := 0, ground := Ground.phase }, { on := 1, ground := Ground.phase }, { on := 2, ground := Ground.phase }, { on := 3, ground := Ground.phase }, { on := 4, ground := Ground.phase }, { on := 5, ground := Ground.phase }, { on := 6, ground := Ground.phase }, { on := 7, ground := Ground.phase }], guard := none }]
def LA2 : List (Option Tmp) := [some 40, some 41, some 42, some 43, some 44, some 45, some 46, some 47, some 48, some 49]
theorem ddA : DD (fun i => LA2.getD i none) 10 := dd_of (by kernel_rfl) 10 (by decide)
theorem i_cases10 {i : Nat} (h : i < 10) : i = 0 ∨ i = 1 ∨ i = 2 ∨ i = 3 ∨ i = 4 ∨ i = 5 ∨ i = 6 ∨ i = 7 ∨ i = 8 ∨ i = 9 := by omega
theorem infoDr : (Tryz.prog.info? 139).map (fun i => (i.zero.map (·.cells.size), i.size, i.bytes)) = some (some 9, 9, 136) := by kernel_rfl
def vA (wb : Nat) (rvv : Value) (ys : Array Value) : List Value := [.pointer (some ⟨wb, 0, none⟩), .pointer (some ⟨wb, 0, none⟩), .pointer (some ⟨wb, 0, none⟩), .pointer (some ⟨wb, 4, none⟩), rvv, .agg ys, undef, undef, .pointer (some ⟨wb, 0, none⟩), .pointer (some ⟨wb, 4, none⟩)]
structure MA (W : World) (wb : Nat) (rvv : Value) (n : Nat) (rs : List Value) (ys : Array Value) (s : Array Bool) (V : Nat → Value) (w : World) : Prop where
  p : ∀ k, k < 10 → k ≠ 6 → k ≠ 7 → s.getD k true = true → V k = (vA wb rvv ys).getD k undef
  l : s.getD 6 true = true → s.getD 7 true = false → ∃ g, W.heap.size ≤ g ∧ V 6 = .slice (some ⟨g, 0, none⟩) 1 1 ∧ w.heap[g]? = some (.cells ys 139 (0, 0))
  f : Frm (fun k => rvv.ownBlock = some k) W w
  no : s.getD 7 true = false → w.ownsRow 0 139 9 rvv n rs
  y : s.getD 7 true = true → w.ownsRow 0 139 9 (V 7) (n + 1) (rs ++ ys.toList) ∧ ((V 7).ownBlock = rvv.ownBlock ∨ ∀ g, (V 7).ownBlock = some g → W.heap.size ≤ g)
section
variable {W w w' : World} {wb rb n : Nat} {rvv : Value} {rs : List Value} {ys : Array Value} {s : Array Bool} {V : Nat → Value}
theorem MA.far (h : MA W wb rvv n rs ys s V w) {k : Nat} {v : Value} (k7 : k ≠ 7) (hb : Below w.heap.size w w') (hp : k ≠ 6 → v = (vA wb rvv ys).getD k undef) (hl : k = 6 → ∃ g, W.heap.size ≤ g ∧ v = .slice (some ⟨g, 0, none⟩) 1 1 ∧ w'.heap[g]? = some (.cells ys 139 (0, 0))) :
    MA W wb rvv n rs ys (s.setIfInBounds k true) (upd V k v) w' := by
  have hF : Frm (fun _ => False) w w' := Frm.of_below hb fun _ => False
  refine ⟨fun j hj j6 j7 hs => ?_, fun h6 h7 => ?_, h.f.trans (hF.mono fun _ _ e => e.elim), fun h7 => ?_, fun h7 => ?_⟩
  · by_cases e : j = k
    · subst e
      rw [upd_self]
      exact hp j6
    · rw [upd_ne _ e]
      rw [getD_set_ne true (Ne.symm e)] at hs
      exact h.p j hj j6 j7 hs
  · by_cases e : k = 6
    · subst e
      rw [upd_self]
      exact hl rfl
    · rw [upd_ne _ (Ne.symm e)]
      rw [getD_set_ne true e] at h6
      rw [getD_set_ne true k7] at h7
      obtain ⟨g, q1, q2, q3⟩ := h.l h6 h7
      exact ⟨g, q1, q2, (hb.block g (lt_of_block q3)).trans q3⟩
  · rw [getD_set_ne true k7] at h7
    exact hF.row (h.no h7) fun _ _ => id
  · rw [getD_set_ne true k7] at h7
    rw [upd_ne _ (Ne.symm k7)]
    exact ⟨hF.row (h.y h7).1 fun _ _ => id, (h.y h7).2⟩
theorem run_slice1 {P : Program} (w : World) (t e : TypeId) (cs : Array Value) (k : Nat) (hk : cs.size = k) (hk0 : 0 < k) (hk1 : k ≤ 1000)
    (hu : P.underlying t = some (.slice e)) (hsz : (P.info? e).map (·.size) = some k) (hz : ((P.info? e).bind (·.zero)).isSome = true) :
    (Instr.buildSlice t 1 #[(0, .agg cs)]).run P w = .ok (.slice (some ⟨w.heap.size, 0, none⟩) 1 1) (w.alloc (.cells cs e)) := by
  cases hie : P.info? e with
  | none => simp [hie] at hsz
  | some ie =>
    simp only [hie, Option.map_some, Option.some.injEq, Option.bind_some] at hsz hz
    obtain ⟨z, hzz⟩ := Option.isSome_iff_exists.1 hz
    refine run_buildSlice w t e 1 _ cs ie z hu hie hzz (by rw [hsz]; omega) (by rw [hsz]; omega) ?_
    rw [hsz]
    have := Great.fill_whole (s := k) hk0 [.agg cs] ((Array.range (1 * k)).map (z.cells[· % z.cells.size]!)) (fun v hv => by simp at hv; subst hv; exact hk) (by simp)
    simpa [Value.cells] using this
theorem info_parts3r {t : TypeId} {m s b : Nat} (h : (Tryz.prog.info? t).map (fun i => (i.zero.map (·.cells.size), i.size, i.bytes)) = some (some m, s, b)) : ∃ z ti, Tryz.prog.info? t = some ti ∧ ti.zero = some z ∧ z.cells.size = m ∧ ti.size = s ∧ ti.bytes = b := by
  cases hi : Tryz.prog.info? t with
  | none => rw [hi] at h; simp at h
  | some ti =>
    rw [hi] at h
    simp only [Option.map_some, Option.some.injEq, Prod.mk.injEq] at h
    obtain ⟨h1, h2, h3⟩ := h
    cases hz : ti.zero with
    | none => rw [hz] at h1; simp at h1
    | some z =>
      rw [hz] at h1
      exact ⟨z, ti, rfl, hz, by simpa using h1, h2, h3⟩
set_option maxHeartbeats 8000000 in
theorem wrA {a0 : Act} {rc : Nat} (e0 : a0.eval (.tmp 0) = .pointer (some ⟨wb, 0, none⟩)) (e7 : a0.eval (.tmp 7) = .pointer (some ⟨rc, 0, none⟩)) (hsz : a0.tmps.size = 50)
    (hlen : n ≤ 8) (hys : ys.size = 9) (hy1 : ys.all (·.oneCell') = true) (hyi : (Tryz.prog.info? 139).map (·.size) = some ys.size) (hrow : W.ownsRow 0 139 9 rvv n rs)
    (hc : ∀ w, Frm (fun k => rvv.ownBlock = some k) W w → w.cell? ⟨wb, 4, none⟩ = some rvv ∧ w.frozen? ⟨wb, 4, none⟩ = false ∧ w.heap[rc]? = some (.cells ys 139 (0, 0))) :
    (Code.region 12 rgA.toArray true).wp Tryz.prog (fun e a' y => e = .normal ∧ ∃ (v' x1 : Value) (w : World), (w.ownsRow 0 139 9 v' (n + 1) (rs ++ ys.toList) ∧ Frm (fun k => rvv.ownBlock = some k) W w ∧ (v'.ownBlock = rvv.ownBlock ∨ ∀ g, v'.ownBlock = some g → W.heap.size ≤ g)) ∧ y = w.setCell ⟨wb, 4, none⟩ v' ∧
      a' = ((((((((((a0.put (some 40) (.pointer (some ⟨wb, 0, none⟩))).put (some 41) (.pointer (some ⟨wb, 0, none⟩))).put (some 42) (.pointer (some ⟨wb, 0, none⟩))).put (some 43) (.pointer (some ⟨wb, 4, none⟩))).put (some 44) (rvv)).put (some 45) (.agg ys)).put (some 46) (x1)).put (some 47) (v')).put (some 48) (.pointer (some ⟨wb, 0, none⟩))).put (some 49) (.pointer (some ⟨wb, 4, none⟩)))) a0 W := by
  have hrep : ∀ k, k < 11 → (Array.replicate rgA.length false).getD k true = false := fun k hk => by
    simp [show k < rgA.length from hk]
  obtain ⟨z2, i2, ki, kz0, kz3, kz1, kz2⟩ := info_parts3r infoDr
  have hb2 : ∀ w : World, (Instr.buildSlice 118 1 #[(0, .agg ys)]).run Tryz.prog w = .ok (.slice (some ⟨w.heap.size, 0, none⟩) 1 1) (w.alloc (.cells ys 139)) := fun w => run_slice1 w _ _ ys 9 hys (by decide) (by decide) Tryz.underlying118 (by kernel_rfl) (by kernel_rfl)
  have hf3 : ∀ w : World, (Instr.fieldAt 120 (.pointer (some ⟨wb, 0, none⟩)) 3).run Tryz.prog w = .ok (.pointer (some ⟨wb, 4, none⟩)) w := fun w => by kernel_rfl
  have hl4 : ∀ w : World, Frm (fun k => rvv.ownBlock = some k) W w → (Instr.loadAt 118 (.pointer (some ⟨wb, 4, none⟩))).run Tryz.prog w = .ok rvv w := fun w hw => by
    have k4 := (hc w hw).1
    obtain ⟨pw, cw, rfl, -⟩ := row_form hrow
    go_simp
  have hlr : ∀ w : World, Frm (fun k => rvv.ownBlock = some k) W w → (Instr.loadAt 139 (.pointer (some ⟨rc, 0, none⟩))).run Tryz.prog w = .ok (.agg ys) w := fun w hw => by
    simp only [Instr.loadAt, Instr.sureAddr, Sem.run_bind, Sem.run_pure, Result.andThen_ok, run_loadVar_row w rc 139 139 ys (0, 0) _ (hc w hw).2.2 Tryz.underlying139 rfl hyi]
  have hT1 : ∀ x ∈ ys.toList, x.oneCell' = true := fun x hx => (Array.all_eq_true_iff_forall_mem.1 hy1) x (by simpa using hx)
  have hTL : ys.toList.length = 1 * 9 := by simpa using hys
  refine wp_region_act (l := rgA) 10 (fun k => LA2.getD k none) (MA W wb rvv n rs ys) mixed (by decide) (by kernel_rfl) (by kernel_rfl) (by kernel_rfl) (by kernel_rfl) (fun _ => undef) ⟨fun k hk _ _ h => (by rw [hrep k (by omega)] at h; cases h), fun h => (by rw [hrep 6 (by decide)] at h; cases h), Frm.of_below (Below.drew (Below.refl _ _)) _, fun _ => (Frm.of_below (Below.drew (Below.refl _ _)) fun _ => False).row hrow fun _ _ => id, fun h => (by rw [hrep 7 (by decide)] at h; cases h)⟩ (fun k s V w hk hr hM => ?_) (fun V w hM => ?_)
  · have hun := ready_un hr
    have ev : ∀ (j k : Nat), j < 10 → LA2.getD j none = some k → s.getD j true = true → k < 50 → (actOf (fun k => LA2.getD k none) V s a0 10).eval (.tmp k) = V j := fun j k hj hk hs hk2 => actOf_eval 10 ddA hj hk hs (by rw [hsz]; exact hk2)
    have ev0 : ∀ k, (∀ j, j < 10 → LA2.getD j none ≠ some k) → (actOf (fun k => LA2.getD k none) V s a0 10).eval (.tmp k) = a0.eval (.tmp k) := fun k h => actOf_eval0 10 fun j hj _ => h j hj
    rcases i_cases10 hk with rfl | rfl | rfl | rfl | rfl | rfl | rfl | rfl | rfl | rfl
    · exact act_val ddA rfl rfl rfl hk hun (ex_move (.tmp 0) rfl ((ev0 0 (by decide)).trans e0)) (hM.far (by decide) (Below.refl _ _) (fun _ => rfl) (by simp))
    · exact act_val ddA rfl rfl rfl hk hun (ex_move (.tmp 0) rfl ((ev0 0 (by decide)).trans e0)) (hM.far (by decide) (Below.refl _ _) (fun _ => rfl) (by simp))
    · have d := ready_on hr 1 (by kernel_rfl)
      exact act_val ddA rfl rfl rfl hk hun (ex_nil (.tmp 41) rfl ((ev 1 41 (by decide) rfl d (by decide)).trans (hM.p 1 (by decide) (by decide) (by decide) d))) (hM.far (by decide) (Below.refl _ _) (fun _ => rfl) (by simp))
    · have d := ready_on hr 2 (by kernel_rfl)
      exact act_val ddA rfl rfl rfl hk hun (ex_field 120 (.tmp 42) 3 rfl ((ev 2 42 (by decide) rfl d (by decide)).trans (hM.p 2 (by decide) (by decide) (by decide) d)) (hf3 w)) (hM.far (by decide) (Below.refl _ _) (fun _ => rfl) (by simp))
    · have d := ready_on hr 3 (by kernel_rfl)
      exact act_val ddA rfl rfl rfl hk hun (ex_load 118 (.tmp 43) rfl ((ev 3 43 (by decide) rfl d (by decide)).trans (hM.p 3 (by decide) (by decide) (by decide) d)) (hl4 w hM.f)) (hM.far (by decide) (Below.refl _ _) (fun _ => rfl) (by simp))
    · exact act_val ddA rfl rfl rfl hk hun (ex_load 139 (.tmp 7) rfl ((ev0 7 (by decide)).trans e7) (hlr w hM.f)) (hM.far (by decide) (Below.refl _ _) (fun _ => rfl) (by simp))
    · have d := ready_on hr 5 (by kernel_rfl)
      exact act_slice1 ddA rfl rfl rfl hk hun 118 139 (.tmp 45) rfl ys (.agg ys) ((ev 5 45 (by decide) rfl d (by decide)).trans (hM.p 5 (by decide) (by decide) (by decide) d)) (hb2 _) fun w' hb hn => hM.far (by decide) hb (fun e => absurd rfl e) (fun _ => ⟨_, hM.f.size, rfl, hn⟩)
    · have d := ready_on hr 4 (by kernel_rfl)
      have d2 := ready_on hr 6 (by kernel_rfl)
      obtain ⟨g, q1, q2, q3⟩ := hM.l d2 hun
      have hrow2 := hM.no hun
      refine act_append ddA rfl rfl rfl hk hun (.tmp 44) (.tmp 46) 118 rfl 139 i2 z2 9 136 Tryz.underlying118 ki kz0 kz1 kz2 kz3 (by decide) rvv n rs ((ev 4 44 (by decide) rfl d (by decide)).trans (hM.p 4 (by decide) (by decide) (by decide) d)) hrow2 ⟨g, 0, none⟩ 1 1 ys.toList ((ev 6 46 (by decide) rfl d2 (by decide)).trans q2) hTL (newsB q3) hT1 (by unfold maxLen; omega) (by omega) fun v' w' a1 a2 a3 => ?_
      refine ⟨fun j hj j6 j7 hs => ?_, fun _ h7 => (by rw [sets_true] at h7; cases h7), hM.f.trans a2, fun h7 => (by rw [sets_true] at h7; cases h7), fun _ => ?_⟩
      · rw [upd_ne _ j7]
        rw [getD_set_ne true (Ne.symm j7)] at hs
        exact hM.p j hj j6 j7 hs
      · rw [upd_self]
        refine ⟨a1, ?_⟩
        rcases a3 with a3 | a3
        · exact .inl a3
        · exact .inr fun q hq => Nat.le_trans hM.f.size (a3 q hq)
    · have d := ready_on hr 0 (by kernel_rfl)
      exact act_val ddA rfl rfl rfl hk hun (ex_nil (.tmp 40) rfl ((ev 0 40 (by decide) rfl d (by decide)).trans (hM.p 0 (by decide) (by decide) (by decide) d))) (hM.far (by decide) (Below.refl _ _) (fun _ => rfl) (by simp))
    · have d := ready_on hr 8 (by kernel_rfl)
      exact act_val ddA rfl rfl rfl hk hun (ex_field 120 (.tmp 48) 3 rfl ((ev 8 48 (by decide) rfl d (by decide)).trans (hM.p 8 (by decide) (by decide) (by decide) d)) (hf3 w)) (hM.far (by decide) (Below.refl _ _) (fun _ => rfl) (by simp))
  · have hcn : ∀ j, j < 10 → (canon 10 rgA.length).getD j true = true := fun j hj => canon_at hj
    have hy := hM.y (hcn 7 (by decide))
    have p0 := hM.p 0 (by decide) (by decide) (by decide) (hcn 0 (by decide))
    have p1 := hM.p 1 (by decide) (by decide) (by decide) (hcn 1 (by decide))
    have p2 := hM.p 2 (by decide) (by decide) (by decide) (hcn 2 (by decide))
    have p3 := hM.p 3 (by decide) (by decide) (by decide) (hcn 3 (by decide))
    have p4 := hM.p 4 (by decide) (by decide) (by decide) (hcn 4 (by decide))
    have p5 := hM.p 5 (by decide) (by decide) (by decide) (hcn 5 (by decide))
    have p8 := hM.p 8 (by decide) (by decide) (by decide) (hcn 8 (by decide))
    have p9 := hM.p 9 (by decide) (by decide) (by decide) (hcn 9 (by decide))
    have x9 : (actOf (fun k => LA2.getD k none) V (canon 10 rgA.length) a0 10).eval (.tmp 49) = V 9 := actOf_eval 10 ddA (i := 9) (by decide) rfl (hcn 9 (by decide)) (by rw [hsz]; decide)
    have x7 : (actOf (fun k => LA2.getD k none) V (canon 10 rgA.length) a0 10).eval (.tmp 47) = V 7 := actOf_eval 10 ddA (i := 7) (by decide) rfl (hcn 7 (by decide)) (by rw [hsz]; decide)
    have hst : (Instr.storeAt 118 (.pointer (some ⟨wb, 4, none⟩)) (V 7)).run Tryz.prog w = .ok () (w.setCell ⟨wb, 4, none⟩ (V 7)) := by
      obtain ⟨k8, kf, _⟩ := hc w hM.f
      obtain ⟨pv, cv, hpv, -⟩ := row_form hy.1
      rw [hpv]
      obtain ⟨pw, cw, rfl, -⟩ := row_form hrow
      go_simp
    refine wpList_st rfl 118 (.tmp 49) (.tmp 47) rfl rfl (x9.trans p9) x7 hst ?_
    refine ⟨rfl, V 7, V 6, w, ⟨hy.1, hM.f, hy.2⟩, rfl, ?_⟩
    simp only [actOf]
    rw [if_pos (hcn 0 (by decide)), if_pos (hcn 1 (by decide)), if_pos (hcn 2 (by decide)), if_pos (hcn 3 (by decide)), if_pos (hcn 4 (by decide)), if_pos (hcn 5 (by decide)), if_pos (hcn 6 (by decide)), if_pos (hcn 7 (by decide)), if_pos (hcn 8 (by decide)), if_pos (hcn 9 (by decide))]
    rw [p0, p1, p2, p3, p4, p5, p8, p9]
    simp only [LA2, vA, List.getD_cons_zero, List.getD_cons_succ]
end
end Go.Proofs.YtdfcfdcekdmcmaaGreat
namespace Go.Proofs.YtdfcfdcekdmcmaaGreat
open Go.RowKit
theorem keptL_all (ts : List (Int × Int)) (p : Int × Int → Bool) : keptL ts p ts.length = ts.filter fun t => !p t := by unfold keptL; rw [List.take_length]
theorem whoL_all (ts : List (Int × Int)) (p : Int × Int → Bool) : whoL ts p ts.length = (ts.filter p).map (·.2) := by unfold whoL; rw [List.take_length]
theorem kept_srt (ms : List (Int × Int)) (p : Int × Int → Bool) : keptL (srt ms) p (srt ms).length = srt (keptL ms p ms.length) := by
  rw [keptL_all, keptL_all, srt_filter]
theorem told_le (ms : List (Int × Int)) (p : Int × Int → Bool) : (whoL (srt ms) p (srt ms).length).length ≤ ms.length := by
  have := whoL_le (srt ms) p (srt ms).length
  rw [srt_length] at this ⊢
  exact this
end Go.Proofs.YtdfcfdcekdmcmaaGreat
namespace Go.Proofs.YtdfcfdcekdmcmaaGreat
open Go.RowKit
set_option linter.unusedVariables false
set_option linter.unusedSimpArgs false
section
variable {R : Rest} {W0 W w : World} {a : Nat} {cs : List Int} {st : Int} {d : Dw} {i : Nat} {x : Dr} {T : TypeId} {z n : Nat} {v : Value} {xs : List Value}
theorem Dm.rowOut (h : Dm (R.row W0.heap.size T z v n xs) W0 W a cs st d) : Mv ((lay W0.heap.size d.lys R).row W0.heap.size T z v n xs) W0 W a cs st := by
  refine Mv.le h ?_
  show (lay W0.heap.size d.lys (lay W0.heap.size [.row T z v n xs] R)).le (lay W0.heap.size (.row T z v n xs :: d.lys) R)
  rw [← lay_app]
  exact lay_perm (List.perm_append_singleton _ _)
theorem Dm.rowInto (h : Mv ((lay W0.heap.size d.lys R).row W0.heap.size T z v n xs) W0 W a cs st) : Dm (R.row W0.heap.size T z v n xs) W0 W a cs st d := by
  refine Mv.le h ?_
  show (lay W0.heap.size (.row T z v n xs :: d.lys) R).le (lay W0.heap.size d.lys (lay W0.heap.size [.row T z v n xs] R))
  rw [← lay_app]
  exact lay_perm (List.perm_append_singleton _ _).symm
theorem Dm.rowIs (h : Dm (R.row W0.heap.size T z v n xs) W0 W a cs st d) : W.ownsRow W0.heap.size T z v n xs := h.rowOut.rowIs
theorem Dm.rowDrop (h : Dm (R.row W0.heap.size T z v n xs) W0 W a cs st d) : Dm R W0 W a cs st d := h.rowOut.rowDrop
theorem Dm.rowMore (h : Dm R W0 W a cs st d) (hb : Below W.heap.size W w) (ho : w.ownsRow 0 T z v n xs) (hn : ∀ g, v.ownBlock = some g → W.heap.size ≤ g) : Dm (R.row W0.heap.size T z v n xs) W0 w a cs st d := Dm.rowInto (Mv.more h hb (row_up ho hn))
theorem Dm.wset (h : Dm R W0 W a cs st d) (now' : Int) : Dm R W0 ((W.setCell ⟨d.wb, 0, none⟩ (.int .i64 now')).setCell ⟨d.wb, 1, none⟩ d.tv) a cs st { d with now := now' } := by
  have h1 : Mv ((lay W0.heap.size (.row 139 9 d.rv d.L.length (ringsOf d.L) :: (d.clock ++ (d.table ++ lays Dr.lys d.L))) R).box W0.heap.size d.wb d.cells 120) W0 W a cs st := h
  exact (h1.boxSet 0 (.int .i64 now')).boxSet 1 d.tv
theorem Dm.clkRow (h : Dm R W0 W a cs st d) (hb : Below W.heap.size W w) {v' r : Value} {ms' : List (Int × Int)} {os : List Int} (ho : Rk w v' ms') (hn : (v' = d.tv ∧ ms' = d.ms) ∨ ∀ g, v'.ownBlock = some g → W.heap.size ≤ g) (hr : w.ownsRow 0 3 1 r os.length (os.map (Value.int .i64))) (hrn : ∀ g, r.ownBlock = some g → W.heap.size ≤ g) (now' : Int) :
    Dm (R.row W0.heap.size 3 1 r os.length (os.map (Value.int .i64))) W0 ((w.setCell ⟨d.wb, 0, none⟩ (.int .i64 now')).setCell ⟨d.wb, 1, none⟩ v') a cs st { d with now := now', ms := ms', tv := v' } := by
  rcases hn with ⟨rfl, rfl⟩ | hn
  · exact (h.rowMore hb hr hrn).wset now'
  · have h1 : Mv (lay W0.heap.size (d.head ++ .row 237 2 d.tv d.ms.length (flat d.ms) :: (d.table ++ lays Dr.lys d.L)) R) W0 W a cs st := h
    have h2 := Mv.rowDrop (Mv.le h1 (lay_up _ _ _))
    have hs0 := h2.below.size
    have hsz := hb.size
    have h3 : Mv (lay W0.heap.size (.row 3 1 r os.length (os.map (Value.int .i64)) :: .row 237 2 v' ms'.length (flat ms') :: (d.head ++ (d.table ++ lays Dr.lys d.L))) R) W0 w a cs st := by
      refine h2.turn2 (Frm.of_below hb fun _ => False) (fun _ h => h.elim) (fun g hg => ?_) ⟨⟨(lay W0.heap.size (d.head ++ (d.table ++ lays Dr.lys d.L)) R).ok _ _ h2.inv fun k hk => hb.block k (h2.prot_lt hk), row_up ho fun g hg => by have := hn g hg; omega, fun k hk e => ?_⟩, row_up hr fun g hg => by have := hrn g hg; omega, fun k hk e => ?_⟩
      · rcases hg with (hg | hg) | hg
        · exact .inl hg
        · exact .inr ⟨hn g hg, (ho.lt g hg).2⟩
        · exact .inr ⟨hrn g hg, (hr.lt g hg).2⟩
      · have := h2.prot_lt hk
        have := hn k e
        omega
      · rcases hk with hk | hk
        · have := h2.prot_lt hk
          have := hrn k e
          omega
        · exact rows_apart ho hr (by decide) hk e
    have h4 : Mv ((lay W0.heap.size (.row 139 9 d.rv d.L.length (ringsOf d.L) :: .row 237 2 v' ms'.length (flat ms') :: (d.table ++ lays Dr.lys d.L)) (R.row W0.heap.size 3 1 r os.length (os.map (Value.int .i64)))).box W0.heap.size d.wb d.cells 120) W0 w a cs st := by
      refine Mv.le h3 ?_
      show (lay W0.heap.size _ R).le (lay W0.heap.size (.box d.wb d.cells 120 :: .row 139 9 d.rv d.L.length (ringsOf d.L) :: .row 237 2 v' ms'.length (flat ms') :: (d.table ++ lays Dr.lys d.L)) (lay W0.heap.size [.row 3 1 r os.length (os.map (Value.int .i64))] R))
      rw [← lay_app]
      refine lay_perm ?_
      refine List.Perm.trans ?_ (List.perm_append_singleton _ _).symm
      refine List.Perm.cons _ ?_
      exact List.perm_middle (l₁ := [.box d.wb d.cells 120, .row 139 9 d.rv d.L.length (ringsOf d.L)]) (l₂ := d.table ++ lays Dr.lys d.L) |>.symm
    have h5 := (h4.boxSet 0 (.int .i64 now')).boxSet 1 v'
    exact h5
def toldD (ms : List (Int × Int)) (t : Int) : List Int := whoL (srt ms) (fun y => decide (y.1 ≤ t)) (srt ms).length
theorem toldD_le (ms : List (Int × Int)) (t : Int) : (toldD ms t).length ≤ ms.length := told_le ms _
theorem wk_xs (ts ts' : List (Int × Int)) (xs : List Ac) (who : Int) : (wk (ts, xs) who).2 = (wk (ts', xs) who).2 := by
  unfold wk
  simp only
  cases xs[who.toNat]? with
  | none => rfl
  | some a =>
    simp only
    split <;> rfl
theorem dtw_any (h : Dm R W0 W a cs st d) {B : Int} (hb : Wb B d.xs) (hB : B < 4611686018427387904) (who : Int) :
    Calls Tryz.prog 108 #[.pointer (some ⟨d.tb, 0, none⟩), .int .i64 who] W fun e w' => (∃ v, e = .returned v) ∧ Dm R W0 w' a cs st { d with xs := (wk ([], d.xs) who).2 } := by
  rcases wr_or d.xs who with ⟨n, hne, hw⟩ | ⟨j, y, rfl, hy, hs⟩
  · refine (r5wake_bad W d.tb d.v1 d.v2 d.v3 d.xs who n h.rt hw hne).mono ?_
    rintro e w' ⟨rfl, rfl⟩
    rw [(wk_no hw).1]
    exact ⟨⟨_, rfl⟩, h⟩
  · have hm := hb y (List.mem_of_getElem? hy)
    refine (r5wake_ok W d.tb d.v1 d.v2 d.v3 d.xs j y h.rt hy hs hm.1 (by omega)).mono ?_
    rintro e w' ⟨rfl, hr⟩
    rw [(wk_yes hy hs).1]
    exact ⟨⟨_, rfl⟩, h.tab hr⟩
set_option maxHeartbeats 4000000 in
set_option maxRecDepth 100000 in
theorem dtick_ok (h : Dm R W0 W a cs st d) (hn : (d.ms.length : Int) ≤ 1048576) (t : Int) (h0 : 0 ≤ d.now) (h1 : 1 ≤ t) (hm : d.now + t ≤ 1099511627776) {B : Int} (hb : Wb B d.xs) (hB : B + d.ms.length < 4611686018427387904) :
    Calls Tryz.prog 61 #[.pointer (some ⟨d.wb, 0, none⟩), .int .i64 t] W fun e w' => ∃ r ls v, e = .returned (.tuple #[r, .int .i64 0]) ∧ srt ls = keptL (srt d.ms) (fun y => decide (y.1 ≤ d.now + t)) (srt d.ms).length ∧ ls.length ≤ d.ms.length ∧ Dm (R.row W0.heap.size 3 1 r (toldD d.ms (d.now + t)).length ((toldD d.ms (d.now + t)).map (Value.int .i64))) W0 w' a cs st { d with now := d.now + t, ms := ls, tv := v, xs := (wks ([], d.xs) (toldD d.ms (d.now + t)) (toldD d.ms (d.now + t)).length).1.2 } := by
  obtain ⟨p, cap, hv, -⟩ := row_form h.rk
  have hrk := h.rk
  rw [hv] at hrk
  have HT := Lib.hid (rtick_any2 W d.now t p cap d.ms hrk hn h0 (by omega) (by omega) (by omega))
  have k0 : W.cell? ⟨d.wb, 0, none⟩ = some (.int .i64 d.now) := (obj_cell h.box 0).trans rfl
  have k1 : W.cell? ⟨d.wb, 1, none⟩ = some (.slice p d.ms.length cap) := (obj_cell h.box 1).trans (by simp [Dw.cells, hv])
  have HV := Lib.hid hv
  have H := Lib.hid h
  have HB := Lib.hid hb
  have HB2 : Hid (B + (toldD d.ms (d.now + t)).length < 4611686018427387904) := Lib.hid (by have := toldD_le d.ms (d.now + t); omega)
  have hl : ((toldD d.ms (d.now + t)).length : Int) ≤ 1048576 := by have := toldD_le d.ms (d.now + t); omega
  have nn : ((0 : Int) != 0) = false := rfl
  have HC : Hid (∀ (w w2 : World) (v r : Value) (ls : List (Int × Int)), Below W.heap.size W w2 → Rk w2 v ls → ((v = .slice p d.ms.length cap ∧ ls = d.ms) ∨ ∀ g, v.ownBlock = some g → W.heap.size ≤ g) → w2.ownsRow 0 3 1 r (toldD d.ms (d.now + t)).length ((toldD d.ms (d.now + t)).map (Value.int .i64)) → (∀ g, r.ownBlock = some g → W.heap.size ≤ g) → Dm (R.row W0.heap.size 3 1 r (toldD d.ms (d.now + t)).length ((toldD d.ms (d.now + t)).map (Value.int .i64))) W0 ((w2.setCell ⟨d.wb, 0, none⟩ (.int .i64 (d.now + t))).setCell ⟨d.wb, 1, none⟩ v) a cs st { d with now := d.now + t, ms := ls, tv := v }) := Lib.hid fun w w2 v r ls hb2 hk hnv hr hrn => h.clkRow hb2 hk (by rw [hv]; exact hnv) hr hrn (d.now + t)
  clear h hb hrk hv hB
  generalize hT : toldD d.ms (d.now + t) = told at *
  generalize hNW : d.now + t = nw at *
  go_enter Tryz.func61, Tryz.ntmps61
  go_upto_region 4 with (go_at_call 109; refine HT.out.mono ?_; rintro e w1 ⟨v, r, ls, rfl, hk, hr, hsrt, hll, hbl, hnv, hrn⟩; rw [show whoL (srt d.ms) (fun y => decide (y.1 ≤ nw)) (srt d.ms).length = told from hT] at hr; obtain ⟨pv, cv, rfl, -⟩ := row_form hk; obtain ⟨pr, cr, rfl, -⟩ := row_form hr; have HK := Lib.hid hk; have HR := Lib.hid hr; have HSR := Lib.hid hsrt; have HLL := Lib.hid hll; have HBL := Lib.hid hbl; have HNV := Lib.hid hnv; have HRN := Lib.hid hrn; clear hk hr hsrt hll hbl hnv hrn k0 k1)
  have hba := balloc (Below.refl w1.heap.size w1) (.cells #[.int .i64 nw, .slice pv ls.length cv] 116)
  have hF := Frm.of_below hba fun _ => False
  have HCC := Lib.hid (HC.out w1 (w1.alloc (.cells #[.int .i64 nw, .slice pv ls.length cv] 116)) _ _ ls (bthen HBL.out hba) (hF.row HK.out fun _ _ => id) HNV.out (hF.row HR.out fun _ _ => id) HRN.out)
  have HBX := Lib.hid (H.out.keep (bthen HBL.out hba)).box
  have z0 : (w1.alloc (.cells #[.int .i64 nw, .slice pv ls.length cv] 116)).cell? ⟨w1.heap.size, 0, none⟩ = some (.int .i64 nw) := (obj_cell (obj_new w1 _) 0).trans rfl
  have z1 : (w1.alloc (.cells #[.int .i64 nw, .slice pv ls.length cv] 116)).cell? ⟨w1.heap.size, 1, none⟩ = some (.slice pv ls.length cv) := (obj_cell (obj_new w1 _) 1).trans rfl
  clear hba hF HT HC HK HBL HNV HRN HR
  generalize w1.alloc (.cells #[.int .i64 nw, .slice pv ls.length cv] 116) = w2 at *
  generalize w1.heap.size = cb at *
  have k0 : w2.cell? ⟨d.wb, 0, none⟩ = some (.int .i64 d.now) := (obj_cell HBX.out 0).trans rfl
  have k1 : w2.cell? ⟨d.wb, 1, none⟩ = some (.slice p d.ms.length cap) := (obj_cell HBX.out 1).trans (by simp [Dw.cells, HV.out])
  have f0 := obj_free HBX.out 0
  have f1 := obj_free HBX.out 1
  go_upto_region 5 with fail
  generalize World.setCell (World.setCell w2 _ _) _ _ = w3 at *
  clear z0 z1 k0 k1 f0 f1 HBX
  go_wp2_with fail
  go_loopw [9] (fun iv wl => ∃ k : Nat, k ≤ told.length ∧ iv = .int .i64 k ∧ Hid (Dm (R.row W0.heap.size 3 1 (.slice pr told.length cr) told.length (told.map (Value.int .i64))) W0 wl a cs st { d with now := nw, ms := ls, tv := .slice pv ls.length cv, xs := (wks ([], d.xs) told k).1.2 })) (fun iv _ => told.length - (intOf iv).toNat)
  case atStart => exact ⟨0, by omega, rfl, Lib.hid (by rw [wks_zero]; exact HCC.out)⟩
  case round =>
    obtain ⟨k, hk, rfl, HK⟩ := hrel
    by_cases hlt : k < told.length
    · have hri := HK.out.rowIs
      obtain ⟨rg, cap2, hsl, _⟩ := row_some hri (by omega)
      obtain rfl : pr = some ⟨rg, 0, none⟩ := by simp at hsl; exact hsl.1
      have ck : wr.cell? ⟨rg, k, none⟩ = some (.int .i64 (told.getD k 0)) := by
        rw [hri.cellAt k (by omega)]
        simp [List.getD, hlt]
      have m2 : wr.cell? ⟨d.wb, 2, none⟩ = some (.pointer (some ⟨d.tb, 0, none⟩)) := (obj_cell HK.out.box 2).trans rfl
      have n0 : ∀ x1 : Later wr, x1.to.cell? ⟨rg, k, none⟩ = some (.int .i64 (told.getD k 0)) := fun x1 => keepc x1.below ck
      have n1 : ∀ x1 : Later wr, x1.to.cell? ⟨d.wb, 2, none⟩ = some (.pointer (some ⟨d.tb, 0, none⟩)) := fun x1 => keepc x1.below m2
      have hbd := wks_bound HB.out (p := ([], d.xs)) told k hk
      have HW := Lib.hid (fun w2 (hb2 : Below wr.heap.size wr w2) => dtw_any (HK.out.keep hb2) hbd.1 (by have := HB2.out; omega) (told.getD k 0))
      have HX : Hid (∀ w, Dm (R.row W0.heap.size 3 1 (.slice (some ⟨rg, 0, none⟩) told.length cr) told.length (told.map (Value.int .i64))) W0 w a cs st { d with now := nw, ms := ls, tv := .slice pv ls.length cv, xs := (wk ([], (wks ([], d.xs) told k).1.2) (told.getD k 0)).2 } → Dm (R.row W0.heap.size 3 1 (.slice (some ⟨rg, 0, none⟩) told.length cr) told.length (told.map (Value.int .i64))) W0 w a cs st { d with now := nw, ms := ls, tv := .slice pv ls.length cv, xs := (wks ([], d.xs) told (k + 1)).1.2 }) := Lib.hid fun w hh => by
        rw [wks_next hlt]
        rw [wk_xs _ (wks ([], d.xs) told k).1.1] at hh
        exact hh
      simp only at HW
      clear hri hsl ck m2 hbd
      generalize told.getD k 0 = who at *
      go_upto_region 8 with fail
      refine wp_region_later_tail 8 (by kernel_rfl) (by kernel_rfl) ?_
      simp only [List.take_succ_cons, List.take_zero, List.drop_succ_cons, List.drop_zero]
      repeat (go_big_quiet_step (fail))
      refine wpQuiet_nil ?_
      intro w5 hw'
      obtain ⟨⟨w5', hb5⟩, hw5⟩ := hw'
      obtain rfl : w5 = w5' := hw5
      have HW5 := Lib.hid (HW.out w5 hb5)
      clear n0 n1 hb5 HW
      go_wp2_with (go_at_call 108; refine HW5.out.mono ?_; rintro e w6 ⟨⟨v6, rfl⟩, hd⟩; have HD6 := Lib.hid (HX.out _ hd); clear hd)
      exact ⟨⟨k + 1, by omega, by go_num, HD6⟩, by simp [intOf]; omega⟩
    · obtain rfl : k = told.length := by omega
      go_wp2
      go_ret2
      exact ⟨_, ls, _, rfl, HSR.out, HLL.out, HK.out⟩
end
end Go.Proofs.YtdfcfdcekdmcmaaGreat
namespace Go.Proofs.YtdfcfdcekdmcmaaGreat
open Go.RowKit
set_option linter.unusedVariables false
set_option linter.unusedSimpArgs false
section
variable {R : Rest} {W0 W w : World} {a : Nat} {cs : List Int} {st : Int} {d : Dw} {i : Nat} {x : Dr} {T : TypeId} {z n n' : Nat} {v v' : Value} {xs ys : List Value}
theorem Dm.rowApp (h : Dm (R.row W0.heap.size T z v n xs) W0 W a cs st d) (ho : w.ownsRow 0 T z v' n' ys) (hf : Frm (fun k => v.ownBlock = some k) W w) (hn : v'.ownBlock = v.ownBlock ∨ ∀ g, v'.ownBlock = some g → W.heap.size ≤ g) : Dm (R.row W0.heap.size T z v' n' ys) W0 w a cs st d := Dm.rowInto (Mv.app h.rowOut ho hf hn)
theorem Dm.rowNil (h : Dm R W0 W a cs st d) (T : TypeId) (z : Nat) : Dm (R.row W0.heap.size T z (.slice none 0 0) 0 []) W0 W a cs st d := Dm.rowInto (Mv.nil h T z)
theorem daddr_kind (h : Dm R W0 W a cs st d) (n kd : Int) (hkd : kd < 0 ∨ 1 < kd) :
    Calls Tryz.prog 55 #[.pointer (some ⟨d.wb, 0, none⟩), .int .i64 n, .int .i64 kd] W fun e w' => e = .returned (.int .i64 1) ∧ W = w' := by
  clear h
  by_cases h1 : kd < 0
  · have e1 : decide (kd < 0) = true := decide_eq_true h1
    go_enter Tryz.func55, Tryz.ntmps55
    go_wp2
    go_ret
    exact ⟨rfl, rfl⟩
  · have e1 : decide (kd < 0) = false := decide_eq_false h1
    have e2 : decide (1 < kd) = true := decide_eq_true (by omega)
    go_enter Tryz.func55, Tryz.ntmps55
    go_wp2
    go_ret
    exact ⟨rfl, rfl⟩
theorem daddr_size (h : Dm R W0 W a cs st d) (n kd : Int) (h0 : 0 ≤ kd) (h1 : kd ≤ 1) (hn : ¬ ∃ k : Nat, k ≤ 20 ∧ n = two k) :
    Calls Tryz.prog 55 #[.pointer (some ⟨d.wb, 0, none⟩), .int .i64 n, .int .i64 kd] W fun e w' => e = .returned (.int .i64 7) ∧ W = w' := by
  have e1 : decide (kd < 0) = false := decide_eq_false (by omega)
  have e2 : decide (1 < kd) = false := decide_eq_false (by omega)
  have HP := Lib.hid (dpower W n)
  have HN := Lib.hid hn
  clear h hn
  go_enter Tryz.func55, Tryz.ntmps55
  go_wp2_with (go_at_call 103; refine HP.out.mono ?_; rintro e w1 ⟨⟨b, rfl, hb⟩, rfl⟩; have hbf : b = false := (by cases hbb : b with | false => rfl | true => exact absurd (hb.1 hbb) HN.out); subst hbf; clear hb HP)
  go_ret
  exact ⟨rfl, rfl⟩
set_option maxRecDepth 100000 in
theorem daddr_many (h : Dm R W0 W a cs st d) (k : Nat) (hk : k ≤ 20) (kd : Int) (h0 : 0 ≤ kd) (h1 : kd ≤ 1) (hl : 8 ≤ (d.L.length : Int)) :
    Calls Tryz.prog 55 #[.pointer (some ⟨d.wb, 0, none⟩), .int .i64 (two k), .int .i64 kd] W fun e w' => e = .returned (.int .i64 8) ∧ W = w' := by
  obtain ⟨p, cap, hv, -⟩ := row_form h.rings
  have k4 : W.cell? ⟨d.wb, 4, none⟩ = some (.slice p d.L.length cap) := (obj_cell h.box 4).trans (by simp [Dw.cells, hv])
  have e1 : decide (kd < 0) = false := decide_eq_false (by omega)
  have e2 : decide (1 < kd) = false := decide_eq_false (by omega)
  have e3 : decide (8 ≤ (d.L.length : Int)) = true := decide_eq_true hl
  have e4 : decide (8 ≤ d.L.length) = true := decide_eq_true (by omega)
  have HP := Lib.hid (dpower W (two k))
  have HK := Lib.hid (⟨k, hk, rfl⟩ : ∃ j : Nat, j ≤ 20 ∧ two k = two j)
  clear h hv
  generalize two k = NN at *
  generalize d.L.length = len at *
  generalize d.wb = wb at *
  go_enter Tryz.func55, Tryz.ntmps55
  go_wp2_with (go_at_call 103; refine HP.out.mono ?_; rintro e w1 ⟨⟨b, rfl, hb⟩, rfl⟩; obtain rfl : b = true := hb.2 HK.out; clear hb HP HK)
  go_ret
  exact ⟨rfl, rfl⟩
def newD (k : Nat) (m : Bool) (shv slv : Value) : Dr := ⟨k, m, -1, -1, -1, List.replicate (two k).toNat (-1), [], shv, slv, .slice none 0 0, flat2 (List.replicate (two k).toNat (0, 0))⟩
def ycA (k : Nat) (m : Bool) (v slv : Value) : Array Value := #[.int .i64 (two k), .bool m, .int .i64 (-1), .int .i64 (-1), .int .i64 (-1), v, slv, .slice none 0 0, .slice none 0 0]
theorem ycA_info (k : Nat) (m : Bool) (v slv : Value) : (Tryz.prog.info? 139).map (·.size) = some (ycA k m v slv).size := by kernel_rfl
theorem ycA_one {k : Nat} {m : Bool} {v slv : Value} (h1 : v.oneCell' = true) (h2 : slv.oneCell' = true) : (ycA k m v slv).all (·.oneCell') = true := by
  rw [Array.all_eq_true_iff_forall_mem]
  intro y hy
  simp only [ycA, List.mem_toArray, List.mem_cons, List.not_mem_nil, or_false] at hy
  rcases hy with rfl | rfl | rfl | rfl | rfl | rfl | rfl | rfl | rfl <;> first | rfl | exact h1 | exact h2
theorem own_one {B : Nat} (h : w.ownsRow B T z v n xs) : v.oneCell' = true := by
  rcases h.2 with ⟨rfl, _⟩ | ⟨g, cap, cur, rfl, _⟩ <;> rfl
set_option maxHeartbeats 8000000 in
set_option maxRecDepth 100000 in
theorem daddr_ok (h : Dm R W0 W a cs st d) (k : Nat) (hk : k ≤ 20) (kd : Int) (m : Bool) (hkd : (kd = 0 ∧ m = false) ∨ (kd = 1 ∧ m = true)) (hl : d.L.length < 8) :
    Calls Tryz.prog 55 #[.pointer (some ⟨d.wb, 0, none⟩), .int .i64 (two k), .int .i64 kd] W fun e w' => e = .returned (.int .i64 0) ∧ ∃ shv slv rv', Dm R W0 w' a cs st { d with L := d.L ++ [newD k m shv slv], rv := rv' } := by
  obtain ⟨p, cap, hv, -⟩ := row_form h.rings
  have k4 : W.cell? ⟨d.wb, 4, none⟩ = some (.slice p d.L.length cap) := (obj_cell h.box 4).trans (by simp [Dw.cells, hv])
  have e1 : decide (kd < 0) = false := decide_eq_false (by omega)
  have e2 : decide (1 < kd) = false := decide_eq_false (by omega)
  have e3 : decide (8 ≤ (d.L.length : Int)) = false := decide_eq_false (by omega)
  have e4 : decide (8 ≤ d.L.length) = false := decide_eq_false (by omega)
  have e5 : (kd == 1) = m := by rcases hkd with ⟨rfl, rfl⟩ | ⟨rfl, rfl⟩ <;> rfl
  have hp := two_pos k
  have hp2 : two k ≤ 1048576 := two_le hk
  obtain ⟨N, hN⟩ : ∃ N : Nat, (N : Int) = two k := ⟨(two k).toNat, by omega⟩
  have hN2 : (two k).toNat = N := by omega
  have HP := Lib.hid (dpower W (two k))
  have HK := Lib.hid (⟨k, hk, rfl⟩ : ∃ j : Nat, j ≤ 20 ∧ two k = two j)
  have hmk := make_events k N hk hN
  obtain ⟨i1, hi1, hy0, hy1, hy2⟩ := info_parts infoI64
  have HD0 := Lib.hid (h.rowNil 3 1)
  have H := Lib.hid h
  have HV := Lib.hid hv
  clear h hv hkd
  go_enter Tryz.func55, Tryz.ntmps55
  go_upto_region 8 with (go_at_call 103; refine HP.out.mono ?_; rintro e w1 ⟨⟨b, rfl, hb⟩, rfl⟩; obtain rfl : b = true := hb.2 HK.out; clear hb HP HK)
  have hev : (W.alloc (.cells (flat2 (List.replicate N ((0 : Int), (0 : Int)))).toArray 86)).ownsRow 0 86 2 (.slice (some ⟨W.heap.size, 0, none⟩) N N) N (flat2 (List.replicate N (0, 0))) := World.ownsRow_lit W _ N (Nat.zero_le _) (by unfold maxLen; omega) (by simp [flat2_len])
  have HD1 := Lib.hid ((HD0.out.rowMore (balloc (Below.refl _ _) _) hev (fun g hg => by simp [Value.ownBlock] at hg; omega)).rowNil 2 1)
  have HD2 := Lib.hid (HD1.out.boxNew (ycA k m (.slice none 0 0) (.slice (some ⟨W.heap.size, 0, none⟩) N N)) 139)
  have hsz : (W.alloc (.cells (flat2 (List.replicate N ((0 : Int), (0 : Int)))).toArray 86)).heap.size = W.heap.size + 1 := by simp
  rw [hsz] at HD2
  clear hev HD1 HD0 hmk k4
  have HD3 : Hid (∃ v, Dm ((((R.row W0.heap.size 3 1 (.slice none 0 0) 0 []).row W0.heap.size 86 2 (.slice (some ⟨W.heap.size, 0, none⟩) N N) N (flat2 (List.replicate N (0, 0)))).row W0.heap.size 2 1 v 0 ((List.replicate 0 (-1)).map (Value.int .i64))).box W0.heap.size (W.heap.size + 1) (ycA k m v (.slice (some ⟨W.heap.size, 0, none⟩) N N)) 139) W0 ((W.alloc (.cells (flat2 (List.replicate N ((0 : Int), (0 : Int)))).toArray 86)).alloc (.cells #[.int .i64 (two k), .bool m, .int .i64 (-1), .int .i64 (-1), .int .i64 (-1), .slice none 0 0, .slice (some ⟨W.heap.size, 0, none⟩) N N, .slice none 0 0, .slice none 0 0] 139)) a cs st d) := Lib.hid ⟨_, HD2.out⟩
  clear HD2 hsz
  generalize World.alloc (World.alloc W _) _ = w2 at *
  generalize W.heap.size = eb at *
  go_wp2_with fail
  go_loopw [8] (fun iv wl => ∃ q : Nat, q ≤ N ∧ iv = .int .i64 q ∧ Hid (∃ v, Dm ((((R.row W0.heap.size 3 1 (.slice none 0 0) 0 []).row W0.heap.size 86 2 (.slice (some ⟨eb, 0, none⟩) N N) N (flat2 (List.replicate N (0, 0)))).row W0.heap.size 2 1 v q ((List.replicate q (-1)).map (Value.int .i64))).box W0.heap.size (eb + 1) (ycA k m v (.slice (some ⟨eb, 0, none⟩) N N)) 139) W0 wl a cs st d)) (fun iv _ => N - (intOf iv).toNat)
  case atStart => exact ⟨0, by omega, rfl, HD3⟩
  case round =>
    obtain ⟨q, hq, rfl, HQ⟩ := hrel
    obtain ⟨v, hd⟩ := HQ.out
    have hrow := (hd.le Rest.rb).rowIs
    by_cases hlt : q < N
    · obtain ⟨pv, cv, rfl, -⟩ := row_form hrow
      have HO := Lib.hid (row_base hrow (Nat.zero_le _))
      have c5 : wr.cell? ⟨eb + 1, 5, none⟩ = some (.slice pv q cv) := (obj_cell hd.boxIs 5).trans rfl
      have kl : decide ((q : Int) < two k) = true := decide_eq_true (by omega)
      have HP1 : Hid (∀ (o : Obj) (v' : Value) (w6 : World), w6.ownsRow 0 2 1 v' (q + 1) ((List.replicate q (-1)).map (Value.int .i64) ++ [.int .i64 (-1)]) → Frm (fun g => (Value.slice pv q cv).ownBlock = some g) (wr.alloc o) w6 → (v'.ownBlock = (Value.slice pv q cv).ownBlock ∨ ∀ g, v'.ownBlock = some g → (wr.alloc o).heap.size ≤ g) → Dm ((((R.row W0.heap.size 3 1 (.slice none 0 0) 0 []).row W0.heap.size 86 2 (.slice (some ⟨eb, 0, none⟩) N N) N (flat2 (List.replicate N (0, 0)))).row W0.heap.size 2 1 v' (q + 1) ((List.replicate (q + 1) (-1)).map (Value.int .i64))).box W0.heap.size (eb + 1) (ycA k m (.slice pv q cv) (.slice (some ⟨eb, 0, none⟩) N N)) 139) W0 w6 a cs st d) := Lib.hid fun o v' w6 ho hf hn => by
        have h1 := ((hd.le Rest.rb).keep (balloc (Below.refl _ _) o)).rowApp ho hf hn
        rw [List.replicate_succ', List.map_append]
        exact h1.le Rest.br
      clear hd hrow HQ
      go_wp2_with (at_builtin; refine wpList_append_row rfl _ _ 117 rfl 2 i1 (.int .i64 0) 1 8 Tryz.underlying117 hi1 hy0 hy1 hy2 rfl (by decide) (.slice pv q cv) q _ rfl (HO.out.alloc _) ⟨wr.heap.size, 0, none⟩ 1 1 [.int .i64 (-1)] rfl rfl (one_cell _ _ _) (fun x hx => by simp at hx; subst hx; rfl) (by unfold maxLen; omega) (by omega) ?_; intro v' w6 hown6 hf6 hv6; have HE := Lib.hid (HP1.out _ _ _ hown6 hf6 hv6); obtain ⟨p6, c6, rfl, -⟩ := row_form hown6; have q5 : w6.cell? ⟨eb + 1, 5, none⟩ = some (.slice pv q cv) := (obj_cell HE.out.boxIs 5).trans rfl; have f5 := obj_free HE.out.boxIs 5; clear hown6 hf6 hv6 c5)
      have HE2 := Lib.hid (HE.out.boxSet 5 (.slice p6 (q + 1) c6))
      exact ⟨⟨q + 1, by omega, by go_num, Lib.hid ⟨_, HE2.out⟩⟩, by simp [intOf]; omega⟩
    · obtain rfl : q = N := by omega
      have kl : decide ((q : Int) < two k) = false := decide_eq_false (by omega)
      have hv1 := own_one hrow
      have HI := Lib.hid (ycA_info k m v (.slice (some ⟨eb, 0, none⟩) q q))
      have HO := Lib.hid (ycA_one (k := k) (m := m) (slv := .slice (some ⟨eb, 0, none⟩) q q) hv1 rfl)
      have HD := Lib.hid hd
      have HB := Lib.hid hd.boxIs
      have hrr := hd.rings
      rw [HV.out] at hrr
      have HR := Lib.hid (row_base hrr (Nat.zero_le _))
      have HKP : Hid (∀ w, Frm (fun g => (Value.slice p d.L.length cap).ownBlock = some g) wr w → w.cell? ⟨d.wb, 4, none⟩ = some (.slice p d.L.length cap) ∧ w.frozen? ⟨d.wb, 4, none⟩ = false ∧ w.heap[eb + 1]? = some (.cells (ycA k m v (.slice (some ⟨eb, 0, none⟩) q q)) 139 (0, 0))) := Lib.hid fun w hf => by
        have hb := hf.obj hd.box fun e => row_ne hrr hd.box (by decide) e
        refine ⟨(obj_cell hb 4).trans (by simp [Dw.cells, HV.out]), obj_free hb 4, hf.obj hd.boxIs fun e => ?_⟩
        have h0 : Mv (lay W0.heap.size d.lys _) W0 wr a cs st := hd
        exact lay_off h0.inv (k := eb + 1) (.inr rfl) (.row 139 9 d.rv d.L.length (ringsOf d.L)) (by simp [Dw.lys, Dw.head]) (show d.rv.ownBlock = some (eb + 1) by rw [HV.out]; exact e)
      have HN2 : Hid (∀ (w : World) (v' : Value), w.ownsRow 0 139 9 v' (d.L.length + 1) (ringsOf d.L ++ (ycA k m v (.slice (some ⟨eb, 0, none⟩) q q)).toList) → Frm (fun g => (Value.slice p d.L.length cap).ownBlock = some g) wr w → (v'.ownBlock = (Value.slice p d.L.length cap).ownBlock ∨ ∀ g, v'.ownBlock = some g → wr.heap.size ≤ g) → Dm R W0 (w.setCell ⟨d.wb, 4, none⟩ v') a cs st { d with L := d.L ++ [newD k m v (.slice (some ⟨eb, 0, none⟩) q q)], rv := v' }) := Lib.hid fun w v' ho hf hn => by
        rw [← HV.out] at hf hn
        have h1 : Dm (lay W0.heap.size (newD k m v (.slice (some ⟨eb, 0, none⟩) q q)).lys R) W0 wr a cs st d := by
          have := hd.boxDrop
          simp only [newD, Dr.lys, lay, Ly.on, hN2, List.length_replicate, List.length_nil, List.map_nil]
          exact this
        exact h1.radd ho hf hn
      clear hd hrow hrr hv1 HQ
      go_upto_region 12 with fail
      refine wp_frame (fun a0 => a0.eval (.tmp 0) = .pointer (some ⟨d.wb, 0, none⟩) ∧ a0.eval (.tmp 7) = .pointer (some ⟨eb + 1, 0, none⟩) ∧ a0.tmps.size = 50)
        (fun a0 a' y => ∃ (v' x1 : Value) (w : World), (w.ownsRow 0 139 9 v' (d.L.length + 1) (ringsOf d.L ++ (ycA k m v (.slice (some ⟨eb, 0, none⟩) q q)).toList) ∧ Frm (fun g => (Value.slice p d.L.length cap).ownBlock = some g) wr w ∧ (v'.ownBlock = (Value.slice p d.L.length cap).ownBlock ∨ ∀ g, v'.ownBlock = some g → wr.heap.size ≤ g)) ∧ y = w.setCell ⟨d.wb, 4, none⟩ v' ∧
          a' = ((((((((((a0.put (some 40) (.pointer (some ⟨d.wb, 0, none⟩))).put (some 41) (.pointer (some ⟨d.wb, 0, none⟩))).put (some 42) (.pointer (some ⟨d.wb, 0, none⟩))).put (some 43) (.pointer (some ⟨d.wb, 4, none⟩))).put (some 44) ((.slice p d.L.length cap))).put (some 45) (.agg (ycA k m v (.slice (some ⟨eb, 0, none⟩) q q)))).put (some 46) (x1)).put (some 47) (v')).put (some 48) (.pointer (some ⟨d.wb, 0, none⟩))).put (some 49) (.pointer (some ⟨d.wb, 4, none⟩)))) ⟨rfl, rfl, rfl⟩ (fun a0 hE => ?_) (fun a' y hR => ?_)
      · obtain ⟨q0, q7, hsz⟩ := hE
        exact wrA q0 q7 hsz (by omega) rfl HO.out HI.out HR.out HKP.out
      · obtain ⟨v', x1, w, ⟨r1, r2, r3⟩, rfl, rfl⟩ := hR
        have HE := Lib.hid (HN2.out w v' r1 r2 r3)
        clear r1 r2 r3 HN2
        simp only [Act.put, List.setIfInBounds_toArray, List.set_cons_zero, List.set_cons_succ]
        generalize World.setCell w _ _ = w9 at *
        go_wp2_with fail
        go_ret
        exact ⟨rfl, _, _, _, HE.out⟩
end
end Go.Proofs.YtdfcfdcekdmcmaaGreat
