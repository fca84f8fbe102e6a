/-
  Set of package clock where there is no timer, by contract. Conditions: a time and a number that may be.
-/
import Derived.Test.YtpnglcafjofmnaaTick
namespace Go.Proofs.Ytpnglcafjofmnaa
open Go.RowKit

theorem infoTimer3 : (Try.prog.info? 117).map (fun i => (i.zero, i.size, i.bytes)) = some (some (.agg #[.int .i64 0, .int .i64 0]), 2, 16) := by kernel_rfl

theorem index_nil (W : World) (f : Value) : Calls Try.prog 59 #[.slice none 0 0, f] W fun e w' => e = .returned (.int .i64 (-1)) ∧ W = w' := by
  go_enter Try.func59, Try.ntmps59
  go_wp2
  refine wp_loop_rounds 1 ?_
  rw [rounds_succ]
  go_wp2
  go_ret
  exact ⟨rfl, rfl⟩

/-- A row of one timer, new. -/
def One (W w' : World) (t : Int × Int) (e : Ending) : Prop :=
  ∃ q c, e = .returned (.slice q 1 c) ∧ w'.ownsRow 0 117 2 (.slice q 1 c) 1 (flat [t]) ∧ Frm (fun _ => False) W w' ∧ ∀ g, (Value.slice q 1 c).ownBlock = some g → W.heap.size ≤ g

set_option maxRecDepth 100000 in
theorem insert_nil (W : World) (q : Nat) (t : Int × Int) (h : W.heap[q]? = some (.cells #[.int .i64 t.1, .int .i64 t.2] 117 (0, 0))) :
    Calls Try.prog 61 #[.slice none 0 0, .int .i64 0, .slice (some ⟨q, 0, none⟩) 1 1] W fun e w' => One W w' t e := by
  obtain ⟨i1, hi1, hy0, hy1, hy2⟩ := info_parts infoTimer3
  have hnews : ∀ j u, (flat [t])[j]? = some u → W.cell? ((⟨q, 0, none⟩ : Addr).add j) = some u := by
    intro j u hu
    have e : ((⟨q, 0, none⟩ : Addr).add j) = ⟨q, j, none⟩ := by unfold Addr.add; split <;> simp_all
    rw [e, obj_cell h]
    rcases j with _ | _ | j
    · simpa [flat] using hu
    · simpa [flat] using hu
    · simp [flat] at hu
  have HN := Lib.hid hnews
  clear h hnews
  go_enter Try.func61, Try.ntmps61
  go_wp2_with (at_builtin; (refine wpList_append_row rfl (.tmp 23) (.tmp 24) 49 rfl 117 i1 (.agg #[.int .i64 0, .int .i64 0]) 2 16 Try.underlying49 hi1 hy0 hy1 hy2 rfl (by decide) (.slice none 0 0) 0 [] rfl (World.ownsRow_nil _ _ _ _) ⟨q, 0, none⟩ 1 1 (flat [t]) rfl rfl HN.out (fun x hx => by simp [flat] at hx; rcases hx with rfl | rfl <;> rfl) (by unfold maxLen; omega) (by omega) ?_; intro v' w3 hown3 hf3 hv3; simp only [Nat.zero_add, List.nil_append] at hown3; obtain ⟨p', c', rfl, hc'⟩ := row_form hown3; have HE : Hid (One W w3 t (.returned (.slice p' 1 c'))) := ⟨p', c', rfl, hown3, hf3.mono fun k _ e => by simp [Value.ownBlock] at e, fun g hg => by rcases hv3 with h | h; { rw [h] at hg; simp [Value.ownBlock] at hg }; { exact h g hg }⟩; clear hown3 hf3 hv3 hc'))
  go_ret
  exact HE.out

/-- What Set leaves of a clock without timers. -/
def SetOk (W w' : World) (b : Nat) (t : Int × Int) (e : Ending) : Prop :=
  ∃ v', e = .returned .nilIface ∧ Ck w' b v' [t] 0 ∧ (∀ g, v'.ownBlock = some g → W.heap.size ≤ g) ∧ Frm (fun k => k = b) W w'

theorem set_end {W w2 w5 : World} {b : Nat} {t : Int × Int} {q : Option Addr} {c : Nat} {o : Obj} (hk : Ck w2 b (.slice none 0 0) [] 0) (hF : Frm (fun k => k = b) W w2) (ho : w5.ownsRow 0 117 2 (.slice q 1 c) 1 (flat [t])) (hf : Frm (fun _ => False) (w2.alloc o).drew w5) (hg : ∀ g, (Value.slice q 1 c).ownBlock = some g → (w2.alloc o).drew.heap.size ≤ g) :
    SetOk W (w5.setCell ⟨b, 1, none⟩ (.slice q 1 c)) b t (.returned .nilIface) := by
  have hob : w5.heap[b]? = some (.cells #[.int .i64 0, .slice none 0 0] 51 (0, 0)) := hf.obj (w := (w2.alloc o).drew) (obj_old (w := w2) o hk.1) id
  have h1 : Frm (fun k => k = b) W w5 := (hF.alloc o).drew.then hf fun _ _ h => h.elim
  have hF5 : Frm (fun k => k = b) w5 (w5.setCell ⟨b, 1, none⟩ (.slice q 1 c)) := (Frm.refl (fun k => k = b) w5).setCell (p := ⟨b, 1, none⟩) rfl _
  refine ⟨_, rfl, ⟨obj_setCell _ hob, hF5.row ho fun g hg' e => row_ne ho hob (by decide) (by rw [hg', e])⟩, fun g hg' => ?_, h1.trans hF5⟩
  have := hg g hg'
  have := hF.size
  simp at *
  omega

set_option maxRecDepth 100000 in
set_option maxHeartbeats 1000000 in
theorem set_empty (W : World) (b : Nat) (t : Int × Int) (h : Ck W b (.slice none 0 0) [] 0) (h1 : 1 ≤ t.1) (h2 : t.1 ≤ 1099511627776) (h3 : 0 ≤ t.2) (h4 : t.2 < 64) :
    Calls Try.prog 24 #[.pointer (some ⟨b, 0, none⟩), .int .i64 t.1, .int .i64 t.2] W fun e w' => SetOk W w' b t e := by
  have hmf : ∀ (fn : Fn) (first cap : Array Value) (w : World), (Instr.makeFunc fn first cap).run Try.prog w = .ok (.func fn first cap) w := fun _ _ _ _ => rfl
  have hk := h.keepB ((Below.refl _ W).alloc (Nat.le_refl _) (.cells #[.int .i64 t.1] 2))
  have ha := obj_new W (.cells #[.int .i64 t.1] 2)
  have hF1 := (Frm.refl (fun k => k = b) W).alloc (.cells #[.int .i64 t.1] 2)
  have c0 := hk.c0
  have c1 := hk.c1
  have p0 : (W.alloc (.cells #[.int .i64 t.1] 2)).cell? ⟨W.heap.size, 0, none⟩ = some (.int .i64 t.1) := (obj_cell ha 0).trans rfl
  have HK := Lib.hid hk
  have HA := Lib.hid ha
  have HF1 := Lib.hid hF1
  clear h hk ha hF1
  have d1 : decide (t.1 ≤ 0) = false := by rw [decide_eq_false_iff_not]; omega
  have d2 : decide (1099511627776 < t.1) = false := by rw [decide_eq_false_iff_not]; omega
  go_enter Try.func24, Try.ntmps24
  go_wp2_with fail
  generalize W.alloc (.cells #[.int .i64 t.1] 2) = w1 at *
  generalize hap : W.heap.size = ap at *
  have HAP := Lib.hid hap
  clear hap
  go_quiet (fail)
  go_wp2_with (go_at_call 59; refine (index_nil _ _).mono ?_; rintro e w6 ⟨rfl, rfl⟩)
  have hk2 : Ck (w1.drewN nq) b (.slice none 0 0) [] 0 := HK.out.keepB ⟨rfl, rfl, rfl, Nat.le_refl _, fun _ _ => rfl⟩
  have hF2 : Frm (fun k => k = b) W (w1.drewN nq) := HF1.out.drewN nq
  have p2 : (w1.drewN nq).cell? ⟨ap, 0, none⟩ = some (.int .i64 t.1) := p0
  clear c0 c1 p0 HK HF1
  generalize w1.drewN nq = w2 at *
  have c1 := hk2.c1
  have a1 : (w2.alloc (.cells #[.int .i64 t.1, .int .i64 t.2] 117)).cell? ⟨b, 1, none⟩ = some (.slice none 0 0) := keepc (balloc (Below.refl _ _) _) c1
  have a2 : (w2.alloc (.cells #[.int .i64 t.1, .int .i64 t.2] 117)).cell? ⟨ap, 0, none⟩ = some (.int .i64 t.1) := keepc (balloc (Below.refl _ _) _) p2
  have HK2 := Lib.hid hk2
  have HF2 := Lib.hid hF2
  clear hk2 hF2
  go_region_with (go_at_call 61; refine (insert_nil (w2.alloc (.cells #[.int .i64 t.1, .int .i64 t.2] 117)).drew w2.heap.size t (obj_new w2 _)).mono ?_; rintro e w5 ⟨q5, c5, rfl, ho5, hf5, hg5⟩; have hob := hf5.obj (w := (w2.alloc (.cells #[.int .i64 t.1, .int .i64 t.2] 117)).drew) (obj_old (w := w2) _ HK2.out.1) id; have b1 : w5.cell? ⟨b, 1, none⟩ = some (.slice none 0 0) := (obj_cell hob 1).trans rfl; have bf := obj_free hob 1; have HE := Lib.hid (set_end HK2.out HF2.out ho5 hf5 hg5); clear hob ho5 hf5 hg5)
  all_goals
    go_wp2
    go_ret
    exact HE.out
end Go.Proofs.Ytpnglcafjofmnaa
