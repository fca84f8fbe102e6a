/-
  Set of package clock by contract: the errors, and one timer more, whatever the timers are. Conditions: the clock's row is its own; at most 64 timers.
-/
import Derived.Test.YtpnglcafjofmnaaInsert3
namespace Go.Proofs.Ytpnglcafjofmnaa
open Go.RowKit

/-- What Set leaves. -/
def SetDone (W w' : World) (b : Nat) (v : Value) (ts : List (Int × Int)) (now : Int) (e : Ending) : Prop :=
  ∃ v', e = .returned .nilIface ∧ Ck w' b v' ts now ∧ Frm (fun k => k = b ∨ v.ownBlock = some k) W w' ∧ (v'.ownBlock = v.ownBlock ∨ ∀ g, v'.ownBlock = some g → W.heap.size ≤ g)

theorem setd_end {W w2 w5 : World} {b : Nat} {v : Value} {ts ts' : List (Int × Int)} {now : Int} {q : Option Addr} {c : Nat} {o : Obj} (hk : Ck w2 b v ts now) (hF : Frm (fun k => k = b ∨ v.ownBlock = some k) W w2) (hne : v.ownBlock ≠ some b)
    (ho : w5.ownsRow 0 117 2 (.slice q ts'.length c) ts'.length (flat ts')) (hf : Frm (fun k => v.ownBlock = some k) (w2.alloc o).drew w5) (hv : (Value.slice q ts'.length c).ownBlock = v.ownBlock ∨ ∀ g, (Value.slice q ts'.length c).ownBlock = some g → (w2.alloc o).drew.heap.size ≤ g) :
    SetDone W (w5.setCell ⟨b, 1, none⟩ (.slice q ts'.length c)) b v ts' now (.returned .nilIface) := by
  have hob : w5.heap[b]? = some (.cells #[.int .i64 now, v] 51 (0, 0)) := hf.obj (w := (w2.alloc o).drew) (obj_old (w := w2) o hk.1) hne
  have h1 : Frm (fun k => k = b ∨ v.ownBlock = some k) W w5 := (hF.alloc o).drew.then hf fun _ _ h => .inr h
  have hF5 : Frm (fun k => k = b) w5 (w5.setCell ⟨b, 1, none⟩ (.slice q ts'.length c)) := (Frm.refl (fun k => k = b) w5).setCell (p := ⟨b, 1, none⟩) rfl _
  refine ⟨_, rfl, ⟨obj_setCell _ hob, hF5.row ho fun g hg' e => row_ne ho hob (by decide) (by rw [hg', e])⟩, h1.then hF5 fun _ _ h => .inl h, ?_⟩
  rcases hv with h | h
  · exact .inl h
  · refine .inr fun g hg' => ?_
    have := h g hg'
    have := hF.size
    simp at *
    omega

theorem later_ret {x : Int} {ts : List (Int × Int)} (h : later x ts < ts.length) : laterR x ts = later x ts := laterR_in rfl h

set_option maxRecDepth 100000 in
set_option maxHeartbeats 2000000 in
theorem set_nilrow (W : World) (b : Nat) (t : Int × Int) (now : Int) (h : Ck W b (.slice none 0 0) [] now) (h0 : now < t.1) (hnow : 0 ≤ now) (h2 : t.1 ≤ 1099511627776) (h3 : 0 ≤ t.2) (h4 : t.2 < 64) :
    Calls Try.prog 24 #[.pointer (some ⟨b, 0, none⟩), .int .i64 t.1, .int .i64 t.2] W fun e w' => SetDone W w' b (.slice none 0 0) [t] now e := by
  have hmf : ∀ (fn : Fn) (first cap : Array Value) (w : World), (Instr.makeFunc fn first cap).run Try.prog w = .ok (.func fn first cap) w := fun _ _ _ _ => rfl
  have hk := h.keepB ((Below.refl _ W).alloc (Nat.le_refl _) (.cells #[.int .i64 t.1] 2))
  have ha := obj_new W (.cells #[.int .i64 t.1] 2)
  have hF1 := (Frm.refl (fun k => k = b ∨ (Value.slice none 0 0).ownBlock = some k) W).alloc (.cells #[.int .i64 t.1] 2)
  have c0 := hk.c0
  have c1 := hk.c1
  have p0 : (W.alloc (.cells #[.int .i64 t.1] 2)).cell? ⟨W.heap.size, 0, none⟩ = some (.int .i64 t.1) := (obj_cell ha 0).trans rfl
  have HK := Lib.hid hk
  have HF1 := Lib.hid hF1
  clear h hk ha hF1
  have d1 : decide (t.1 ≤ now) = false := by rw [decide_eq_false_iff_not]; omega
  have d2 : decide (1099511627776 < t.1) = false := by rw [decide_eq_false_iff_not]; omega
  go_enter Try.func24, Try.ntmps24
  go_wp2_with fail
  generalize W.alloc (.cells #[.int .i64 t.1] 2) = w1 at *
  generalize W.heap.size = ap at *
  go_quiet (fail)
  go_wp2_with (go_at_call 59; refine (index_nil _ _).mono ?_; rintro e w6 ⟨rfl, rfl⟩)
  have hk2 : Ck (w1.drewN nq) b (.slice none 0 0) [] now := HK.out.keepB ⟨rfl, rfl, rfl, Nat.le_refl _, fun _ _ => rfl⟩
  have hF2 := HF1.out.drewN nq
  have p2 : (w1.drewN nq).cell? ⟨ap, 0, none⟩ = some (.int .i64 t.1) := p0
  clear c0 c1 p0 HF1
  generalize w1.drewN nq = w2 at *
  have c1 := hk2.c1
  have a1 : (w2.alloc (.cells #[.int .i64 t.1, .int .i64 t.2] 117)).cell? ⟨b, 1, none⟩ = some (.slice none 0 0) := keepc (balloc (Below.refl _ _) _) c1
  have a2 : (w2.alloc (.cells #[.int .i64 t.1, .int .i64 t.2] 117)).cell? ⟨ap, 0, none⟩ = some (.int .i64 t.1) := keepc (balloc (Below.refl _ _) _) p2
  have HK2 := Lib.hid hk2
  have HF2 := Lib.hid hF2
  clear hk2 hF2
  go_region_with (go_at_call 61; refine (insert_nil (w2.alloc (.cells #[.int .i64 t.1, .int .i64 t.2] 117)).drew w2.heap.size t (obj_new w2 _)).mono ?_; rintro e w5 ⟨q5, c5, rfl, ho5, hf5, hg5⟩; have hob := hf5.obj (w := (w2.alloc (.cells #[.int .i64 t.1, .int .i64 t.2] 117)).drew) (obj_old (w := w2) _ HK2.out.1) id; have b1 : w5.cell? ⟨b, 1, none⟩ = some (.slice none 0 0) := (obj_cell hob 1).trans rfl; have bf := obj_free hob 1; have HE := Lib.hid (setd_end (ts' := [t]) HK2.out HF2.out (by simp [Value.ownBlock]) ho5 (hf5.mono fun _ _ h => h.elim) (.inr hg5)); clear hob ho5 hf5 hg5)
  all_goals
    go_wp2
    go_ret
    exact HE.out

set_option maxRecDepth 100000 in
set_option maxHeartbeats 2000000 in
theorem set_row (W : World) (b : Nat) (t : Int × Int) (now : Int) (g cap : Nat) (ts : List (Int × Int)) (hc : ts.length ≤ cap) (hcm : cap ≤ maxLen) (hn : (ts.length : Int) < 64) (h : Ck W b (.slice (some ⟨g, 0, none⟩) ts.length cap) ts now) (h0 : now < t.1) (hnow : 0 ≤ now) (h2 : t.1 ≤ 1099511627776) (h3 : 0 ≤ t.2) (h4 : t.2 < 64) :
    Calls Try.prog 24 #[.pointer (some ⟨b, 0, none⟩), .int .i64 t.1, .int .i64 t.2] W fun e w' => SetDone W w' b (.slice (some ⟨g, 0, none⟩) ts.length cap) (ins t ts) now e := by
  have hmf : ∀ (fn : Fn) (first cap : Array Value) (w : World), (Instr.makeFunc fn first cap).run Try.prog w = .ok (.func fn first cap) w := fun _ _ _ _ => rfl
  have hk := h.keepB ((Below.refl _ W).alloc (Nat.le_refl _) (.cells #[.int .i64 t.1] 2))
  have ha := obj_new W (.cells #[.int .i64 t.1] 2)
  have hF1 := (Frm.refl (fun k => k = b ∨ (Value.slice (some ⟨g, 0, none⟩) ts.length cap).ownBlock = some k) W).alloc (.cells #[.int .i64 t.1] 2)
  have c0 := hk.c0
  have c1 := hk.c1
  have p0 : (W.alloc (.cells #[.int .i64 t.1] 2)).cell? ⟨W.heap.size, 0, none⟩ = some (.int .i64 t.1) := (obj_cell ha 0).trans rfl
  have HK := Lib.hid hk
  have HF1 := Lib.hid hF1
  have hcap9 : cap ≤ 9223372036854775807 := by unfold maxLen at hcm; exact hcm
  have HCM := Lib.hid hcm
  clear hcm
  clear h hk ha hF1
  have d1 : decide (t.1 ≤ now) = false := by rw [decide_eq_false_iff_not]; omega
  have d2 : decide (1099511627776 < t.1) = false := by rw [decide_eq_false_iff_not]; omega
  go_enter Try.func24, Try.ntmps24
  go_wp2_with fail
  generalize W.alloc (.cells #[.int .i64 t.1] 2) = w1 at *
  generalize W.heap.size = ap at *
  go_quiet (fail)
  have hk2 : Ck (w1.drewN nq) b (.slice (some ⟨g, 0, none⟩) ts.length cap) ts now := HK.out.keepB ⟨rfl, rfl, rfl, Nat.le_refl _, fun _ _ => rfl⟩
  have hF2 := HF1.out.drewN nq
  have p2 : (w1.drewN nq).cell? ⟨ap, 0, none⟩ = some (.int .i64 t.1) := p0
  clear c0 c1 p0 HF1
  generalize w1.drewN nq = w2 at *
  have c1' := hk2.c1
  have HKI := Lib.hid hk2.2
  have HP2 := Lib.hid p2
  go_wp2_with fail
  refine (index_some w2 g cap ts ap t.1 HKI.out (by omega) HP2.out).mono ?_
  rintro e w6 ⟨rfl, hb6⟩
  have hk6 := hk2.keepB hb6
  have hF6 := hF2.then (Frm.of_below hb6 fun _ => False) fun _ _ h => h.elim
  have p6 := keepc hb6 p2
  clear hk2 hF2 p2 hb6 c1' HKI HP2
  have c1 := hk6.c1
  have a1 : (w6.alloc (.cells #[.int .i64 t.1, .int .i64 t.2] 117)).cell? ⟨b, 1, none⟩ = some (.slice (some ⟨g, 0, none⟩) ts.length cap) := keepc (balloc (Below.refl _ _) _) c1
  have a2 : (w6.alloc (.cells #[.int .i64 t.1, .int .i64 t.2] 117)).cell? ⟨ap, 0, none⟩ = some (.int .i64 t.1) := keepc (balloc (Below.refl _ _) _) p6
  have HK2 := Lib.hid hk6
  have HF2 := Lib.hid hF6
  have hqg : w6.heap.size ≠ g := by have := row_lt hk6.2 (g := g) rfl; omega
  have HQG := Lib.hid hqg
  clear hk6 hF6 hqg
  have hle := later_le t.1 ts
  by_cases hlt : later t.1 ts < ts.length
  · rw [later_ret hlt]
    clear hlt
    go_wp2_with fail
    go_region_with (go_at_call 61; refine (insert_any (w6.alloc (.cells #[.int .i64 t.1, .int .i64 t.2] 117)).drew g cap w6.heap.size ts t (by omega) hc HCM.out (HK2.out.keepB (balloc (Below.refl _ _) _)).2 (obj_new w6 _) HQG.out).mono ?_; rintro e w5 ⟨q5, c5, rfl, ho5, hf5, hg5⟩; have hob := hf5.obj (w := (w6.alloc (.cells #[.int .i64 t.1, .int .i64 t.2] 117)).drew) (obj_old (w := w6) _ HK2.out.1) HK2.out.ne; have b1 : w5.cell? ⟨b, 1, none⟩ = some (.slice (some ⟨g, 0, none⟩) ts.length cap) := (obj_cell hob 1).trans rfl; have bf := obj_free hob 1; have HE := Lib.hid (setd_end (ts' := ins t ts) HK2.out HF2.out HK2.out.ne ho5 hf5 hg5); clear hob ho5 hf5 hg5)
    all_goals
      go_wp2
      go_ret
      exact HE.out
  · have he : later t.1 ts = ts.length := by omega
    rw [laterR_out he]
    clear hlt
    go_wp2_with fail
    go_region_with (go_at_call 61; have hI := insert_any (w6.alloc (.cells #[.int .i64 t.1, .int .i64 t.2] 117)).drew g cap w6.heap.size ts t (by omega) hc HCM.out (HK2.out.keepB (balloc (Below.refl _ _) _)).2 (obj_new w6 _) HQG.out; rw [he] at hI; refine hI.mono ?_; clear hI; rintro e w5 ⟨q5, c5, rfl, ho5, hf5, hg5⟩; have hob := hf5.obj (w := (w6.alloc (.cells #[.int .i64 t.1, .int .i64 t.2] 117)).drew) (obj_old (w := w6) _ HK2.out.1) HK2.out.ne; have b1 : w5.cell? ⟨b, 1, none⟩ = some (.slice (some ⟨g, 0, none⟩) ts.length cap) := (obj_cell hob 1).trans rfl; have bf := obj_free hob 1; have HE := Lib.hid (setd_end (ts' := ins t ts) HK2.out HF2.out HK2.out.ne ho5 hf5 hg5); clear hob ho5 hf5 hg5)
    all_goals
      go_wp2
      go_ret
      exact HE.out

/-- Set with nothing wrong, whatever the timers. -/
theorem set_any (W : World) (b : Nat) (t : Int × Int) (now : Int) (v : Value) (ts : List (Int × Int)) (hn : (ts.length : Int) < 64) (h : Ck W b v ts now) (h0 : now < t.1) (hnow : 0 ≤ now) (h2 : t.1 ≤ 1099511627776) (h3 : 0 ≤ t.2) (h4 : t.2 < 64) :
    Calls Try.prog 24 #[.pointer (some ⟨b, 0, none⟩), .int .i64 t.1, .int .i64 t.2] W fun e w' => SetDone W w' b v (ins t ts) now e := by
  rcases h.2.2 with ⟨rfl, h0'⟩ | ⟨g, cap, cur, rfl, _, _, hc, hcm, _, _⟩
  · obtain rfl : ts = [] := List.eq_nil_of_length_eq_zero h0'
    exact set_nilrow W b t now h h0 hnow h2 h3 h4
  · exact set_row W b t now g cap ts hc hcm hn h h0 hnow h2 h3 h4
end Go.Proofs.Ytpnglcafjofmnaa
