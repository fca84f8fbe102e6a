/-
  How a claim of package multi goes on behind a scan, by contract. No condition but those that each theorem names.
-/
import Derived.Test.YteinfkcnengmeaaTr2
namespace Go.Proofs.Yteinfkcnengmeaa
open Go.RowKit

theorem quiet_load_mid {P : Program} {C : World → Prop} {K : Act → Prop} {a : Act} {o : Oper} (ty : TypeId) (x : Operand) (ho : o.op = .load ty x)
    (g f : Nat) (hx : a.eval x = .pointer (some ⟨g, f, none⟩)) (cs : List Value) (d : TypeDesc) (hg : ∀ w, C w → w.rangeAt g f cs)
    (hu : P.underlying ty = some d) (hd : d.isRow = true) (hi : (P.info? ty).map (·.size) = some cs.length)
    (hk : K (a.put o.dst (.agg cs.toArray))) : o.quiet P a C K := by
  refine ⟨.agg cs.toArray, fun w hw => ?_, hk⟩
  unfold Oper.quietAt execOp
  simp only [ho, hx, Instr.loadAt, Instr.sureAddr, Sem.run_bind, Sem.run_pure, Result.andThen_ok, run_loadVar_mid w g f ty cs d (hg w hw) hu hd hi]
  exact ⟨rfl, rfl⟩

/-- The scan within a claim's cells. -/
theorem TyF.sl {ts : Array Value} {p : Nat} {t : Tr} (h : TyF ts p t) : ∃ sl : List Value, Sc sl.toArray t.ids t.seen t.least ∧ sl.length = 35 ∧ ∀ (W : World) (b : Nat) (T : TypeId) (m : Nat × Nat), W.heap[b]? = some (.cells ts T m) → W.rangeAt b 5 sl := by
  refine ⟨(ts.extract 5 (5 + 35)).toList, ?_, ?_, fun W b T m hb => World.rangeAt_of_block hb 5 35⟩
  · rw [Array.toArray_toList]
    exact h.sc
  · have := h.size
    simp
    omega
theorem sl_info {sl : List Value} (h : sl.length = 35) : (Try.prog.info? 77).map (·.size) = some sl.length := by
  rw [h]
  kernel_rfl

/-- Behind what was read of those who hold back. -/
def judgeT (N : Int) (t : Tr) : Tr := if t.seen < t.ids.length then { t with stg := 3 } else if t.last - N ≤ t.least then { t with stg := 4 } else { t with stg := 7 }

/-- Behind the walk: the claim's block with another stage, the result's block. -/
structure Two (W w : World) (b : Nat) (ts zs : Array Value) : Prop where
  t : w.heap[b]? = some (.cells ts 116 (0, 0))
  r : w.heap[b + 1]? = some (.cells zs 116 (0, 0))
  z : zs.size = 40
  low : Below W.heap.size W w
  le : W.heap.size ≤ b
theorem Two.keep {W w w' : World} {b : Nat} {ts zs : Array Value} (h : Two W w b ts zs) (hb : Below w.heap.size w w') : Two W w' b ts zs := ⟨(hb.block _ (lt_of_block h.t)).trans h.t, (hb.block _ (lt_of_block h.r)).trans h.r, h.z, bthen h.low hb, h.le⟩
theorem Two.start (W : World) (ts zs : Array Value) (hz : zs.size = 40) : Two W ((W.alloc (.cells ts 116)).alloc (.cells zs 116)) W.heap.size ts zs := by
  refine ⟨obj_old _ (obj_new _ _), ?_, hz, balloc (balloc (Below.refl _ _) _) _, Nat.le_refl _⟩
  have := obj_new (W.alloc (.cells ts 116)) (.cells zs 116)
  simpa using this
theorem Two.cell {W w : World} {b : Nat} {ts zs : Array Value} (h : Two W w b ts zs) (i : Nat) : w.cell? ⟨b, i, none⟩ = ts[i]? := obj_cell h.t i
theorem Two.free {W w : World} {b : Nat} {ts zs : Array Value} (h : Two W w b ts zs) (i : Nat) : w.frozen? ⟨b, i, none⟩ = false := obj_free h.t i
theorem Two.set {W w : World} {b : Nat} {ts zs : Array Value} (h : Two W w b ts zs) (i : Nat) (v : Value) : Two W (w.setCell ⟨b, i, none⟩ v) b (ts.setIfInBounds i v) zs :=
  ⟨obj_setCell _ h.t, (heap_setCell_other _ ⟨b, i, none⟩ _ _ (by simp)).trans h.r, h.z, h.low.setCell (p := ⟨b, i, none⟩) h.le _, h.le⟩
theorem Two.out {W w : World} {b : Nat} {ts zs : Array Value} (h : Two W w b ts zs) (cs : Array Value) : (w.setRow (b + 1) cs).heap[b + 1]? = some (.cells cs 116 (0, 0)) ∧ Below W.heap.size W (w.setRow (b + 1) cs) :=
  ⟨setRow_heap _ _ _ _ _ _ h.r, bsetRow h.low (by have := h.le; omega) cs⟩

set_option maxHeartbeats 2000000 in
set_option maxRecDepth 100000 in
theorem tjudge {ts : Array Value} {s : Sh} {sw : Int} {t : Tr} {W : World} (h : TyF ts s.p t) (hc : MsC W s sw) (hk : s.k ≤ 20) (h0 : -4611686018427387905 ≤ t.last) (h1 : t.last ≤ 4611686018427387904) :
    Calls Try.prog 121 #[.agg ts] W fun e w' => ∃ ts', e = .returned (.agg ts') ∧ TyF ts' s.p (judgeT (two s.k) t) ∧ Below W.heap.size W w' := by
  obtain ⟨sl, hs1, hs2, hs3⟩ := h.sl
  have HS := Lib.hid hs1
  have HR := Lib.hid hs3
  have HI := Lib.hid (sl_info hs2)
  have HC := Lib.hid hc
  have HT := Lib.hid h
  have HTI := Lib.hid h.info
  have H0 : Hid (∀ zs : Array Value, zs.size = 40 → Two W ((W.alloc (.cells ts 116)).alloc (.cells zs 116)) W.heap.size ts zs) := fun zs hz => Two.start W ts zs hz
  clear h hc hs1 hs2 hs3
  by_cases hd : t.seen < t.ids.length
  · have HJ : Hid (judgeT (two s.k) t = { t with stg := 3 }) := Lib.hid (by unfold judgeT; rw [if_pos hd])
    have HT3 := Lib.hid (HT.out.stg 3)
    have HTI3 := Lib.hid HT3.out.info
    have hdd : decide (t.ids.length ≤ t.seen) = false := decide_eq_false (by omega)
    clear hd
    go_enter Try.func121, Try.ntmps121
    go_wp2_with (first
      | (refine wpList_load_mid rfl 77 (.tmp 5) rfl W.heap.size 5 rfl sl _ (HR.out _ _ _ _ (H0.out _ rfl).t) Try.underlying77 rfl HI.out ?_)
      | (go_at_call 49; refine (sdone HS.out _).mono ?_; rintro e w1 ⟨rfl, hb⟩; rw [hdd]; have H1 := Lib.hid ((H0.out _ rfl).keep hb); have c2 := ((H1.out.cell 2).trans HT.out.c2); have f2 := H1.out.free 2; clear hb)
      | (refine wpList_load_row rfl 116 (.tmp 1) rfl W.heap.size rfl 116 _ (0, 0) _ (H1.out.set 2 (.int .i64 3)).t Try.underlying116 rfl HTI3.out ?_)
      | (refine wpList_store_row rfl 116 (.tmp 2) (.tmp 20) rfl (W.heap.size + 1) _ rfl rfl 116 _ (H1.out.set 2 (.int .i64 3)).r HTI3.out (by rw [HT3.out.size]; rfl) HT3.out.one ?_))
    rw [HJ.out]
    exact bodyPost_ret (results_row (p := 2) (by kernel_rfl) _ _ (W.heap.size + 1) 116 _ _ rfl ((H1.out.set 2 (.int .i64 3)).out _).1 Try.underlying116 rfl HTI3.out) rfl ⟨_, rfl, HT3.out, ((H1.out.set 2 (.int .i64 3)).out _).2⟩
  · have hdd : decide (t.ids.length ≤ t.seen) = true := decide_eq_true (by omega)
    by_cases he : t.last - two s.k ≤ t.least
    · have HJ : Hid (judgeT (two s.k) t = { t with stg := 4 }) := Lib.hid (by unfold judgeT; rw [if_neg hd, if_pos he])
      have HT3 := Lib.hid (HT.out.stg 4)
      have HTI3 := Lib.hid HT3.out.info
      have hde : decide (t.last - two s.k ≤ t.least) = true := decide_eq_true he
      clear hd he
      go_enter Try.func121, Try.ntmps121
      go_wp2_with (first
        | (refine wpList_load_mid rfl 77 (.tmp 5) rfl W.heap.size 5 rfl sl _ (HR.out _ _ _ _ (H0.out _ rfl).t) Try.underlying77 rfl HI.out ?_)
        | (go_at_call 49; refine (sdone HS.out _).mono ?_; rintro e w1 ⟨rfl, hb⟩; rw [hdd]; have H1 := Lib.hid ((H0.out _ rfl).keep hb); clear hb))
      obtain ⟨zs, hzs⟩ : ∃ zs : Array Value, Two W w1 W.heap.size ts zs := ⟨_, H1.out⟩
      have HZ := Lib.hid hzs
      clear H1 hzs
      have n0 : ∀ x : Later w1, x.to.cell? ⟨W.heap.size, 0, none⟩ = some (.pointer (some ⟨s.p, 0, none⟩)) := fun x => ((HZ.out.keep x.below).cell 0).trans HT.out.c0
      have n4 : ∀ x : Later w1, x.to.cell? ⟨W.heap.size, 4, none⟩ = some (.int .i64 t.last) := fun x => ((HZ.out.keep x.below).cell 4).trans HT.out.c4
      have HLD : Hid (∀ w', (∃ x : Later w1, w' = x.to) → w'.rangeAt W.heap.size 5 sl) := by
        rintro _ ⟨x, rfl⟩
        exact HR.out _ _ _ _ (HZ.out.keep x.below).t
      have HSL : Hid (∀ x : Later w1, Calls Try.prog 50 #[.agg sl.toArray] x.to fun e w'' => e = .returned (.int .i64 t.least) ∧ ∃ y : Later w1, w'' = y.to) := fun x => (sleast HS.out _).mono fun e w h => ⟨h.1, ⟨w, bthen x.below h.2⟩, rfl⟩
      have HEN : Hid (∀ x : Later w1, Calls Try.prog 120 #[.pointer (some ⟨s.p, 0, none⟩), .int .i64 t.least, .int .i64 t.last] x.to fun e w'' => e = .returned (.bool true) ∧ ∃ y : Later w1, w'' = y.to) := fun x => (menough (HC.out.later (bthen HZ.out.low x.below)) hk _ _ h0 h1).mono fun e w h => ⟨by rw [h.1, hde], ⟨w, bthen x.below h.2⟩, rfl⟩
      clear hde
      refine wp_region_later (by kernel_rfl) (by kernel_rfl) ?_
      repeat (first
        | (go_big_quiet_want; refine quiet_load_mid 77 (.tmp 13) rfl W.heap.size 5 rfl sl _ HLD.out Try.underlying77 rfl HI.out ?_; go_big_quiet_on; go_frame)
        | go_big_quiet_step ((first
          | (go_at_call 50; exact HSL.out _)
          | (go_at_call 120; exact HEN.out _))))
      refine wpQuiet_nil ?_
      intro w2 hw'
      obtain ⟨⟨w2', hb2⟩, hw2⟩ := hw'
      obtain rfl : w2 = w2' := hw2
      have H2 := Lib.hid (HZ.out.keep hb2)
      have c2 := (H2.out.cell 2).trans HT.out.c2
      have f2 := H2.out.free 2
      clear n0 n4 hb2
      go_wp2_with (first
        | (refine wpList_load_row rfl 116 (.tmp 1) rfl W.heap.size rfl 116 _ (0, 0) _ (H2.out.set 2 (.int .i64 4)).t Try.underlying116 rfl HTI3.out ?_)
        | (refine wpList_store_row rfl 116 (.tmp 2) (.tmp 20) rfl (W.heap.size + 1) _ rfl rfl 116 _ (H2.out.set 2 (.int .i64 4)).r HTI3.out (by rw [HT3.out.size]; exact H2.out.z) HT3.out.one ?_))
      rw [HJ.out]
      exact bodyPost_ret (results_row (p := 2) (by kernel_rfl) _ _ (W.heap.size + 1) 116 _ _ rfl ((H2.out.set 2 (.int .i64 4)).out _).1 Try.underlying116 rfl HTI3.out) rfl ⟨_, rfl, HT3.out, ((H2.out.set 2 (.int .i64 4)).out _).2⟩
    · have HJ : Hid (judgeT (two s.k) t = { t with stg := 7 }) := Lib.hid (by unfold judgeT; rw [if_neg hd, if_neg he])
      have HT3 := Lib.hid (HT.out.stg 7)
      have HTI3 := Lib.hid HT3.out.info
      have hde : decide (t.last - two s.k ≤ t.least) = false := decide_eq_false he
      clear hd he
      go_enter Try.func121, Try.ntmps121
      go_wp2_with (first
        | (refine wpList_load_mid rfl 77 (.tmp 5) rfl W.heap.size 5 rfl sl _ (HR.out _ _ _ _ (H0.out _ rfl).t) Try.underlying77 rfl HI.out ?_)
        | (go_at_call 49; refine (sdone HS.out _).mono ?_; rintro e w1 ⟨rfl, hb⟩; rw [hdd]; have H1 := Lib.hid ((H0.out _ rfl).keep hb); clear hb))
      obtain ⟨zs, hzs⟩ : ∃ zs : Array Value, Two W w1 W.heap.size ts zs := ⟨_, H1.out⟩
      have HZ := Lib.hid hzs
      clear H1 hzs
      have n0 : ∀ x : Later w1, x.to.cell? ⟨W.heap.size, 0, none⟩ = some (.pointer (some ⟨s.p, 0, none⟩)) := fun x => ((HZ.out.keep x.below).cell 0).trans HT.out.c0
      have n4 : ∀ x : Later w1, x.to.cell? ⟨W.heap.size, 4, none⟩ = some (.int .i64 t.last) := fun x => ((HZ.out.keep x.below).cell 4).trans HT.out.c4
      have HLD : Hid (∀ w', (∃ x : Later w1, w' = x.to) → w'.rangeAt W.heap.size 5 sl) := by
        rintro _ ⟨x, rfl⟩
        exact HR.out _ _ _ _ (HZ.out.keep x.below).t
      have HSL : Hid (∀ x : Later w1, Calls Try.prog 50 #[.agg sl.toArray] x.to fun e w'' => e = .returned (.int .i64 t.least) ∧ ∃ y : Later w1, w'' = y.to) := fun x => (sleast HS.out _).mono fun e w h => ⟨h.1, ⟨w, bthen x.below h.2⟩, rfl⟩
      have HEN : Hid (∀ x : Later w1, Calls Try.prog 120 #[.pointer (some ⟨s.p, 0, none⟩), .int .i64 t.least, .int .i64 t.last] x.to fun e w'' => e = .returned (.bool false) ∧ ∃ y : Later w1, w'' = y.to) := fun x => (menough (HC.out.later (bthen HZ.out.low x.below)) hk _ _ h0 h1).mono fun e w h => ⟨by rw [h.1, hde], ⟨w, bthen x.below h.2⟩, rfl⟩
      clear hde
      refine wp_region_later (by kernel_rfl) (by kernel_rfl) ?_
      repeat (first
        | (go_big_quiet_want; refine quiet_load_mid 77 (.tmp 13) rfl W.heap.size 5 rfl sl _ HLD.out Try.underlying77 rfl HI.out ?_; go_big_quiet_on; go_frame)
        | go_big_quiet_step ((first
          | (go_at_call 50; exact HSL.out _)
          | (go_at_call 120; exact HEN.out _))))
      refine wpQuiet_nil ?_
      intro w2 hw'
      obtain ⟨⟨w2', hb2⟩, hw2⟩ := hw'
      obtain rfl : w2 = w2' := hw2
      have H2 := Lib.hid (HZ.out.keep hb2)
      have c2 := (H2.out.cell 2).trans HT.out.c2
      have f2 := H2.out.free 2
      clear n0 n4 hb2
      go_wp2_with (first
        | (refine wpList_load_row rfl 116 (.tmp 1) rfl W.heap.size rfl 116 _ (0, 0) _ (H2.out.set 2 (.int .i64 7)).t Try.underlying116 rfl HTI3.out ?_)
        | (refine wpList_store_row rfl 116 (.tmp 2) (.tmp 20) rfl (W.heap.size + 1) _ rfl rfl 116 _ (H2.out.set 2 (.int .i64 7)).r HTI3.out (by rw [HT3.out.size]; exact H2.out.z) HT3.out.one ?_))
      rw [HJ.out]
      exact bodyPost_ret (results_row (p := 2) (by kernel_rfl) _ _ (W.heap.size + 1) 116 _ _ rfl ((H2.out.set 2 (.int .i64 7)).out _).1 Try.underlying116 rfl HTI3.out) rfl ⟨_, rfl, HT3.out, ((H2.out.set 2 (.int .i64 7)).out _).2⟩
end Go.Proofs.Yteinfkcnengmeaa
