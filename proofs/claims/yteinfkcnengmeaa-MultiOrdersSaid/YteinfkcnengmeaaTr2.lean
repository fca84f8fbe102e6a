/-
  How a claim of package multi that is done step by step begins, and how it goes on behind a scan, by contract. No condition but those that each theorem names.
-/
import Derived.Test.YteinfkcnengmeaaTr
import Derived.Outline
namespace Go.Proofs.Yteinfkcnengmeaa
open Go.RowKit

set_option maxRecDepth 100000 in
theorem manew (p : Nat) (n : Int) (W : World) :
    Calls Try.prog 106 #[.pointer (some ⟨p, 0, none⟩), .int .i64 n] W fun e w' => ∃ ts, e = .returned (.agg ts) ∧ TyF ts p (tr0 n) ∧ Below W.heap.size W w' := by
  have hb := built_ty0 p n
  have hS := ty0_f p n
  have hi := hS.info
  generalize ty0 p n = cs at *
  have HB := Lib.hid hb
  have HI := Lib.hid hi
  have HS := Lib.hid hS
  clear hb hi hS
  go_enter Try.func106, Try.ntmps106
  go_wp2_with (first
    | (refine wpList_build3 rfl 116 0 1 2 (.tmp 5) (.tmp 6) (.const (.int .i64 1)) rfl _ _ _ rfl rfl rfl cs ?_ ?_; exact HB.out)
    | (refine wpList_store_row rfl 116 (.tmp 4) (.tmp 7) rfl W.heap.size cs rfl rfl 116 _ (obj_new _ _) HI.out (by rw [HS.out.size]; rfl) HS.out.one ?_))
  exact bodyPost_ret (results_row (p := 4) (by kernel_rfl) _ _ W.heap.size 116 cs _ rfl (setRow_heap _ _ _ _ _ _ (obj_new _ _)) Try.underlying116 rfl HI.out) rfl ⟨cs, rfl, HS.out, bsetRow (balloc (Below.refl _ _) _) (Nat.le_refl _) cs⟩

/-! A zero claim, beside an error -/
def tyz : Array Value := (([.pointer none, .int .i64 0, .int .i64 0, .int .i64 0, .int .i64 0] : List Value) ++ (scC [] 0 0).toList).toArray
theorem built_tyz : Try.prog.built 116 [] = some tyz := by kernel_rfl
/-- What a claim's cells are that is over and has claimed nothing. -/
structure TyZ (ts : Array Value) : Prop where
  size : ts.size = 40
  one : ts.all (·.oneCell') = true
  c2 : ts[2]? = some (.int .i64 0)
  c4 : ts[4]? = some (.int .i64 0)
theorem tyz_f : TyZ tyz := by
  have hs := sc_of (ids := []) (by simp) 0 0
  have hsz := hs.size
  refine ⟨by simp [tyz, hsz], ?_, rfl, rfl⟩
  have h2 := hs.one
  rw [Array.all_eq_true_iff_forall_mem] at h2 ⊢
  intro y hy
  unfold tyz at hy
  rw [List.mem_toArray, List.mem_append] at hy
  rcases hy with hy | hy
  · simp only [List.mem_cons, List.not_mem_nil, or_false] at hy
    rcases hy with rfl | rfl | rfl | rfl | rfl <;> rfl
  · exact h2 y (by simpa using hy)
theorem TyZ.info {ts : Array Value} (h : TyZ ts) : (Try.prog.info? 116).map (·.size) = some ts.size := by
  rw [h.size]
  kernel_rfl
section
variable {P : Program} {ops : Array Oper} {rest : List Oper} {o : Oper} {a : Act} {w : World} {Q : Exit → Act → World → Prop}
theorem wpList_build0 (hg : o.guard = none) (t : TypeId) (ho : o.op = .build t #[]) (cells : Array Value)
    (hb : P.built t [] = some cells) (h : wpList P ops Q rest (a.put o.dst (.agg cells)) w) : wpList P ops Q (o :: rest) a w := by
  have e : P.built t ((#[] : Array (Nat × Operand)).map fun (i, x) => (i, a.eval x)).toList = some cells := by simpa using hb
  exact wpList_build hg t _ ho (by rw [e]; rfl) (by rw [e]; exact h)
end
/-- A block of another type turns: the error stays what it is. -/
theorem Refused.rowT {W w : World} {E : Value} {n : Int} (h : Refused W w E n) {g : Nat} {old : Array Value} {m : Nat × Nat} {T : TypeId} (hg : W.heap.size ≤ g) (ho : w.heap[g]? = some (.cells old T m)) (hT : T ≠ 166) (cs : Array Value) : Refused W (w.setRow g cs) E n := by
  obtain ⟨q, h1, h2, h3⟩ := h
  have hf : Frm (fun k => k = g) w (w.setRow g cs) := (Frm.refl (fun k => k = g) w).setRow rfl cs
  refine ⟨q, h1, Held.of_frm hf ?_ _ _ _ h2, bsetRow h3 hg cs⟩
  rintro k c T' m' rfl hk
  rw [ho] at hk
  simp at hk
  rw [← hk.2.1]
  exact hT

/-- fault.Wrap around a number, the new block unnamed. -/
theorem wrap_q {W : World} (op : ByteArray) (seq n : Int) :
    Calls Try.prog 77 #[.string op, .int .i64 seq, .iface 130 (.int .i64 n)] W fun e w' => ∃ q, e = .returned (.iface 164 (.pointer (some ⟨q, 0, none⟩))) ∧ Refused W w' (.iface 164 (.pointer (some ⟨q, 0, none⟩))) n :=
  (wrap_iface op seq _ _).mono fun _ _ ⟨he, hw⟩ => ⟨_, he, refused_of hw⟩
theorem results_row_fault {P : Program} {fn : Func} {p u : Tmp} {ty : TypeId} (h : fn.results = #[.cell p ty, .tmp u]) (tmps : Array Value) (w : World) (g : Nat) (t : TypeId) (cs : Array Value) (fr : Nat × Nat) (d : TypeDesc) (E : Value)
    (hp : tmps.getD p undef = .pointer (some ⟨g, 0, none⟩)) (hE : tmps.getD u undef = E) (hg : w.heap[g]? = some (.cells cs t fr))
    (hu : P.underlying ty = some d) (hd : (match d with | .struct _ | .array _ _ => true | _ => false) = true) (hi : (P.info? ty).map (·.size) = some cs.size) :
    (results fn tmps).run P w = .ok (.tuple #[.agg cs, E]) w := by
  rw [results_row_tmp h tmps w g t cs fr d hp hg hu hd hi, hE]

set_option maxHeartbeats 1000000 in
set_option maxRecDepth 100000 in
theorem mtry_nil (n : Int) (W : World) :
    Calls Try.prog 66 #[.pointer none, .int .i64 n] W fun e w' => ∃ ts E, e = .returned (.tuple #[.agg ts, E]) ∧ TyZ ts ∧ Refused W w' E 2 := by
  have HB := Lib.hid built_tyz
  have HS := Lib.hid tyz_f
  have HI := Lib.hid tyz_f.info
  have HG : Hid (∀ z : Array Value, (W.alloc (.cells z 116)).heap[W.heap.size]? = some (.cells z 116 (0, 0))) := fun z => obj_new _ _
  generalize tyz = cs at *
  go_enter Try.func66, Try.ntmps66
  go_wp2_with (first
    | (refine wpList_build0 rfl 116 rfl cs ?_ ?_; exact HB.out)
    | (go_at_call 77; refine (wrap_q _ _ _).mono ?_; rintro e w1 ⟨q, rfl, hr⟩; have HG1 := Lib.hid ((hr.below.block _ (by simp)).trans (HG.out _)); have HR := Lib.hid (Refused.box hr); clear hr)
    | (refine wpList_store_row rfl 116 (.tmp 4) (.tmp 8) rfl W.heap.size cs rfl rfl 116 _ HG1.out HI.out (by rw [HS.out.size]; rfl) HS.out.one ?_))
  exact bodyPost_ret (results_row_fault (p := 4) (u := 5) (by kernel_rfl) _ _ W.heap.size 116 cs (0, 0) _ _ rfl rfl (setRow_heap _ _ _ _ _ _ HG1.out) Try.underlying116 rfl HI.out) rfl ⟨cs, _, rfl, HS.out, HR.out.rowT (Nat.le_refl _) HG1.out (by decide) cs⟩

set_option maxHeartbeats 2000000 in
set_option maxRecDepth 100000 in
theorem mtry_arg {s : Sh} {sw : Int} {W : World} (hc : MsC W s sw) (hk : s.k ≤ 20) (n : Int) (hn : n < 1 ∨ two s.k < n) :
    Calls Try.prog 66 #[.pointer (some ⟨s.p, 0, none⟩), .int .i64 n] W fun e w' => ∃ ts E, e = .returned (.tuple #[.agg ts, E]) ∧ TyZ ts ∧ Refused W w' E 1 := by
  have HB := Lib.hid built_tyz
  have HS := Lib.hid tyz_f
  have HI := Lib.hid tyz_f.info
  have HG : Hid (∀ z : Array Value, (W.alloc (.cells z 116)).heap[W.heap.size]? = some (.cells z 116 (0, 0))) := fun z => obj_new _ _
  have c1 : ∀ ob : Obj, (W.alloc ob).cell? ⟨s.p, 1, none⟩ = some (.int .u8 s.k) := fun ob => keepc (balloc (Below.refl _ _) ob) hc.c1
  clear hc
  generalize tyz = cs at *
  by_cases h1 : n < 1
  · have d1 : decide (n < 1) = true := decide_eq_true h1
    clear hn h1
    go_enter Try.func66, Try.ntmps66
    go_wp2_with (first
      | (refine wpList_build0 rfl 116 rfl cs ?_ ?_; exact HB.out)
      | (go_at_call 77; refine (wrap_q _ _ _).mono ?_; rintro e w1 ⟨q, rfl, hr⟩; have HG1 := Lib.hid ((hr.below.block _ (by simp)).trans (HG.out _)); have HR := Lib.hid (Refused.box hr); clear hr)
      | (refine wpList_store_row rfl 116 (.tmp 4) (.tmp 23) rfl W.heap.size cs rfl rfl 116 _ HG1.out HI.out (by rw [HS.out.size]; rfl) HS.out.one ?_))
    exact bodyPost_ret (results_row_fault (p := 4) (u := 5) (by kernel_rfl) _ _ W.heap.size 116 cs (0, 0) _ _ rfl rfl (setRow_heap _ _ _ _ _ _ HG1.out) Try.underlying116 rfl HI.out) rfl ⟨cs, _, rfl, HS.out, HR.out.rowT (Nat.le_refl _) HG1.out (by decide) cs⟩
  · have h2 : two s.k < n := by omega
    have d1 : decide (n < 1) = false := decide_eq_false h1
    have d2 : decide (two s.k < n) = true := decide_eq_true h2
    clear hn h1 h2
    go_enter Try.func66, Try.ntmps66
    go_wp2_with (first
      | (refine wpList_build0 rfl 116 rfl cs ?_ ?_; exact HB.out)
      | (go_at_call 18; refine (slots_any s.k hk _).mono ?_; rintro e w0 ⟨rfl, hw⟩; have hb0 := slots_below hw; have HG0 := Lib.hid ((hb0.block _ (by simp)).trans (HG.out _)); have HB0 := Lib.hid (bthen (balloc (Below.refl _ W) _) hb0); clear hw hb0)
      | (go_at_call 77; refine (wrap_q _ _ _).mono ?_; rintro e w1 ⟨q, rfl, hr⟩; have HG1 := Lib.hid ((hr.below.block _ (lt_of_block HG0.out)).trans HG0.out); have HR := Lib.hid (hr.after HB0.out); clear hr)
      | (refine wpList_store_row rfl 116 (.tmp 4) (.tmp 23) rfl W.heap.size cs rfl rfl 116 _ HG1.out HI.out (by rw [HS.out.size]; rfl) HS.out.one ?_))
    exact bodyPost_ret (results_row_fault (p := 4) (u := 5) (by kernel_rfl) _ _ W.heap.size 116 cs (0, 0) _ _ rfl rfl (setRow_heap _ _ _ _ _ _ HG1.out) Try.underlying116 rfl HI.out) rfl ⟨cs, _, rfl, HS.out, HR.out.rowT (Nat.le_refl _) HG1.out (by decide) cs⟩

set_option maxHeartbeats 1000000 in
set_option maxRecDepth 100000 in
theorem mtry_ok {s : Sh} {sw : Int} {W : World} (hc : MsC W s sw) (hk : s.k ≤ 20) (n : Int) (h1 : 1 ≤ n) (h2 : n ≤ two s.k) :
    Calls Try.prog 66 #[.pointer (some ⟨s.p, 0, none⟩), .int .i64 n] W fun e w' => ∃ ts, e = .returned (.tuple #[.agg ts, .nilIface]) ∧ TyF ts s.p (tr0 n) ∧ Below W.heap.size W w' := by
  have HG : Hid (∀ z : Array Value, (W.alloc (.cells z 116)).heap[W.heap.size]? = some (.cells z 116 (0, 0))) := fun z => obj_new _ _
  have c1 : ∀ ob : Obj, (W.alloc ob).cell? ⟨s.p, 1, none⟩ = some (.int .u8 s.k) := fun ob => keepc (balloc (Below.refl _ _) ob) hc.c1
  have d1 : decide (n < 1) = false := decide_eq_false (by omega)
  have d2 : decide (two s.k < n) = false := decide_eq_false (by omega)
  clear hc h1 h2
  go_enter Try.func66, Try.ntmps66
  go_wp2_with (first
    | (go_at_call 18; refine (slots_any s.k hk _).mono ?_; rintro e w0 ⟨rfl, hw⟩; have hb0 := slots_below hw; have HG0 := Lib.hid ((hb0.block _ (by simp)).trans (HG.out _)); have HB0 := Lib.hid (bthen (balloc (Below.refl _ W) _) hb0); clear hw hb0)
    | (go_at_call 106; refine (manew _ _ _).mono ?_; rintro e w1 ⟨cs, rfl, hS, hb⟩; have HG1 := Lib.hid ((hb.block _ (lt_of_block HG0.out)).trans HG0.out); have HS := Lib.hid hS; have HI := Lib.hid hS.info; have HB1 := Lib.hid (bthen HB0.out hb); clear hS hb)
    | (refine wpList_store_row rfl 116 (.tmp 4) (.tmp 29) rfl W.heap.size cs rfl rfl 116 _ HG1.out HI.out (by rw [HS.out.size]; rfl) HS.out.one ?_))
  exact bodyPost_ret (results_row_fault (p := 4) (u := 5) (by kernel_rfl) _ _ W.heap.size 116 cs (0, 0) _ _ rfl rfl (setRow_heap _ _ _ _ _ _ HG1.out) Try.underlying116 rfl HI.out) rfl ⟨cs, rfl, HS.out, bsetRow HB1.out (Nat.le_refl _) cs⟩
end Go.Proofs.Yteinfkcnengmeaa
