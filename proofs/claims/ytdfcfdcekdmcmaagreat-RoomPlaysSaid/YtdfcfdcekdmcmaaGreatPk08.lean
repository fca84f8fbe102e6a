/-
  A claim of package multi that is done step by step, as a value of forty cells: what they are; Done, Full, Last, the beginning, and how it goes on behind a scan, by contract. No condition but those that each theorem names.
  How a claim of package multi that is done step by step begins, and how it goes on behind a scan, by contract. No condition but those that each theorem names.
  How a claim of package multi goes on behind a scan, by contract. No condition but those that each theorem names.
  What a step of a claim of package multi works on: the claim's own block and the result's, beside the sequencer, its arena and its buffer. No condition but those that each theorem names.
-/
import Derived.Test.YtdfcfdcekdmcmaaGreatPk07
import Derived.Outline
import Derived.Great.Walk
import Derived.Deep.RegionHeld3
set_option linter.unusedVariables false
set_option linter.unusedSimpArgs false
namespace Go.Proofs.YtdfcfdcekdmcmaaGreat
open Go.RowKit
structure Tr where
  n : Int
  stg : Int
  had : Int
  last : Int
  ids : List Int
  seen : Nat
  least : Int
structure TyF (ts : Array Value) (p : Nat) (t : Tr) : Prop where
  size : ts.size = 40
  one : ts.all (·.oneCell') = true
  c0 : ts[0]? = some (.pointer (some ⟨p, 0, none⟩))
  c1 : ts[1]? = some (.int .i64 t.n)
  c2 : ts[2]? = some (.int .i64 t.stg)
  c3 : ts[3]? = some (.int .i64 t.had)
  c4 : ts[4]? = some (.int .i64 t.last)
  sc : Sc (ts.extract 5 40) t.ids t.seen t.least
theorem all_set {ts : Array Value} (h : ts.all (·.oneCell') = true) (i : Nat) (v : Value) (hv : v.oneCell' = true) : (ts.setIfInBounds i v).all (·.oneCell') = true := by
  rw [Array.all_eq_true_iff_forall_mem] at h ⊢
  intro y hy
  rcases Array.mem_or_eq_of_mem_setIfInBounds hy with hy | rfl
  · exact h y hy
  · exact hv
theorem ext_set {ts : Array Value} {i : Nat} (h : i < 5) (v : Value) : (ts.setIfInBounds i v).extract 5 40 = ts.extract 5 40 := by
  apply Array.ext_getElem?
  intro j
  simp only [Array.getElem?_extract, Array.size_setIfInBounds]
  split
  · rw [Array.getElem?_setIfInBounds_ne (by omega)]
  · rfl
theorem TyF.stg {ts : Array Value} {p : Nat} {t : Tr} (h : TyF ts p t) (x : Int) : TyF (ts.setIfInBounds 2 (.int .i64 x)) p { t with stg := x } := by
  have hs := h.size
  refine ⟨by simpa using hs, all_set h.one _ _ rfl, ?_, ?_, ?_, ?_, ?_, by rw [ext_set (by omega)]; exact h.sc⟩
  · rw [Array.getElem?_setIfInBounds_ne (by omega)]; exact h.c0
  · rw [Array.getElem?_setIfInBounds_ne (by omega)]; exact h.c1
  · rw [Array.getElem?_setIfInBounds_self_of_lt (by omega)]
  · rw [Array.getElem?_setIfInBounds_ne (by omega)]; exact h.c3
  · rw [Array.getElem?_setIfInBounds_ne (by omega)]; exact h.c4
theorem TyF.had {ts : Array Value} {p : Nat} {t : Tr} (h : TyF ts p t) (x : Int) : TyF (ts.setIfInBounds 3 (.int .i64 x)) p { t with had := x } := by
  have hs := h.size
  refine ⟨by simpa using hs, all_set h.one _ _ rfl, ?_, ?_, ?_, ?_, ?_, by rw [ext_set (by omega)]; exact h.sc⟩
  · rw [Array.getElem?_setIfInBounds_ne (by omega)]; exact h.c0
  · rw [Array.getElem?_setIfInBounds_ne (by omega)]; exact h.c1
  · rw [Array.getElem?_setIfInBounds_ne (by omega)]; exact h.c2
  · rw [Array.getElem?_setIfInBounds_self_of_lt (by omega)]
  · rw [Array.getElem?_setIfInBounds_ne (by omega)]; exact h.c4
theorem TyF.last {ts : Array Value} {p : Nat} {t : Tr} (h : TyF ts p t) (x : Int) : TyF (ts.setIfInBounds 4 (.int .i64 x)) p { t with last := x } := by
  have hs := h.size
  refine ⟨by simpa using hs, all_set h.one _ _ rfl, ?_, ?_, ?_, ?_, ?_, by rw [ext_set (by omega)]; exact h.sc⟩
  · rw [Array.getElem?_setIfInBounds_ne (by omega)]; exact h.c0
  · rw [Array.getElem?_setIfInBounds_ne (by omega)]; exact h.c1
  · rw [Array.getElem?_setIfInBounds_ne (by omega)]; exact h.c2
  · rw [Array.getElem?_setIfInBounds_ne (by omega)]; exact h.c3
  · rw [Array.getElem?_setIfInBounds_self_of_lt (by omega)]
def putSc (ts cs : Array Value) : Array Value := (ts.toList.take 5 ++ cs.toList).toArray
theorem TyF.scan {ts cs : Array Value} {p : Nat} {t : Tr} (h : TyF ts p t) {ids : List Int} {seen : Nat} {least : Int} (hc : Sc cs ids seen least) : TyF (putSc ts cs) p { t with ids := ids, seen := seen, least := least } := by
  have hs := h.size
  have hcs := hc.size
  have hl : (ts.toList.take 5).length = 5 := by simp; omega
  have lo : ∀ i, i < 5 → (putSc ts cs)[i]? = ts[i]? := fun i hi => by
    simp only [putSc, List.getElem?_toArray]
    rw [List.getElem?_append_left (by omega), List.getElem?_take, if_pos hi]
    simp
  refine ⟨by simp [putSc]; omega, ?_, (lo 0 (by omega)).trans h.c0, (lo 1 (by omega)).trans h.c1, (lo 2 (by omega)).trans h.c2, (lo 3 (by omega)).trans h.c3, (lo 4 (by omega)).trans h.c4, ?_⟩
  · have h1 := h.one
    have h2 := hc.one
    rw [Array.all_eq_true_iff_forall_mem] at h1 h2 ⊢
    intro y hy
    simp only [putSc, List.mem_toArray, List.mem_append] at hy
    rcases hy with hy | hy
    · exact h1 y (by simpa using List.mem_of_mem_take hy)
    · exact h2 y (by simpa using hy)
  · have : (putSc ts cs).extract 5 40 = cs := by
      apply Array.ext_getElem?
      intro j
      simp only [Array.getElem?_extract, putSc, List.getElem?_toArray, List.size_toArray, List.length_append, hl, Array.length_toList, hcs]
      by_cases hj : j < 35
      · rw [if_pos (by omega), List.getElem?_append_right (by omega), hl]
        simp
      · rw [if_neg (by omega), Array.getElem?_eq_none (by omega)]
    rw [this]
    exact hc
theorem TyF.info {ts : Array Value} {p : Nat} {t : Tr} (h : TyF ts p t) : (Tryz.prog.info? 64).map (·.size) = some ts.size := by
  rw [h.size]
  kernel_rfl
section
variable {ts : Array Value} {W : World}
theorem tdone {x : Int} (h2 : ts[2]? = some (.int .i64 x)) (W : World) :
    Calls Tryz.prog 83 #[.agg ts] W fun e w' => e = .returned (.bool (x == 0 || x == 6 || x == 7)) ∧ Below W.heap.size W w' := by
  by_cases h0 : x = 0
  · subst h0
    go_enter Tryz.func83, Tryz.ntmps83
    go_wp2
    go_ret
    exact ⟨rfl, (Below.refl _ _).alloc (Nat.le_refl _) _⟩
  · have b0 : (x == 0) = false := by simpa using h0
    by_cases h6 : x = 6
    · subst h6
      clear h0 b0
      go_enter Tryz.func83, Tryz.ntmps83
      go_wp2
      go_ret
      exact ⟨rfl, (Below.refl _ _).alloc (Nat.le_refl _) _⟩
    · have b6 : (x == 6) = false := by simpa using h6
      clear h0 h6
      go_enter Tryz.func83, Tryz.ntmps83
      go_wp2
      go_ret
      exact ⟨by simp [b0, b6], (Below.refl _ _).alloc (Nat.le_refl _) _⟩
theorem tfull {x : Int} (h2 : ts[2]? = some (.int .i64 x)) (W : World) :
    Calls Tryz.prog 87 #[.agg ts] W fun e w' => e = .returned (.bool (x == 7)) ∧ Below W.heap.size W w' := by
  go_enter Tryz.func87, Tryz.ntmps87
  go_wp2
  go_ret
  exact ⟨rfl, (Below.refl _ _).alloc (Nat.le_refl _) _⟩
def lastOf (x y : Int) : Int := if x = 6 then y else -1
theorem tlast {x y : Int} (h2 : ts[2]? = some (.int .i64 x)) (h4 : ts[4]? = some (.int .i64 y)) (W : World) :
    Calls Tryz.prog 89 #[.agg ts] W fun e w' => e = .returned (.int .i64 (lastOf x y)) ∧ Below W.heap.size W w' := by
  by_cases h6 : x = 6
  · subst h6
    go_enter Tryz.func89, Tryz.ntmps89
    go_wp2
    go_ret
    exact ⟨rfl, (Below.refl _ _).alloc (Nat.le_refl _) _⟩
  · have b6 : (x == 6) = false := by simpa using h6
    have HL : Hid (lastOf x y = -1) := by unfold lastOf; rw [if_neg h6]; exact rfl
    clear h6
    go_enter Tryz.func89, Tryz.ntmps89
    go_wp2
    go_ret
    exact ⟨by rw [HL.out]; rfl, (Below.refl _ _).alloc (Nat.le_refl _) _⟩
end
def tr0 (n : Int) : Tr := ⟨n, 1, 0, 0, [], 0, 0⟩
theorem ty_of {p : Nat} {t : Tr} {cs : Array Value} (hc : Sc cs t.ids t.seen t.least) : TyF ((([.pointer (some ⟨p, 0, none⟩), .int .i64 t.n, .int .i64 t.stg, .int .i64 t.had, .int .i64 t.last] : List Value) ++ cs.toList).toArray) p t := by
  have hcs := hc.size
  refine ⟨by simp; omega, ?_, rfl, rfl, rfl, rfl, rfl, ?_⟩
  · have h2 := hc.one
    rw [Array.all_eq_true_iff_forall_mem] at h2 ⊢
    intro y hy
    rw [List.mem_toArray, List.mem_append] at hy
    rcases hy with hy | hy
    · simp only [List.mem_cons, List.not_mem_nil, or_false] at hy
      rcases hy with rfl | rfl | rfl | rfl | rfl <;> rfl
    · exact h2 y (by simpa using hy)
  · have : (([Value.pointer (some ⟨p, 0, none⟩), .int .i64 t.n, .int .i64 t.stg, .int .i64 t.had, .int .i64 t.last] ++ cs.toList).toArray).extract 5 40 = cs := by
      apply Array.ext_getElem?
      intro j
      simp only [Array.getElem?_extract, List.getElem?_toArray, List.size_toArray, List.length_append, List.length_cons, List.length_nil, Array.length_toList, hcs]
      by_cases hj : j < 35
      · rw [if_pos (by omega), List.getElem?_append_right (by simp)]
        simp
      · rw [if_neg (by omega), Array.getElem?_eq_none (by omega)]
    rw [this]
    exact hc
def ty0 (p : Nat) (n : Int) : Array Value := ([Value.pointer (some ⟨p, 0, none⟩), .int .i64 n, .int .i64 1, .int .i64 0, .int .i64 0] ++ (scC [] 0 0).toList).toArray
theorem built_ty0 (p : Nat) (n : Int) : Tryz.prog.built 64 [(0, .pointer (some ⟨p, 0, none⟩)), (1, .int .i64 n), (2, .int .i64 1)] = some (ty0 p n) := by kernel_rfl
theorem ty0_f (p : Nat) (n : Int) : TyF (ty0 p n) p (tr0 n) := ty_of (p := p) (t := tr0 n) (sc_of (ids := []) (by simp) 0 0)
section
variable {P : Program} {ops : Array Oper} {rest : List Oper} {o : Oper} {a : Act} {w : World} {Q : Exit → Act → World → Prop}
theorem wpList_build3 (hg : o.guard = none) (t : TypeId) (i j k : Nat) (x y z : Operand) (ho : o.op = .build t #[(i, x), (j, y), (k, z)]) (u v r : Value) (hx : a.eval x = u) (hy : a.eval y = v) (hz : a.eval z = r) (cells : Array Value)
    (hb : P.built t [(i, u), (j, v), (k, r)] = some cells) (h : wpList P ops Q rest (a.put o.dst (.agg cells)) w) : wpList P ops Q (o :: rest) a w := by
  subst hx hy hz
  have e : P.built t ((#[(i, x), (j, y), (k, z)] : Array (Nat × Operand)).map fun (i, x) => (i, a.eval x)).toList = some cells := by simpa using hb
  exact wpList_build hg t _ ho (by rw [e]; rfl) (by rw [e]; exact h)
end
end Go.Proofs.YtdfcfdcekdmcmaaGreat
namespace Go.Proofs.YtdfcfdcekdmcmaaGreat
open Go.RowKit
set_option maxRecDepth 100000 in
theorem manew (p : Nat) (n : Int) (W : World) :
    Calls Tryz.prog 124 #[.pointer (some ⟨p, 0, none⟩), .int .i64 n] W fun e w' => ∃ ts, e = .returned (.agg ts) ∧ TyF ts p (tr0 n) ∧ Below W.heap.size W w' := by
  have hb := built_ty0 p n
  have hS := ty0_f p n
  have hi := hS.info
  generalize ty0 p n = cs at *
  have HB := Lib.hid hb
  have HI := Lib.hid hi
  have HS := Lib.hid hS
  clear hb hi hS
  go_enter Tryz.func124, Tryz.ntmps124
  go_wp2_with (first
    | (refine wpList_build3 rfl 64 0 1 2 (.tmp 5) (.tmp 6) (.const (.int .i64 1)) rfl _ _ _ rfl rfl rfl cs ?_ ?_; exact HB.out)
    | (refine wpList_store_row rfl 64 (.tmp 4) (.tmp 7) rfl W.heap.size cs rfl rfl 64 _ (obj_new _ _) HI.out (by rw [HS.out.size]; rfl) HS.out.one ?_))
  exact bodyPost_ret (results_row (p := 4) (by kernel_rfl) _ _ W.heap.size 64 cs _ rfl (setRow_heap _ _ _ _ _ _ (obj_new _ _)) Tryz.underlying64 rfl HI.out) rfl ⟨cs, rfl, HS.out, bsetRow (balloc (Below.refl _ _) _) (Nat.le_refl _) cs⟩
def tyz : Array Value := (([.pointer none, .int .i64 0, .int .i64 0, .int .i64 0, .int .i64 0] : List Value) ++ (scC [] 0 0).toList).toArray
theorem built_tyz : Tryz.prog.built 64 [] = some tyz := by kernel_rfl
structure TyZ (ts : Array Value) : Prop where
  size : ts.size = 40
  one : ts.all (·.oneCell') = true
  c2 : ts[2]? = some (.int .i64 0)
  c4 : ts[4]? = some (.int .i64 0)
theorem tyz_f : TyZ tyz := by
  have hs := sc_of (ids := []) (by simp) 0 0
  have hsz := hs.size
  refine ⟨by simp [tyz, hsz], ?_, rfl, rfl⟩
  have h2 := hs.one
  rw [Array.all_eq_true_iff_forall_mem] at h2 ⊢
  intro y hy
  unfold tyz at hy
  rw [List.mem_toArray, List.mem_append] at hy
  rcases hy with hy | hy
  · simp only [List.mem_cons, List.not_mem_nil, or_false] at hy
    rcases hy with rfl | rfl | rfl | rfl | rfl <;> rfl
  · exact h2 y (by simpa using hy)
theorem TyZ.info {ts : Array Value} (h : TyZ ts) : (Tryz.prog.info? 64).map (·.size) = some ts.size := by
  rw [h.size]
  kernel_rfl
section
variable {P : Program} {ops : Array Oper} {rest : List Oper} {o : Oper} {a : Act} {w : World} {Q : Exit → Act → World → Prop}
theorem wpList_build0 (hg : o.guard = none) (t : TypeId) (ho : o.op = .build t #[]) (cells : Array Value)
    (hb : P.built t [] = some cells) (h : wpList P ops Q rest (a.put o.dst (.agg cells)) w) : wpList P ops Q (o :: rest) a w := by
  have e : P.built t ((#[] : Array (Nat × Operand)).map fun (i, x) => (i, a.eval x)).toList = some cells := by simpa using hb
  exact wpList_build hg t _ ho (by rw [e]; rfl) (by rw [e]; exact h)
end
theorem Refused.rowT {W w : World} {E : Value} {n : Int} (h : Refused W w E n) {g : Nat} {old : Array Value} {m : Nat × Nat} {T : TypeId} (hg : W.heap.size ≤ g) (ho : w.heap[g]? = some (.cells old T m)) (hT : T ≠ 202) (cs : Array Value) : Refused W (w.setRow g cs) E n := by
  obtain ⟨q, h1, h2, h3⟩ := h
  have hf : Frm (fun k => k = g) w (w.setRow g cs) := (Frm.refl (fun k => k = g) w).setRow rfl cs
  refine ⟨q, h1, Held.of_frm hf ?_ _ _ _ h2, bsetRow h3 hg cs⟩
  rintro k c T' m' rfl hk
  rw [ho] at hk
  simp at hk
  rw [← hk.2.1]
  exact hT
theorem wrap_q {W : World} (op : ByteArray) (seq n : Int) :
    Calls Tryz.prog 75 #[.string op, .int .i64 seq, .iface 156 (.int .i64 n)] W fun e w' => ∃ q, e = .returned (.iface 200 (.pointer (some ⟨q, 0, none⟩))) ∧ Refused W w' (.iface 200 (.pointer (some ⟨q, 0, none⟩))) n :=
  (wrap_iface op seq _ _).mono fun _ _ ⟨he, hw⟩ => ⟨_, he, refused_of hw⟩
theorem results_row_fault {P : Program} {fn : Func} {p u : Tmp} {ty : TypeId} (h : fn.results = #[.cell p ty, .tmp u]) (tmps : Array Value) (w : World) (g : Nat) (t : TypeId) (cs : Array Value) (fr : Nat × Nat) (d : TypeDesc) (E : Value)
    (hp : tmps.getD p undef = .pointer (some ⟨g, 0, none⟩)) (hE : tmps.getD u undef = E) (hg : w.heap[g]? = some (.cells cs t fr))
    (hu : P.underlying ty = some d) (hd : (match d with | .struct _ | .array _ _ => true | _ => false) = true) (hi : (P.info? ty).map (·.size) = some cs.size) :
    (results fn tmps).run P w = .ok (.tuple #[.agg cs, E]) w := by
  rw [results_row_tmp h tmps w g t cs fr d hp hg hu hd hi, hE]
set_option maxHeartbeats 2000000 in
set_option maxRecDepth 100000 in
theorem mtry_arg {s : Sh} {sw : Int} {W : World} (hc : MsC W s sw) (hk : s.k ≤ 20) (n : Int) (hn : n < 1 ∨ two s.k < n) :
    Calls Tryz.prog 81 #[.pointer (some ⟨s.p, 0, none⟩), .int .i64 n] W fun e w' => ∃ ts E, e = .returned (.tuple #[.agg ts, E]) ∧ TyZ ts ∧ Refused W w' E 1 := by
  have HB := Lib.hid built_tyz
  have HS := Lib.hid tyz_f
  have HI := Lib.hid tyz_f.info
  have HG : Hid (∀ z : Array Value, (W.alloc (.cells z 64)).heap[W.heap.size]? = some (.cells z 64 (0, 0))) := fun z => obj_new _ _
  have c1 : ∀ ob : Obj, (W.alloc ob).cell? ⟨s.p, 1, none⟩ = some (.int .u8 s.k) := fun ob => keepc (balloc (Below.refl _ _) ob) hc.c1
  clear hc
  generalize tyz = cs at *
  by_cases h1 : n < 1
  · have d1 : decide (n < 1) = true := decide_eq_true h1
    clear hn h1
    go_enter Tryz.func81, Tryz.ntmps81
    go_wp2_with (first
      | (refine wpList_build0 rfl 64 rfl cs ?_ ?_; exact HB.out)
      | (go_at_call 75; refine (wrap_q _ _ _).mono ?_; rintro e w1 ⟨q, rfl, hr⟩; have HG1 := Lib.hid ((hr.below.block _ (by simp)).trans (HG.out _)); have HR := Lib.hid (Refused.box hr); clear hr)
      | (refine wpList_store_row rfl 64 (.tmp 4) (.tmp 23) rfl W.heap.size cs rfl rfl 64 _ HG1.out HI.out (by rw [HS.out.size]; rfl) HS.out.one ?_))
    exact bodyPost_ret (results_row_fault (p := 4) (u := 5) (by kernel_rfl) _ _ W.heap.size 64 cs (0, 0) _ _ rfl rfl (setRow_heap _ _ _ _ _ _ HG1.out) Tryz.underlying64 rfl HI.out) rfl ⟨cs, _, rfl, HS.out, HR.out.rowT (Nat.le_refl _) HG1.out (by decide) cs⟩
  · have h2 : two s.k < n := by omega
    have d1 : decide (n < 1) = false := decide_eq_false h1
    have d2 : decide (two s.k < n) = true := decide_eq_true h2
    clear hn h1 h2
    go_enter Tryz.func81, Tryz.ntmps81
    go_wp2_with (first
      | (refine wpList_build0 rfl 64 rfl cs ?_ ?_; exact HB.out)
      | (go_at_call 51; refine (slots_any s.k hk _).mono ?_; rintro e w0 ⟨rfl, hw⟩; have hb0 := slots_below hw; have HG0 := Lib.hid ((hb0.block _ (by simp)).trans (HG.out _)); have HB0 := Lib.hid (bthen (balloc (Below.refl _ W) _) hb0); clear hw hb0)
      | (go_at_call 75; refine (wrap_q _ _ _).mono ?_; rintro e w1 ⟨q, rfl, hr⟩; have HG1 := Lib.hid ((hr.below.block _ (lt_of_block HG0.out)).trans HG0.out); have HR := Lib.hid (hr.after HB0.out); clear hr)
      | (refine wpList_store_row rfl 64 (.tmp 4) (.tmp 23) rfl W.heap.size cs rfl rfl 64 _ HG1.out HI.out (by rw [HS.out.size]; rfl) HS.out.one ?_))
    exact bodyPost_ret (results_row_fault (p := 4) (u := 5) (by kernel_rfl) _ _ W.heap.size 64 cs (0, 0) _ _ rfl rfl (setRow_heap _ _ _ _ _ _ HG1.out) Tryz.underlying64 rfl HI.out) rfl ⟨cs, _, rfl, HS.out, HR.out.rowT (Nat.le_refl _) HG1.out (by decide) cs⟩
set_option maxHeartbeats 1000000 in
set_option maxRecDepth 100000 in
theorem mtry_ok {s : Sh} {sw : Int} {W : World} (hc : MsC W s sw) (hk : s.k ≤ 20) (n : Int) (h1 : 1 ≤ n) (h2 : n ≤ two s.k) :
    Calls Tryz.prog 81 #[.pointer (some ⟨s.p, 0, none⟩), .int .i64 n] W fun e w' => ∃ ts, e = .returned (.tuple #[.agg ts, .nilIface]) ∧ TyF ts s.p (tr0 n) ∧ Below W.heap.size W w' := by
  have HG : Hid (∀ z : Array Value, (W.alloc (.cells z 64)).heap[W.heap.size]? = some (.cells z 64 (0, 0))) := fun z => obj_new _ _
  have c1 : ∀ ob : Obj, (W.alloc ob).cell? ⟨s.p, 1, none⟩ = some (.int .u8 s.k) := fun ob => keepc (balloc (Below.refl _ _) ob) hc.c1
  have d1 : decide (n < 1) = false := decide_eq_false (by omega)
  have d2 : decide (two s.k < n) = false := decide_eq_false (by omega)
  clear hc h1 h2
  go_enter Tryz.func81, Tryz.ntmps81
  go_wp2_with (first
    | (go_at_call 51; refine (slots_any s.k hk _).mono ?_; rintro e w0 ⟨rfl, hw⟩; have hb0 := slots_below hw; have HG0 := Lib.hid ((hb0.block _ (by simp)).trans (HG.out _)); have HB0 := Lib.hid (bthen (balloc (Below.refl _ W) _) hb0); clear hw hb0)
    | (go_at_call 124; refine (manew _ _ _).mono ?_; rintro e w1 ⟨cs, rfl, hS, hb⟩; have HG1 := Lib.hid ((hb.block _ (lt_of_block HG0.out)).trans HG0.out); have HS := Lib.hid hS; have HI := Lib.hid hS.info; have HB1 := Lib.hid (bthen HB0.out hb); clear hS hb)
    | (refine wpList_store_row rfl 64 (.tmp 4) (.tmp 29) rfl W.heap.size cs rfl rfl 64 _ HG1.out HI.out (by rw [HS.out.size]; rfl) HS.out.one ?_))
  exact bodyPost_ret (results_row_fault (p := 4) (u := 5) (by kernel_rfl) _ _ W.heap.size 64 cs (0, 0) _ _ rfl rfl (setRow_heap _ _ _ _ _ _ HG1.out) Tryz.underlying64 rfl HI.out) rfl ⟨cs, rfl, HS.out, bsetRow HB1.out (Nat.le_refl _) cs⟩
end Go.Proofs.YtdfcfdcekdmcmaaGreat
namespace Go.Proofs.YtdfcfdcekdmcmaaGreat
open Go.RowKit
theorem quiet_load_mid {P : Program} {C : World → Prop} {K : Act → Prop} {a : Act} {o : Oper} (ty : TypeId) (x : Operand) (ho : o.op = .load ty x)
    (g f : Nat) (hx : a.eval x = .pointer (some ⟨g, f, none⟩)) (cs : List Value) (d : TypeDesc) (hg : ∀ w, C w → w.rangeAt g f cs)
    (hu : P.underlying ty = some d) (hd : d.isRow = true) (hi : (P.info? ty).map (·.size) = some cs.length)
    (hk : K (a.put o.dst (.agg cs.toArray))) : o.quiet P a C K := by
  refine ⟨.agg cs.toArray, fun w hw => ?_, hk⟩
  unfold Oper.quietAt execOp
  simp only [ho, hx, Instr.loadAt, Instr.sureAddr, Sem.run_bind, Sem.run_pure, Result.andThen_ok, run_loadVar_mid w g f ty cs d (hg w hw) hu hd hi]
  exact ⟨rfl, rfl⟩
theorem TyF.sl {ts : Array Value} {p : Nat} {t : Tr} (h : TyF ts p t) : ∃ sl : List Value, Sc sl.toArray t.ids t.seen t.least ∧ sl.length = 35 ∧ ∀ (W : World) (b : Nat) (T : TypeId) (m : Nat × Nat), W.heap[b]? = some (.cells ts T m) → W.rangeAt b 5 sl := by
  refine ⟨(ts.extract 5 (5 + 35)).toList, ?_, ?_, fun W b T m hb => World.rangeAt_of_block hb 5 35⟩
  · rw [Array.toArray_toList]
    exact h.sc
  · have := h.size
    simp
    omega
theorem sl_info {sl : List Value} (h : sl.length = 35) : (Tryz.prog.info? 58).map (·.size) = some sl.length := by
  rw [h]
  kernel_rfl
def judgeT (N : Int) (t : Tr) : Tr := if t.seen < t.ids.length then { t with stg := 3 } else if t.last - N ≤ t.least then { t with stg := 4 } else { t with stg := 7 }
structure Two (W w : World) (b : Nat) (ts zs : Array Value) : Prop where
  t : w.heap[b]? = some (.cells ts 64 (0, 0))
  r : w.heap[b + 1]? = some (.cells zs 64 (0, 0))
  z : zs.size = 40
  low : Below W.heap.size W w
  le : W.heap.size ≤ b
theorem Two.keep {W w w' : World} {b : Nat} {ts zs : Array Value} (h : Two W w b ts zs) (hb : Below w.heap.size w w') : Two W w' b ts zs := ⟨(hb.block _ (lt_of_block h.t)).trans h.t, (hb.block _ (lt_of_block h.r)).trans h.r, h.z, bthen h.low hb, h.le⟩
theorem Two.start (W : World) (ts zs : Array Value) (hz : zs.size = 40) : Two W ((W.alloc (.cells ts 64)).alloc (.cells zs 64)) W.heap.size ts zs := by
  refine ⟨obj_old _ (obj_new _ _), ?_, hz, balloc (balloc (Below.refl _ _) _) _, Nat.le_refl _⟩
  have := obj_new (W.alloc (.cells ts 64)) (.cells zs 64)
  simpa using this
theorem Two.cell {W w : World} {b : Nat} {ts zs : Array Value} (h : Two W w b ts zs) (i : Nat) : w.cell? ⟨b, i, none⟩ = ts[i]? := obj_cell h.t i
theorem Two.free {W w : World} {b : Nat} {ts zs : Array Value} (h : Two W w b ts zs) (i : Nat) : w.frozen? ⟨b, i, none⟩ = false := obj_free h.t i
theorem Two.set {W w : World} {b : Nat} {ts zs : Array Value} (h : Two W w b ts zs) (i : Nat) (v : Value) : Two W (w.setCell ⟨b, i, none⟩ v) b (ts.setIfInBounds i v) zs :=
  ⟨obj_setCell _ h.t, (heap_setCell_other _ ⟨b, i, none⟩ _ _ (by simp)).trans h.r, h.z, h.low.setCell (p := ⟨b, i, none⟩) h.le _, h.le⟩
theorem Two.out {W w : World} {b : Nat} {ts zs : Array Value} (h : Two W w b ts zs) (cs : Array Value) : (w.setRow (b + 1) cs).heap[b + 1]? = some (.cells cs 64 (0, 0)) ∧ Below W.heap.size W (w.setRow (b + 1) cs) :=
  ⟨setRow_heap _ _ _ _ _ _ h.r, bsetRow h.low (by have := h.le; omega) cs⟩
set_option maxHeartbeats 2000000 in
set_option maxRecDepth 100000 in
theorem tjudge {ts : Array Value} {s : Sh} {sw : Int} {t : Tr} {W : World} (h : TyF ts s.p t) (hc : MsC W s sw) (hk : s.k ≤ 20) (h0 : -4611686018427387905 ≤ t.last) (h1 : t.last ≤ 4611686018427387904) :
    Calls Tryz.prog 166 #[.agg ts] W fun e w' => ∃ ts', e = .returned (.agg ts') ∧ TyF ts' s.p (judgeT (two s.k) t) ∧ Below W.heap.size W w' := by
  obtain ⟨sl, hs1, hs2, hs3⟩ := h.sl
  have HS := Lib.hid hs1
  have HR := Lib.hid hs3
  have HI := Lib.hid (sl_info hs2)
  have HC := Lib.hid hc
  have HT := Lib.hid h
  have HTI := Lib.hid h.info
  have H0 : Hid (∀ zs : Array Value, zs.size = 40 → Two W ((W.alloc (.cells ts 64)).alloc (.cells zs 64)) W.heap.size ts zs) := fun zs hz => Two.start W ts zs hz
  clear h hc hs1 hs2 hs3
  by_cases hd : t.seen < t.ids.length
  · have HJ : Hid (judgeT (two s.k) t = { t with stg := 3 }) := Lib.hid (by unfold judgeT; rw [if_pos hd])
    have HT3 := Lib.hid (HT.out.stg 3)
    have HTI3 := Lib.hid HT3.out.info
    have hdd : decide (t.ids.length ≤ t.seen) = false := decide_eq_false (by omega)
    clear hd
    go_enter Tryz.func166, Tryz.ntmps166
    go_wp2_with (first
      | (refine wpList_load_mid rfl 58 (.tmp 5) rfl W.heap.size 5 rfl sl _ (HR.out _ _ _ _ (H0.out _ rfl).t) Tryz.underlying58 rfl HI.out ?_)
      | (go_at_call 130; refine (sdone HS.out _).mono ?_; rintro e w1 ⟨rfl, hb⟩; rw [hdd]; have H1 := Lib.hid ((H0.out _ rfl).keep hb); have c2 := ((H1.out.cell 2).trans HT.out.c2); have f2 := H1.out.free 2; clear hb)
      | (refine wpList_load_row rfl 64 (.tmp 1) rfl W.heap.size rfl 64 _ (0, 0) _ (H1.out.set 2 (.int .i64 3)).t Tryz.underlying64 rfl HTI3.out ?_)
      | (refine wpList_store_row rfl 64 (.tmp 2) (.tmp 20) rfl (W.heap.size + 1) _ rfl rfl 64 _ (H1.out.set 2 (.int .i64 3)).r HTI3.out (by rw [HT3.out.size]; rfl) HT3.out.one ?_))
    rw [HJ.out]
    exact bodyPost_ret (results_row (p := 2) (by kernel_rfl) _ _ (W.heap.size + 1) 64 _ _ rfl ((H1.out.set 2 (.int .i64 3)).out _).1 Tryz.underlying64 rfl HTI3.out) rfl ⟨_, rfl, HT3.out, ((H1.out.set 2 (.int .i64 3)).out _).2⟩
  · have hdd : decide (t.ids.length ≤ t.seen) = true := decide_eq_true (by omega)
    by_cases he : t.last - two s.k ≤ t.least
    · have HJ : Hid (judgeT (two s.k) t = { t with stg := 4 }) := Lib.hid (by unfold judgeT; rw [if_neg hd, if_pos he])
      have HT3 := Lib.hid (HT.out.stg 4)
      have HTI3 := Lib.hid HT3.out.info
      have hde : decide (t.last - two s.k ≤ t.least) = true := decide_eq_true he
      clear hd he
      go_enter Tryz.func166, Tryz.ntmps166
      go_wp2_with (first
        | (refine wpList_load_mid rfl 58 (.tmp 5) rfl W.heap.size 5 rfl sl _ (HR.out _ _ _ _ (H0.out _ rfl).t) Tryz.underlying58 rfl HI.out ?_)
        | (go_at_call 130; refine (sdone HS.out _).mono ?_; rintro e w1 ⟨rfl, hb⟩; rw [hdd]; have H1 := Lib.hid ((H0.out _ rfl).keep hb); clear hb))
      obtain ⟨zs, hzs⟩ : ∃ zs : Array Value, Two W w1 W.heap.size ts zs := ⟨_, H1.out⟩
      have HZ := Lib.hid hzs
      clear H1 hzs
      have n0 : ∀ x : Later w1, x.to.cell? ⟨W.heap.size, 0, none⟩ = some (.pointer (some ⟨s.p, 0, none⟩)) := fun x => ((HZ.out.keep x.below).cell 0).trans HT.out.c0
      have n4 : ∀ x : Later w1, x.to.cell? ⟨W.heap.size, 4, none⟩ = some (.int .i64 t.last) := fun x => ((HZ.out.keep x.below).cell 4).trans HT.out.c4
      have HLD : Hid (∀ w', (∃ x : Later w1, w' = x.to) → w'.rangeAt W.heap.size 5 sl) := by
        rintro _ ⟨x, rfl⟩
        exact HR.out _ _ _ _ (HZ.out.keep x.below).t
      have HSL : Hid (∀ x : Later w1, Calls Tryz.prog 131 #[.agg sl.toArray] x.to fun e w'' => e = .returned (.int .i64 t.least) ∧ ∃ y : Later w1, w'' = y.to) := fun x => (sleast HS.out _).mono fun e w h => ⟨h.1, ⟨w, bthen x.below h.2⟩, rfl⟩
      have HEN : Hid (∀ x : Later w1, Calls Tryz.prog 165 #[.pointer (some ⟨s.p, 0, none⟩), .int .i64 t.least, .int .i64 t.last] x.to fun e w'' => e = .returned (.bool true) ∧ ∃ y : Later w1, w'' = y.to) := fun x => (menough (HC.out.later (bthen HZ.out.low x.below)) hk _ _ h0 h1).mono fun e w h => ⟨by rw [h.1, hde], ⟨w, bthen x.below h.2⟩, rfl⟩
      clear hde
      refine wp_region_later (by kernel_rfl) (by kernel_rfl) ?_
      repeat (first
        | (go_big_quiet_want; refine quiet_load_mid 58 (.tmp 13) rfl W.heap.size 5 rfl sl _ HLD.out Tryz.underlying58 rfl HI.out ?_; go_big_quiet_on; go_frame)
        | go_big_quiet_step ((first
          | (go_at_call 131; exact HSL.out _)
          | (go_at_call 165; exact HEN.out _))))
      refine wpQuiet_nil ?_
      intro w2 hw'
      obtain ⟨⟨w2', hb2⟩, hw2⟩ := hw'
      obtain rfl : w2 = w2' := hw2
      have H2 := Lib.hid (HZ.out.keep hb2)
      have c2 := (H2.out.cell 2).trans HT.out.c2
      have f2 := H2.out.free 2
      clear n0 n4 hb2
      go_wp2_with (first
        | (refine wpList_load_row rfl 64 (.tmp 1) rfl W.heap.size rfl 64 _ (0, 0) _ (H2.out.set 2 (.int .i64 4)).t Tryz.underlying64 rfl HTI3.out ?_)
        | (refine wpList_store_row rfl 64 (.tmp 2) (.tmp 20) rfl (W.heap.size + 1) _ rfl rfl 64 _ (H2.out.set 2 (.int .i64 4)).r HTI3.out (by rw [HT3.out.size]; exact H2.out.z) HT3.out.one ?_))
      rw [HJ.out]
      exact bodyPost_ret (results_row (p := 2) (by kernel_rfl) _ _ (W.heap.size + 1) 64 _ _ rfl ((H2.out.set 2 (.int .i64 4)).out _).1 Tryz.underlying64 rfl HTI3.out) rfl ⟨_, rfl, HT3.out, ((H2.out.set 2 (.int .i64 4)).out _).2⟩
    · have HJ : Hid (judgeT (two s.k) t = { t with stg := 7 }) := Lib.hid (by unfold judgeT; rw [if_neg hd, if_neg he])
      have HT3 := Lib.hid (HT.out.stg 7)
      have HTI3 := Lib.hid HT3.out.info
      have hde : decide (t.last - two s.k ≤ t.least) = false := decide_eq_false he
      clear hd he
      go_enter Tryz.func166, Tryz.ntmps166
      go_wp2_with (first
        | (refine wpList_load_mid rfl 58 (.tmp 5) rfl W.heap.size 5 rfl sl _ (HR.out _ _ _ _ (H0.out _ rfl).t) Tryz.underlying58 rfl HI.out ?_)
        | (go_at_call 130; refine (sdone HS.out _).mono ?_; rintro e w1 ⟨rfl, hb⟩; rw [hdd]; have H1 := Lib.hid ((H0.out _ rfl).keep hb); clear hb))
      obtain ⟨zs, hzs⟩ : ∃ zs : Array Value, Two W w1 W.heap.size ts zs := ⟨_, H1.out⟩
      have HZ := Lib.hid hzs
      clear H1 hzs
      have n0 : ∀ x : Later w1, x.to.cell? ⟨W.heap.size, 0, none⟩ = some (.pointer (some ⟨s.p, 0, none⟩)) := fun x => ((HZ.out.keep x.below).cell 0).trans HT.out.c0
      have n4 : ∀ x : Later w1, x.to.cell? ⟨W.heap.size, 4, none⟩ = some (.int .i64 t.last) := fun x => ((HZ.out.keep x.below).cell 4).trans HT.out.c4
      have HLD : Hid (∀ w', (∃ x : Later w1, w' = x.to) → w'.rangeAt W.heap.size 5 sl) := by
        rintro _ ⟨x, rfl⟩
        exact HR.out _ _ _ _ (HZ.out.keep x.below).t
      have HSL : Hid (∀ x : Later w1, Calls Tryz.prog 131 #[.agg sl.toArray] x.to fun e w'' => e = .returned (.int .i64 t.least) ∧ ∃ y : Later w1, w'' = y.to) := fun x => (sleast HS.out _).mono fun e w h => ⟨h.1, ⟨w, bthen x.below h.2⟩, rfl⟩
      have HEN : Hid (∀ x : Later w1, Calls Tryz.prog 165 #[.pointer (some ⟨s.p, 0, none⟩), .int .i64 t.least, .int .i64 t.last] x.to fun e w'' => e = .returned (.bool false) ∧ ∃ y : Later w1, w'' = y.to) := fun x => (menough (HC.out.later (bthen HZ.out.low x.below)) hk _ _ h0 h1).mono fun e w h => ⟨by rw [h.1, hde], ⟨w, bthen x.below h.2⟩, rfl⟩
      clear hde
      refine wp_region_later (by kernel_rfl) (by kernel_rfl) ?_
      repeat (first
        | (go_big_quiet_want; refine quiet_load_mid 58 (.tmp 13) rfl W.heap.size 5 rfl sl _ HLD.out Tryz.underlying58 rfl HI.out ?_; go_big_quiet_on; go_frame)
        | go_big_quiet_step ((first
          | (go_at_call 131; exact HSL.out _)
          | (go_at_call 165; exact HEN.out _))))
      refine wpQuiet_nil ?_
      intro w2 hw'
      obtain ⟨⟨w2', hb2⟩, hw2⟩ := hw'
      obtain rfl : w2 = w2' := hw2
      have H2 := Lib.hid (HZ.out.keep hb2)
      have c2 := (H2.out.cell 2).trans HT.out.c2
      have f2 := H2.out.free 2
      clear n0 n4 hb2
      go_wp2_with (first
        | (refine wpList_load_row rfl 64 (.tmp 1) rfl W.heap.size rfl 64 _ (0, 0) _ (H2.out.set 2 (.int .i64 7)).t Tryz.underlying64 rfl HTI3.out ?_)
        | (refine wpList_store_row rfl 64 (.tmp 2) (.tmp 20) rfl (W.heap.size + 1) _ rfl rfl 64 _ (H2.out.set 2 (.int .i64 7)).r HTI3.out (by rw [HT3.out.size]; exact H2.out.z) HT3.out.one ?_))
      rw [HJ.out]
      exact bodyPost_ret (results_row (p := 2) (by kernel_rfl) _ _ (W.heap.size + 1) 64 _ _ rfl ((H2.out.set 2 (.int .i64 7)).out _).1 Tryz.underlying64 rfl HTI3.out) rfl ⟨_, rfl, HT3.out, ((H2.out.set 2 (.int .i64 7)).out _).2⟩
end Go.Proofs.YtdfcfdcekdmcmaaGreat
namespace Go.Proofs.YtdfcfdcekdmcmaaGreat
open Go.RowKit
theorem run_alloc_try (w : World) : (Instr.alloc 64 true (.tuple #[])).run Tryz.prog w = .ok (.pointer (some ⟨w.heap.size, 0, none⟩)) (w.alloc (.cells tyz 64)) := by kernel_rfl
theorem wpList_alloc_try {ops : Array Oper} {rest : List Oper} {o : Oper} {a : Act} {w : World} {Q : Exit → Act → World → Prop} (hg : o.guard = none) (ho : o.op = .alloc 64)
    (h : ∀ zs : Array Value, zs.size = 40 → wpList Tryz.prog ops Q rest (a.put o.dst (.pointer (some ⟨w.heap.size, 0, none⟩))) (w.alloc (.cells zs 64))) : wpList Tryz.prog ops Q (o :: rest) a w := by
  refine Great.wpList_runTo hg o.dst rfl _ _ ?_ (h tyz tyz_f.size)
  unfold execOp
  simp only [ho, Sem.run_bind, run_alloc_try, Result.andThen_ok, Sem.run_pure]
theorem Ms.prot_lt {R : Rest} {W0 W : World} {s : Sh} {ids xs : List Int} {sw st : Int} (h : Ms R W0 W s ids sw xs st) {k : Nat} (hk : R.prot k) : k < W.heap.size := by
  obtain ⟨cs, h1, h2, h3, v, _, _, _, _, _, h6⟩ := h
  exact (h6.1 k (.inl hk)).1
structure M2 (R : Rest) (W0 w : World) (s : Sh) (ids : List Int) (sw : Int) (xs : List Int) (st : Int) (b : Nat) (ts zs : Array Value) : Prop where
  ms : Ms ((R.and b ts 64).and (b + 1) zs 64) W0 w s ids sw xs st
  z : zs.size = 40
  low : W0.heap.size ≤ b
  np : ∀ k, R.prot k → k < b
set_option linter.unusedVariables false
section
variable {R : Rest} {W0 W w w' : World} {s : Sh} {ids xs : List Int} {sw st : Int} {b : Nat} {ts zs : Array Value}
theorem M2.start (h : Ms R W0 W s ids sw xs st) (ts : Array Value) : ∀ zs : Array Value, zs.size = 40 → M2 R W0 ((W.alloc (.cells ts 64)).alloc (.cells zs 64)) s ids sw xs st W.heap.size ts zs := by
  intro zs hz
  have hT := Two.start W ts zs hz
  exact ⟨((h.keep hT.low).with hT.t (by decide) (by decide) (by decide)).with hT.r (by decide) (by decide) (by decide), hz, h.below.size, fun k hk => h.prot_lt hk⟩
theorem M2.t (h : M2 R W0 w s ids sw xs st b ts zs) : Blk w b ts 64 := h.ms.inv.1.2
theorem M2.r (h : M2 R W0 w s ids sw xs st b ts zs) : Blk w (b + 1) zs 64 := h.ms.inv.2
theorem M2.cell (h : M2 R W0 w s ids sw xs st b ts zs) (i : Nat) : w.cell? ⟨b, i, none⟩ = ts[i]? := obj_cell h.t i
theorem M2.free (h : M2 R W0 w s ids sw xs st b ts zs) (i : Nat) : w.frozen? ⟨b, i, none⟩ = false := obj_free h.t i
theorem M2.keep (h : M2 R W0 w s ids sw xs st b ts zs) (hb : Below w.heap.size w w') : M2 R W0 w' s ids sw xs st b ts zs := ⟨h.ms.keep hb, h.z, h.low, h.np⟩
theorem M2.turn {ts' : Array Value} (h : M2 R W0 w s ids sw xs st b ts zs) (hf : Frm (fun k => k = b) w w') (hb : Blk w' b ts' 64) : M2 R W0 w' s ids sw xs st b ts' zs := by
  have hr := h.r
  have ht := h.t
  refine ⟨h.ms.turn hf (fun g o ho e => ?_) (fun g hg => ?_) ⟨⟨?_, hb⟩, hf.obj hr (by omega)⟩, h.z, h.low, h.np⟩
  · subst e
    rw [ht] at ho
    cases ho
    exact ⟨h.low, _, _, _, rfl, by decide, by decide, by decide, by decide⟩
  · exact .inl hg
  · exact R.ok _ _ h.ms.inv.1.1 fun k hk => hf.block k (Nat.lt_trans (h.np k hk) (lt_of_block ht)) (by have := h.np k hk; omega)
theorem M2.set (h : M2 R W0 w s ids sw xs st b ts zs) (i : Nat) (v : Value) : M2 R W0 (w.setCell ⟨b, i, none⟩ v) s ids sw xs st b (ts.setIfInBounds i v) zs :=
  h.turn ((Frm.refl (fun k => k = b) w).setCell (p := ⟨b, i, none⟩) rfl v) (obj_setCell _ h.t)
theorem obj_setCells {b : Nat} {T : TypeId} {m : Nat × Nat} : ∀ (vs : List Value) (o : Nat) (w : World) (l : List Value), w.heap[b]? = some (.cells l.toArray T m) → o + vs.length ≤ l.length →
    (w.setCells b o vs).heap[b]? = some (.cells (l.take o ++ vs ++ l.drop (o + vs.length)).toArray T m)
  | [], o, w, l, h, _ => by simpa [World.setCells] using h
  | v :: vs, o, w, l, h, hl => by
    have h1 := obj_setCell (i := o) v h
    rw [List.setIfInBounds_toArray] at h1
    simp only [List.length_cons] at hl
    have h2 := obj_setCells vs (o + 1) _ _ h1 (by simp; omega)
    rw [World.setCells, h2]
    rw [List.drop_set_of_lt (by omega)]
    have e1 : (l.set o v).take (o + 1) = l.take o ++ [v] := by
      have hm : min o l.length = o := by omega
      rw [List.set_eq_take_append_cons_drop, if_pos (by omega), List.take_append]
      simp [hm, List.take_take]
    rw [e1]
    simp [Nat.add_assoc, Nat.add_comm 1]
theorem frm_setCells {b : Nat} : ∀ (vs : List Value) (o : Nat) (a w' : World), Frm (fun k => k = b) a w' → Frm (fun k => k = b) a (w'.setCells b o vs)
  | [], _, _, _, h => h
  | v :: vs, o, a, w, h => frm_setCells vs (o + 1) a _ (h.setCell (p := ⟨b, o, none⟩) rfl v)
theorem putSc_set {ts cs : Array Value} (h : ts.size = 40) (hc : cs.size = 35) : ts.toList.take 5 ++ cs.toList ++ ts.toList.drop (5 + cs.toList.length) = (putSc ts cs).toList := by
  have : ts.toList.drop (5 + cs.toList.length) = [] := List.drop_of_length_le (by simp; omega)
  rw [this]
  simp [putSc]
theorem M2.scan (h : M2 R W0 w s ids sw xs st b ts zs) {cs : Array Value} (hs : ts.size = 40) (hc : cs.size = 35) : M2 R W0 (w.setCells b 5 cs.toList) s ids sw xs st b (putSc ts cs) zs := by
  refine h.turn (frm_setCells _ 5 _ _ (Frm.refl _ _)) ?_
  have ht : w.heap[b]? = some (.cells ts.toList.toArray 64 (0, 0)) := by rw [Array.toArray_toList]; exact h.t
  have := obj_setCells cs.toList 5 w ts.toList ht (by simp; omega)
  rw [putSc_set hs hc, Array.toArray_toList] at this
  exact this
theorem M2.there (h : M2 R W0 w s ids sw xs st b ts zs) (hs : ts.size = 40) : w.there b 5 35 := by
  intro j hj
  refine ⟨?_, obj_free h.t _⟩
  rw [obj_cell h.t, Array.getElem?_eq_getElem (by omega)]
  rfl
theorem M2.out (h : M2 R W0 w s ids sw xs st b ts zs) (cs : Array Value) : (w.setRow (b + 1) cs).heap[b + 1]? = some (.cells cs 64 (0, 0)) ∧ Ms R W0 (w.setRow (b + 1) cs) s ids sw xs st := by
  have hr := h.r
  have hf : Frm (fun k => k = b + 1) w (w.setRow (b + 1) cs) := (Frm.refl (fun k => k = b + 1) w).setRow rfl cs
  refine ⟨setRow_heap _ _ _ _ _ _ hr, h.ms.turn hf (fun g o ho e => ?_) (fun g hg => .inl (.inl (.inl hg))) ?_⟩
  · subst e
    rw [hr] at ho
    cases ho
    exact ⟨by have := h.low; omega, _, _, _, rfl, by decide, by decide, by decide, by decide⟩
  · exact R.ok _ _ h.ms.inv.1.1 fun k hk => hf.block k (Nat.lt_trans (h.np k hk) (lt_of_block h.t)) (by have := h.np k hk; omega)
end
end Go.Proofs.YtdfcfdcekdmcmaaGreat
