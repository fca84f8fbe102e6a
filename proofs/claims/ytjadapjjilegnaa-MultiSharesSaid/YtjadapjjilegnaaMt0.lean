/-
  MultiTries: what holds at each act. No condition but those that each theorem names.
  MultiTries: both rows of claims, appended to and put into, beside the sequencers; what the law's whole loads and literals do, as equations for every world. No condition but those that each theorem names.
  MultiTries: a claim of the rows is read, and put back. No condition but those that each theorem names.
  MultiTries, kind 1: the document's Step amid a region that draws its order, any frame. No condition but those that each theorem names.
  MultiTries, kind 1: what was stepped is put back, in a region that draws its order, any frame. No condition but those that each theorem names.
-/
import Derived.Test.YtjadapjjilegnaaRel
import Derived.Test.YtjadapjjilegnaaHeld
import Derived.Test.YtjadapjjilegnaaAct
import Derived.Great.BuildSlice
import Derived.Deep.MidRow
namespace Go.Proofs.Ytjadapjjilegnaa
open Go.RowKit
set_option linter.unusedVariables false

/-- A claim that was begun: the code's cells and numbers, the document's. -/
structure Cl where
  ts : Array Value
  t : Tr
  n : Int
  g : Int
  d : Int
  h : Int
  l : Int
  a : Int
  o : Int
def Cl.ref (x : Cl) : Array Value := t10 x.n x.g x.d x.h x.l x.a x.o
/-- The cells of both rows. -/
def tsOf (L : List Cl) : List Value := (L.map fun x => x.ts.toList).flatten
def rfOf (L : List Cl) : List Value := (L.map fun x => x.ref.toList).flatten
/-- Both rows of claims. -/
def RT (B : Nat) (vl vw : Value) (L : List Cl) : Rest := (R0.row B 165 40 vl L.length (tsOf L)).row B 169 7 vw L.length (rfOf L)
structure ClOk (p K m : Nat) (x : Cl) : Prop where
  ty : TyF x.ts p x.t
  rel : RelT K m x.t x.n x.g x.d x.h x.l x.a x.o
  n1 : 1 ≤ x.n
  n2 : x.n ≤ 64
  l1 : -1 ≤ x.t.last
  l2 : x.t.last ≤ 2000000
theorem ClOk.more {p K m m' : Nat} {x : Cl} (h : ClOk p K m x) (hm : m ≤ m') : ClOk p K m' x := ⟨h.ty, h.rel.more hm, h.n1, h.n2, h.l1, h.l2⟩
/-- The plain numbers. -/
structure MtI (p : Nat) (c : Int) (sh gv : List Int) (L : List Cl) (st T : Int) (m : Nat) : Prop where
  g1 : ∀ x ∈ gv, -1 ≤ x
  g2 : ∀ x ∈ gv, x ≤ c
  gl : gv.length ≤ 20
  c0 : -1 ≤ c
  c2 : c ≤ 64 * m
  st0 : 0 ≤ st
  st1 : st ≤ T
  ll : L.length ≤ m
  cl : ∀ x ∈ L, ClOk p sh.length gv.length x
theorem MtI.least {p m : Nat} {c st T : Int} {sh gv : List Int} {L : List Cl} (h : MtI p c sh gv L st T m) : -1 ≤ leastP c gv := le_least.2 ⟨h.c0, h.g1⟩
theorem MtI.mono {p m m' : Nat} {c st T T' : Int} {sh gv : List Int} {L : List Cl} (h : MtI p c sh gv L st T m) (h1 : T ≤ T') (h2 : m ≤ m') : MtI p c sh gv L st T' m' :=
  ⟨h.g1, h.g2, h.gl, h.c0, by have := h.c2; omega, h.st0, by have := h.st1; omega, by have := h.ll; omega, h.cl⟩
theorem MtI.claim {p m : Nat} {N c sn st st' T T' x f c' sn' n : Int} {sh gv : List Int} {L : List Cl} (h : MtI p c sh gv L st T m) (hp : ClP N c sn n gv x f c' sn') (hk : N ≤ 64) (a1 : st ≤ st') (a2 : st' ≤ T') : MtI p c' sh gv L st' T' (m + 1) := by
  have h0 := h.c0
  have h2 := h.c2
  have hcc : c ≤ c' ∧ c' ≤ c + 64 := by
    rcases hp with ⟨hn, rfl, rfl, rfl, rfl⟩ | ⟨n1, n2, hok, rfl, rfl, rfl, rfl⟩ | ⟨n1, n2, hok, rfl, rfl, rfl, rfl⟩ <;> omega
  exact ⟨h.g1, fun y hy => by have := h.g2 y hy; omega, h.gl, by omega, by omega, by have := h.st0; omega, a2, by have := h.ll; omega, h.cl⟩
theorem MtI.held {p m : Nat} {c st st' T T' : Int} {sh gv gv' : List Int} {L : List Cl} (h : MtI p c sh gv L st T m) (hp : HeldP c gv gv') (a1 : st ≤ st') (a2 : st' ≤ T') : MtI p c sh gv' L st' T' (m + 1) := by
  have hl := hp.len
  have key : ∀ y ∈ gv', -1 ≤ y ∧ y ≤ c := by
    rcases hp with rfl | ⟨i, x, hi, rfl, hx1, hx2⟩
    · exact fun y hy => ⟨h.g1 y hy, h.g2 y hy⟩
    · intro y hy
      rcases List.mem_or_eq_of_mem_set hy with hy | rfl
      · exact ⟨h.g1 y hy, h.g2 y hy⟩
      · have hm : gv.getD i 0 ∈ gv := by
          rw [List.getD_eq_getElem?_getD, List.getElem?_eq_getElem hi]
          exact List.getElem_mem hi
        have := h.g1 _ hm
        have := h.c0
        omega
  exact ⟨fun y hy => (key y hy).1, fun y hy => (key y hy).2, by rw [hl]; exact h.gl, h.c0, by have := h.c2; omega, by have := h.st0; omega, a2, by have := h.ll; omega, fun x hx => (h.cl x hx).more (by omega)⟩
theorem MtI.more {p m : Nat} {c st T T' : Int} {sh gv : List Int} {L : List Cl} (h : MtI p c sh gv L st T m) (hg : gv.length < 20) (a2 : T ≤ T') : MtI p c sh (gv ++ [c]) L st T' (m + 1) := by
  refine ⟨fun y hy => ?_, fun y hy => ?_, by simp; omega, h.c0, by have := h.c2; omega, h.st0, by have := h.st1; omega, by have := h.ll; omega, fun x hx => (h.cl x hx).more (by simp)⟩
  · rcases List.mem_append.1 hy with hy | hy
    · exact h.g1 y hy
    · have := h.c0
      simp at hy
      omega
  · rcases List.mem_append.1 hy with hy | hy
    · exact h.g2 y hy
    · simp at hy
      omega
/-- All that is kept beside a rest. -/
def MTs (f : Rest → Rest) (W0 w : World) (s : Sh) (mb : Nat) (T : Int) (m : Nat) (vi vl vw : Value) : Prop :=
  ∃ c sn sh gv L sw st vg, Lv (RP (f (RT W0.heap.size vl vw L)) W0.heap.size mb (s10 (two s.k) c vg sn (.slice none 0 0)) vi (idsN sh.length gv.length) vg gv (.slice none 0 0) []) W0 w s c sn sh gv sw st ∧ MtI s.p c sh gv L st T m
theorem rt_l {W0 W : World} {s : Sh} {c sn sw st : Int} {sh gv : List Int} {mb : Nat} {bx : Array Value} {vi vg vs vl vw : Value} {il gl ss : List Int} {L : List Cl} (h : Lv (RP (RT W0.heap.size vl vw L) W0.heap.size mb bx vi il vg gl vs ss) W0 W s c sn sh gv sw st) : W.ownsRow W0.heap.size 165 40 vl L.length (tsOf L) := (lp_rest h).1.2.1
theorem rt_w {W0 W : World} {s : Sh} {c sn sw st : Int} {sh gv : List Int} {mb : Nat} {bx : Array Value} {vi vg vs vl vw : Value} {il gl ss : List Int} {L : List Cl} (h : Lv (RP (RT W0.heap.size vl vw L) W0.heap.size mb bx vi il vg gl vs ss) W0 W s c sn sh gv sw st) : W.ownsRow W0.heap.size 169 7 vw L.length (rfOf L) := (lp_rest h).2.1
end Go.Proofs.Ytjadapjjilegnaa
namespace Go.Proofs.Ytjadapjjilegnaa
open Go.RowKit
set_option linter.unusedVariables false

section
variable {R X : Rest} {B mb ob p : Nat} {T U : TypeId} {z n : Nat} {v : Value} {xs : List Value} {bx oc : Array Value} {vi vg vs : Value} {il gl ss : List Int}
theorem RP.rowOut : (RP (R.row B T z v n xs) B mb bx vi il vg gl vs ss).le ((RP R B mb bx vi il vg gl vs ss).row B T z v n xs) := Rest.rr.row.row.box.trans (Rest.rr.row.box.trans (Rest.rr.box.trans Rest.rb))
theorem RP.rowIn : ((RP R B mb bx vi il vg gl vs ss).row B T z v n xs).le (RP (R.row B T z v n xs) B mb bx vi il vg gl vs ss) := Rest.br.trans (Rest.rr.box.trans (Rest.rr.row.box.trans Rest.rr.row.row.box))
/-- Both rows. -/
def RT2 (B : Nat) (vl : Value) (nl : Nat) (ls : List Value) (vw : Value) (nw : Nat) (ws : List Value) : Rest := (R0.row B 165 40 vl nl ls).row B 169 7 vw nw ws
theorem rt_rt2 {vl vw : Value} {L : List Cl} : RT B vl vw L = RT2 B vl L.length (tsOf L) vw L.length (rfOf L) := rfl
end

section
variable {W0 W w : World} {s : Sh} {c sn sw st : Int} {sh gv : List Int} {mb ob : Nat} {bx oc : Array Value} {A : TypeId} {vi vg vs vl vw vl' vw' : Value} {il gl ss : List Int} {nl nw : Nat} {ls ws ys : List Value}
/-- The state at an act's region. -/
def Sr (W0 w : World) (s : Sh) (mb : Nat) (bx : Array Value) (c sn : Int) (sh gv : List Int) (sw st : Int) (vi : Value) (il : List Int) (vg : Value) (gl : List Int) (ob : Nat) (oc : Array Value) (vl : Value) (nl : Nat) (ls : List Value) (vw : Value) (nw : Nat) (ws : List Value) : Prop :=
  Lv (RP ((RT2 W0.heap.size vl nl ls vw nw ws).box W0.heap.size ob oc 162) W0.heap.size mb bx vi il vg gl (.slice none 0 0) []) W0 w s c sn sh gv sw st
theorem Sr.keep (h : Sr W0 W s mb bx c sn sh gv sw st vi il vg gl ob oc vl nl ls vw nw ws) (hb : Below W.heap.size W w) : Sr W0 w s mb bx c sn sh gv sw st vi il vg gl ob oc vl nl ls vw nw ws := Lv.keep h hb
theorem Sr.l (h : Sr W0 W s mb bx c sn sh gv sw st vi il vg gl ob oc vl nl ls vw nw ws) : W.ownsRow W0.heap.size 165 40 vl nl ls := (lp_rest h).1.1.2.1
theorem Sr.rw (h : Sr W0 W s mb bx c sn sh gv sw st vi il vg gl ob oc vl nl ls vw nw ws) : W.ownsRow W0.heap.size 169 7 vw nw ws := (lp_rest h).1.2.1
theorem Sr.l0 (h : Sr W0 W s mb bx c sn sh gv sw st vi il vg gl ob oc vl nl ls vw nw ws) : W.ownsRow 0 165 40 vl nl ls := row_base (Sr.l h) (Nat.zero_le _)
theorem Sr.w0 (h : Sr W0 W s mb bx c sn sh gv sw st vi il vg gl ob oc vl nl ls vw nw ws) : W.ownsRow 0 169 7 vw nw ws := row_base (Sr.rw h) (Nat.zero_le _)
theorem Sr.o (h : Sr W0 W s mb bx c sn sh gv sw st vi il vg gl ob oc vl nl ls vw nw ws) : W.heap[ob]? = some (.cells oc 162 (0, 0)) := (lp_rest h).2.1
theorem Sr.appW (h : Sr W0 W s mb bx c sn sh gv sw st vi il vg gl ob oc vl nl ls vw nw ws) {n' : Nat} (hown : w.ownsRow 0 169 7 vw' n' ys) (hf : Frm (fun k => vw.ownBlock = some k) W w) (hv : vw'.ownBlock = vw.ownBlock ∨ ∀ g, vw'.ownBlock = some g → W.heap.size ≤ g) :
    Sr W0 w s mb bx c sn sh gv sw st vi il vg gl ob oc vl nl ls vw' n' ys := by
  have h1 := h.le ((RP.mono Rest.rb).trans RP.rowOut)
  exact (h1.of_ms (h1.ms.app2 (by decide) hown hf hv)).le (RP.rowIn.trans (RP.mono Rest.br))
theorem Sr.appL (h : Sr W0 W s mb bx c sn sh gv sw st vi il vg gl ob oc vl nl ls vw nw ws) {n' : Nat} (hown : w.ownsRow 0 165 40 vl' n' ys) (hf : Frm (fun k => vl.ownBlock = some k) W w) (hv : vl'.ownBlock = vl.ownBlock ∨ ∀ g, vl'.ownBlock = some g → W.heap.size ≤ g) :
    Sr W0 w s mb bx c sn sh gv sw st vi il vg gl ob oc vl' n' ys vw nw ws := by
  have h1 := h.le ((RP.mono Rest.rr.box).trans ((RP.mono Rest.rb).trans RP.rowOut))
  exact (h1.of_ms (h1.ms.app2 (by decide) hown hf hv)).le (RP.rowIn.trans ((RP.mono Rest.br).trans (RP.mono Rest.rr.box)))
end

/-! A claim more -/
theorem tsOf_snoc (L : List Cl) (x : Cl) : tsOf (L ++ [x]) = tsOf L ++ x.ts.toList := by simp [tsOf]
theorem rfOf_snoc (L : List Cl) (x : Cl) : rfOf (L ++ [x]) = rfOf L ++ x.ref.toList := by simp [rfOf]
theorem MtI.snoc {p m m' : Nat} {c st T T' : Int} {sh gv : List Int} {L : List Cl} {x : Cl} (h : MtI p c sh gv L st T m) (hx : ClOk p sh.length gv.length x) (hm : m + 1 ≤ m') (hT : T ≤ T') : MtI p c sh gv (L ++ [x]) st T' m' :=
  ⟨h.g1, h.g2, h.gl, h.c0, by have := h.c2; omega, h.st0, by have := h.st1; omega, by have := h.ll; simp; omega, fun y hy => by
    rcases List.mem_append.1 hy with hy | hy
    · exact h.cl y hy
    · simp at hy
      exact hy ▸ hx⟩
theorem cl_new {p K m : Nat} {n : Int} {ts : Array Value} (hf : TyF ts p (tr0 n)) (h1 : 1 ≤ n) (h2 : n ≤ 64) : ClOk p K m ⟨ts, tr0 n, n, 0, 0, 0, 0, 0, 0⟩ :=
  ⟨hf, RelT.start K m n, h1, h2, by simp [tr0], by simp [tr0]⟩

/-! Equations for every world -/
section
variable {P : Program}
theorem run_loadAt_row (w : World) (g : Nat) (t ty : TypeId) (cs : Array Value) (fr : Nat × Nat) (d : TypeDesc) (hg : w.heap[g]? = some (.cells cs t fr))
    (hu : P.underlying ty = some d) (hd : (match d with | .struct _ | .array _ _ => true | _ => false) = true) (hi : (P.info? ty).map (·.size) = some cs.size) :
    (Instr.loadAt ty (.pointer (some ⟨g, 0, none⟩))).run P w = .ok (.agg cs) w := by
  simp only [Instr.loadAt, Instr.sureAddr, Sem.run_bind, Sem.run_pure, Result.andThen_ok, run_loadVar_row w g t ty cs fr d hg hu hd hi]
/-- A slice literal of one struct. -/
theorem run_slice1 (w : World) (t e : TypeId) (cs : Array Value) (k : Nat) (hk : cs.size = k) (hk0 : 0 < k) (hk1 : k ≤ 1000)
    (hu : P.underlying t = some (.slice e)) (hsz : (P.info? e).map (·.size) = some k) (hz : ((P.info? e).bind (·.zero)).isSome = true) :
    (Instr.buildSlice t 1 #[(0, .agg cs)]).run P w = .ok (.slice (some ⟨w.heap.size, 0, none⟩) 1 1) (w.alloc (.cells cs e)) := by
  cases hie : P.info? e with
  | none => simp [hie] at hsz
  | some ie =>
    simp only [hie, Option.map_some, Option.some.injEq, Option.bind_some] at hsz hz
    obtain ⟨z, hzz⟩ := Option.isSome_iff_exists.1 hz
    refine run_buildSlice w t e 1 _ cs ie z hu hie hzz (by rw [hsz]; omega) (by rw [hsz]; omega) ?_
    rw [hsz]
    have := Great.fill_whole (s := k) hk0 [.agg cs] ((Array.range (1 * k)).map (z.cells[· % z.cells.size]!)) (fun v hv => by simp at hv; subst hv; exact hk) (by simp)
    simpa [Value.cells] using this
end
section
variable {P : Program} {ops : Array Oper} {S : World → Prop} {op : Oper} {a : Act} {w : World} {K : Act → World → Prop} {Q : Exit → Act → World → Prop}
theorem yieldsIf_load_rowT (hw : Region.wanted op (yielded ops a.tmps) = true) (ty : TypeId) (x : Operand) (ho : op.op = .load ty x)
    (g : Nat) (hx : a.eval x = .pointer (some ⟨g, 0, none⟩)) (t : TypeId) (cs : Array Value) (fr : Nat × Nat) (d : TypeDesc) (hS : ∀ w, S w → w.heap[g]? = some (.cells cs t fr))
    (hu : P.underlying ty = some d) (hd : (match d with | .struct _ | .array _ _ => true | _ => false) = true) (hi : (P.info? ty).map (·.size) = some cs.size) : YieldsIf P ops S op (.agg cs) a :=
  .inl ⟨hw, fun w hw' => by
    unfold execOp
    simp only [ho, hx, run_loadAt_row w g t ty cs fr d (hS w hw') hu hd hi, Sem.run_bind, Result.andThen_ok, Sem.run_pure]⟩
/-- A slice literal of one struct, as an operation. -/
theorem wp_slice1 (t e : TypeId) (x : Operand) (ho : op.op = .buildSlice t 1 #[(0, x)]) (cs : Array Value) (hx : a.eval x = .agg cs)
    (hr : (Instr.buildSlice t 1 #[(0, .agg cs)]).run P w = .ok (.slice (some ⟨w.heap.size, 0, none⟩) 1 1) (w.alloc (.cells cs e)))
    (h : K (a.put op.dst (.slice (some ⟨w.heap.size, 0, none⟩) 1 1)) (w.alloc (.cells cs e))) : op.wp P a w K Q := by
  unfold Oper.wp execOp
  have e1 : ((#[(0, x)] : Array (Nat × Operand)).map fun (i, x) => (i, a.eval x)) = #[(0, .agg cs)] := by simp [hx]
  simp only [ho, e1, hr, Sem.run_bind, Result.andThen_ok, Sem.run_pure]
  exact h
end
theorem newsB {w : World} {g : Nat} {cs : Array Value} {t : TypeId} {m : Nat × Nat} (h : w.heap[g]? = some (.cells cs t m)) : ∀ j u, cs.toList[j]? = some u → w.cell? ((⟨g, 0, none⟩ : Addr).add j) = some u := by
  intro j u hj
  rw [Addr.add_mid, obj_cell h]
  simpa using hj
theorem ty_info : (Try.prog.info? 165).map (fun i => (i.zero.map (·.cells.size), i.size, i.bytes)) = some (some 40, 40, 320) := by kernel_rfl
theorem rt_info : (Try.prog.info? 169).map (fun i => (i.zero.map (·.cells.size), i.size, i.bytes)) = some (some 7, 7, 56) := by kernel_rfl
theorem ty_lit (ts : Array Value) (h : ts.size = 40) (w : World) : (Instr.buildSlice 159 1 #[(0, .agg ts)]).run Try.prog w = .ok (.slice (some ⟨w.heap.size, 0, none⟩) 1 1) (w.alloc (.cells ts 165)) :=
  run_slice1 w _ _ ts 40 h (by decide) (by decide) Try.underlying159 (by kernel_rfl) (by kernel_rfl)
theorem rt_lit (ts : Array Value) (h : ts.size = 7) (w : World) : (Instr.buildSlice 160 1 #[(0, .agg ts)]).run Try.prog w = .ok (.slice (some ⟨w.heap.size, 0, none⟩) 1 1) (w.alloc (.cells ts 169)) :=
  run_slice1 w _ _ ts 7 h (by decide) (by decide) Try.underlying160 (by kernel_rfl) (by kernel_rfl)
/-- Facts of a type, by its parts. -/
theorem info_parts3 {P : Program} {e : TypeId} {a b c : Nat} (h : (P.info? e).map (fun i => (i.zero.map (·.cells.size), i.size, i.bytes)) = some (some a, b, c)) : ∃ i z, P.info? e = some i ∧ i.zero = some z ∧ z.cells.size = a ∧ i.size = b ∧ i.bytes = c := by
  cases hi : P.info? e with
  | none => simp [hi] at h
  | some i =>
    simp only [hi, Option.map_some, Option.some.injEq, Prod.mk.injEq] at h
    obtain ⟨h1, h2, h3⟩ := h
    obtain ⟨z, hz, h4⟩ := Option.map_eq_some_iff.1 h1
    exact ⟨i, z, rfl, hz, h4, h2, h3⟩
end Go.Proofs.Ytjadapjjilegnaa
namespace Go.Proofs.Ytjadapjjilegnaa
open Go.RowKit
set_option linter.unusedVariables false

theorem row_slice2 {w : World} {base size n : Nat} {e : TypeId} {v : Value} {xs : List Value} (h : w.ownsRow base e size v n xs) (hn : 0 < n) : ∃ g cap, v = .slice (some ⟨g, 0, none⟩) n cap := by
  rcases h.2 with ⟨_, rfl⟩ | ⟨g, cap, cur, rfl, _⟩
  · omega
  · exact ⟨g, cap, rfl⟩
section
variable {W0 W : World} {s : Sh} {c sn sw st : Int} {sh gv : List Int} {mb ob : Nat} {bx oc : Array Value} {A : TypeId} {vi vg vs vl vw : Value} {il gl ss : List Int} {L : List Cl}
theorem rt_lb (h : Lv (RP ((RT W0.heap.size vl vw L).box W0.heap.size ob oc A) W0.heap.size mb bx vi il vg gl vs ss) W0 W s c sn sh gv sw st) : W.ownsRow W0.heap.size 165 40 vl L.length (tsOf L) := (lp_rest h).1.1.2.1
theorem rt_wb (h : Lv (RP ((RT W0.heap.size vl vw L).box W0.heap.size ob oc A) W0.heap.size mb bx vi il vg gl vs ss) W0 W s c sn sh gv sw st) : W.ownsRow W0.heap.size 169 7 vw L.length (rfOf L) := (lp_rest h).1.2.1
end
/-! Rows of structs of one size, as cells -/
theorem flat_len {α : Type} (f : α → List Value) (k : Nat) : ∀ (L : List α), (∀ x ∈ L, (f x).length = k) → ((L.map f).flatten).length = L.length * k
  | [], _ => by simp
  | x :: L, h => by
    simp only [List.map_cons, List.flatten_cons, List.length_append, List.length_cons]
    rw [flat_len f k L fun y hy => h y (List.mem_cons_of_mem _ hy), h x (by simp), Nat.add_mul]
    omega
theorem flat_at {α : Type} (f : α → List Value) (k : Nat) : ∀ (L : List α) (j : Nat) (x : α), (∀ x ∈ L, (f x).length = k) → L[j]? = some x → ∀ i, i < k → ((L.map f).flatten)[j * k + i]? = (f x)[i]?
  | [], j, x, _, hx, _, _ => by simp at hx
  | y :: L, 0, x, h, hx, i, hi => by
    simp only [List.getElem?_cons_zero, Option.some.injEq] at hx
    subst hx
    simp only [List.map_cons, List.flatten_cons, Nat.zero_mul, Nat.zero_add]
    rw [List.getElem?_append_left (by rw [h y (by simp)]; exact hi)]
  | y :: L, j + 1, x, h, hx, i, hi => by
    simp only [List.getElem?_cons_succ] at hx
    simp only [List.map_cons, List.flatten_cons]
    have hy := h y (by simp)
    rw [List.getElem?_append_right (by rw [hy, Nat.add_mul]; omega), hy, show (j + 1) * k + i - k = j * k + i by rw [Nat.add_mul]; omega]
    exact flat_at f k L j x (fun z hz => h z (List.mem_cons_of_mem _ hz)) hx i hi
theorem flat_put {α : Type} (f : α → List Value) (k : Nat) (x' : α) (hk : (f x').length = k) : ∀ (L : List α) (j : Nat), (∀ x ∈ L, (f x).length = k) → j < L.length →
    ((L.map f).flatten).take (j * k) ++ f x' ++ ((L.map f).flatten).drop (j * k + k) = ((L.set j x').map f).flatten
  | [], j, _, hj => by simp at hj
  | y :: L, 0, h, _ => by
    have hy := h y (by simp)
    simp only [List.map_cons, List.flatten_cons, Nat.zero_mul, List.take_zero, List.nil_append, Nat.zero_add, List.set_cons_zero]
    rw [List.drop_append_of_le_length (by omega), List.drop_of_length_le (by omega), List.nil_append]
  | y :: L, j + 1, h, hj => by
    have hy := h y (by simp)
    have ih := flat_put f k x' hk L j (fun z hz => h z (List.mem_cons_of_mem _ hz)) (by simpa using hj)
    simp only [List.map_cons, List.flatten_cons, List.set_cons_succ]
    rw [← ih, show (j + 1) * k = k + j * k by rw [Nat.add_mul]; omega, show k + j * k + k = k + (j * k + k) by omega, ← hy]
    rw [List.take_length_add_append, List.drop_length_add_append]
    simp [List.append_assoc]
/-- A struct of a row, read. -/
theorem row_range {w : World} {base k n cap b j : Nat} {e : TypeId} {α : Type} {f : α → List Value} {L : List α} {x : α} (h : w.ownsRow base e k (.slice (some ⟨b, 0, none⟩) n cap) n ((L.map f).flatten)) (hf : ∀ x ∈ L, (f x).length = k) (hx : L[j]? = some x) : w.rangeAt b (j * k) (f x) := by
  intro i v hv
  have hi : i < k := by
    rw [← hf x (List.mem_of_getElem? hx)]
    exact (List.getElem?_eq_some_iff.1 hv).1
  have := h.cells (g := b) rfl (j * k + i) v (by rw [flat_at f k L j x hf hx i hi]; exact hv)
  rwa [Addr.add_mid, Nat.zero_add] at this
/-- A struct of a row, put. -/
theorem row_puts {w : World} {base k n cap b j : Nat} {e : TypeId} {α : Type} {f : α → List Value} {L : List α} {x' : α} (h : w.ownsRow base e k (.slice (some ⟨b, 0, none⟩) n cap) n ((L.map f).flatten)) (hf : ∀ x ∈ L, (f x).length = k) (hk : (f x').length = k) (hn : L.length = n) (hj : j < n) :
    (w.setCells b (j * k) (f x')).ownsRow base e k (.slice (some ⟨b, 0, none⟩) n cap) n (((L.set j x').map f).flatten) := by
  obtain ⟨h1, h2⟩ := h
  have hj1 : (j + 1) * k ≤ n * k := Nat.mul_le_mul_right k hj
  rw [Nat.add_mul, Nat.one_mul] at hj1
  refine ⟨?_, ?_⟩
  · rw [flat_len f k _ (fun x hx => ?_), List.length_set, hn]
    rcases List.mem_or_eq_of_mem_set hx with hx | rfl
    · exact hf x hx
    · exact hk
  · rcases h2 with ⟨h2, _⟩ | ⟨g, c, cur, he, hg, hh, i1, i2, i3, i4⟩
    · cases h2
    · simp only [Value.slice.injEq, Option.some.injEq, Addr.mk.injEq] at he
      obtain ⟨⟨rfl, -⟩, -, rfl⟩ := he
      have hcap : n * k ≤ cap * k := Nat.mul_le_mul_right k i1
      have hcl : cur.toList.length = cap * k := by simpa using i3
      have hs := obj_setCells (f x') (j * k) w cur.toList (by simpa using hh) (by rw [hk, hcl]; omega)
      refine .inr ⟨b, cap, _, rfl, hg, hs, i1, i2, ?_, ?_⟩
      · simp only [List.size_toArray, List.length_append, List.length_take, List.length_drop, hk, hcl]
        omega
      · rw [← flat_put f k x' hk L j hf (by omega)]
        rw [← i4]
        have e1 : (j * k) ≤ cur.toList.length := by omega
        rw [List.take_append, List.take_append]
        simp only [List.length_append, List.length_take, hk, hcl]
        rw [show min (j * k) (cap * k) = j * k by omega]
        rw [List.take_take, show min (n * k) (j * k) = j * k by omega, List.take_take, show min (j * k) (n * k) = j * k by omega]
        rw [List.take_of_length_le (l := f x') (by omega)]
        congr 1
        rw [List.drop_take]
theorem there_row {w : World} {base k n cap b j : Nat} {e : TypeId} {xs : List Value} (h : w.ownsRow base e k (.slice (some ⟨b, 0, none⟩) n cap) n xs) (hj : j < n) : w.there b (j * k) k := by
  obtain ⟨h1, h2⟩ := h
  have hj1 : (j + 1) * k ≤ n * k := Nat.mul_le_mul_right k hj
  rw [Nat.add_mul, Nat.one_mul] at hj1
  rcases h2 with ⟨h2, _⟩ | ⟨g, c, cur, he, hg, hh, i1, i2, i3, i4⟩
  · cases h2
  · simp only [Value.slice.injEq, Option.some.injEq, Addr.mk.injEq] at he
    obtain ⟨⟨rfl, -⟩, -, rfl⟩ := he
    have hcap : n * k ≤ cap * k := Nat.mul_le_mul_right k i1
    intro i hi
    refine ⟨?_, obj_free hh _⟩
    rw [obj_cell hh, Array.getElem?_eq_getElem (by omega)]
    rfl
/-! Operations that turn something, in a region that draws its order -/
section
variable {P : Program} {op : Oper} {a : Act} {w : World} {K : Act → World → Prop} {Q : Exit → Act → World → Prop} {E : Prop} {ops : Array Oper}
theorem step_call (hg : op.guard = none) (f : FuncId) (xs : Array Operand) (ts : Array TypeId) (ho : op.op = .call { callee := .value (.func f), args := xs, argTypes := ts }) (vs : Array Value) (hx : xs.map a.eval = vs) (hf : (callFunc f vs).run P w = .ok (.enter f vs) w) (post : Value → World → Prop)
    (hc : Calls P f vs w fun e w' => ∃ v, e = .returned v ∧ post v w') (h : ∀ v w', post v w' → K (a.put op.dst v) w') : if Region.wanted op (yielded ops a.tmps) = true then Oper.wp P op a w K Q else E := by
  rw [if_pos (by simp [Region.wanted, hg])]
  unfold Oper.wp
  have hx2 : xs.map (fun x => a.eval x) = vs := hx
  have e1 : (execOp a.eval op).run P w = .ok (.enter f vs) w := by
    unfold execOp
    simp [ho, resolve, invoke, Act.eval, hx2, go_sem]
    exact hf
  rw [e1, Oper.upon_enter]
  refine hc.mono ?_
  rintro e w' ⟨v, rfl, hp⟩
  exact h v w' hp
theorem step_alloc (hg : op.guard = none) (t : TypeId) (ho : op.op = .alloc t) (p : Value) (w2 : World) (hr : (Instr.alloc t true (.tuple #[])).run P w = .ok p w2) (h : K (a.put op.dst p) w2) : if Region.wanted op (yielded ops a.tmps) = true then Oper.wp P op a w K Q else E := by
  rw [if_pos (by simp [Region.wanted, hg])]
  unfold Oper.wp execOp
  simp only [ho, hr, Sem.run_bind, Result.andThen_ok, Sem.run_pure]
  exact h
end
theorem enter_step10 (vs : Array Value) (w : World) : (callFunc 108 vs).run Try.prog w = .ok (.enter 108 vs) w := by go_simp
theorem run_alloc_seq (w : World) : (Instr.alloc 125 true (.tuple #[])).run Try.prog w = .ok (.pointer (some ⟨w.heap.size, 0, none⟩)) (w.alloc (.cells #[.int .i64 0, .int .i64 0, .int .i64 0, .slice none 0 0, .int .i64 0, .int .i64 0, .slice none 0 0] 125)) := by kernel_rfl
theorem run_alloc_t10 (w : World) : (Instr.alloc 169 true (.tuple #[])).run Try.prog w = .ok (.pointer (some ⟨w.heap.size, 0, none⟩)) (w.alloc (.cells #[.int .i64 0, .int .i64 0, .int .i64 0, .int .i64 0, .int .i64 0, .int .i64 0, .int .i64 0] 169)) := by kernel_rfl
theorem put_no (a : Act) (v : Value) : a.put none v = a := rfl
/-! A step in numbers -/
theorem judgeT_n (N : Int) (t : Tr) : (judgeT N t).n = t.n ∧ (judgeT N t).last = t.last := by
  unfold judgeT
  split
  · exact ⟨rfl, rfl⟩
  · split <;> exact ⟨rfl, rfl⟩
theorem step_facts {N c sn sw c2 sn2 sw2 : Int} {sh gv : List Int} {K m : Nat} {t t2 : Tr} {n g d h l a o : Int} {ids : List Int} (hst : stepT N ids (mk c sn sh gv) sw t = (mk c2 sn2 sh gv, sw2, t2)) (r : RelT K m t n g d h l a o) (hn : 1 ≤ n ∧ n ≤ 64) (hs : sw ≤ c) :
    sw2 ≤ c2 ∧ c ≤ c2 ∧ c2 ≤ c + 64 ∧ t2.n = t.n ∧ (t2.last = t.last ∨ t2.last = c + t.n ∨ t2.last = 0) := by
  have hN := r.n
  have hc0 : (mk c sn sh gv).getD 0 0 = c := rfl
  have inj : ∀ {a b : Int} {x : List Int}, mk a b x gv = mk c2 sn2 sh gv → a = c2 := fun h => (List.cons.inj h).1
  unfold stepT at hst
  have hs1 := r.s1
  have hs7 := r.s7
  split at hst
  · simp only [Prod.mk.injEq] at hst
    obtain ⟨e1, rfl, rfl⟩ := hst
    obtain rfl := inj e1
    exact ⟨hs, by omega, by omega, rfl, .inr (.inl (by rw [hc0]))⟩
  · split at hst
    · split at hst
      · simp only [Prod.mk.injEq] at hst
        obtain ⟨e1, rfl, rfl⟩ := hst
        obtain rfl := inj e1
        exact ⟨hs, by omega, by omega, rfl, .inl rfl⟩
      · simp only [Prod.mk.injEq] at hst
        obtain ⟨e1, rfl, rfl⟩ := hst
        obtain rfl := inj e1
        exact ⟨hs, by omega, by omega, (judgeT_n _ _).1, .inl (judgeT_n _ _).2⟩
    · split at hst
      · simp only [Prod.mk.injEq] at hst
        obtain ⟨e1, rfl, rfl⟩ := hst
        obtain rfl := inj e1
        exact ⟨hs, by omega, by omega, (judgeT_n _ _).1, .inl (judgeT_n _ _).2⟩
      · split at hst
        · simp only [Prod.mk.injEq] at hst
          obtain ⟨e1, rfl, rfl⟩ := hst
          have : c = c2 := (List.cons.inj e1).1
          subst this
          exact ⟨hs, by omega, by omega, rfl, .inl rfl⟩
        · split at hst
          · rename_i h5
            have hlh := r.lh (by omega) (by omega)
            split at hst
            · rename_i hcd
              simp only [Prod.mk.injEq] at hst
              obtain ⟨e1, rfl, rfl⟩ := hst
              have : t.last = c2 := (List.cons.inj e1).1
              rw [hc0] at hcd
              exact ⟨by omega, by omega, by omega, rfl, .inl rfl⟩
            · simp only [Prod.mk.injEq] at hst
              obtain ⟨e1, rfl, rfl⟩ := hst
              obtain rfl := inj e1
              exact ⟨hs, by omega, by omega, rfl, .inr (.inr rfl)⟩
          · simp only [Prod.mk.injEq] at hst
            obtain ⟨e1, rfl, rfl⟩ := hst
            obtain rfl := inj e1
            exact ⟨hs, by omega, by omega, rfl, .inl rfl⟩
end Go.Proofs.Ytjadapjjilegnaa
namespace Go.Proofs.Ytjadapjjilegnaa
open Go.RowKit
set_option linter.unusedVariables false
def rg27 : List Oper :=
  [{ dst := some 131, op := Op.load 125 (Operand.tmp 9), type := 125, pos := "law.go:224", after := #[], guard := none },
  { dst := some 132, op := Op.move (Operand.tmp 12), type := 160, pos := "law.go:224", after := #[], guard := none },
  { dst := some 133, op := Op.fieldAddr 162 (Operand.tmp 14) 1, type := 0, pos := "law.go:224", after := #[], guard := none },
  { dst := some 134, op := Op.load 3 (Operand.tmp 133), type := 3, pos := "law.go:224", after := #[{ on := 2, ground := Ground.data }], guard := none },
  { dst := some 135, op := Op.indexAddr 160 (Operand.tmp 132) (Operand.tmp 134), type := 0, pos := "law.go:224", after := #[{ on := 1, ground := Ground.data }, { on := 3, ground := Ground.data }], guard := none },
  { dst := some 136, op := Op.load 169 (Operand.tmp 135), type := 169, pos := "law.go:224", after := #[{ on := 4, ground := Ground.data }], guard := none },
  { dst := some 137, op := Op.call { callee := Callee.value (Operand.func 108), args := #[Operand.tmp 131, Operand.tmp 136], argTypes := #[125, 169] }, type := 171, pos := "law.go:224", after := #[{ on := 0, ground := Ground.data }, { on := 5, ground := Ground.data }], guard := none },
  { dst := some 130, op := Op.move (Operand.tmp 137), type := 171, pos := "law.go:224", after := #[{ on := 6, ground := Ground.data }], guard := none },
  { dst := some 138, op := Op.extract (Operand.tmp 130) 0, type := 125, pos := "law.go:224", after := #[{ on := 7, ground := Ground.data }], guard := none },
  { dst := some 139, op := Op.extract (Operand.tmp 130) 1, type := 169, pos := "law.go:224", after := #[{ on := 7, ground := Ground.data }, { on := 13, ground := Ground.gcOnly Departure.lateStores }], guard := none },
  { dst := some 140, op := Op.extract (Operand.tmp 130) 2, type := 3, pos := "law.go:224", after := #[{ on := 7, ground := Ground.data }, { on := 14, ground := Ground.gcOnly Departure.lateStores }], guard := none },
  { dst := some 19, op := Op.alloc 125, type := 0, pos := "law.go:224", after := #[], guard := none },
  { dst := some 20, op := Op.alloc 169, type := 0, pos := "law.go:224", after := #[], guard := none },
  { dst := none, op := Op.store 125 (Operand.tmp 19) (Operand.tmp 138), type := 0, pos := "law.go:224", after := #[{ on := 11, ground := Ground.data }, { on := 8, ground := Ground.data }, { on := 6, ground := Ground.chain }, { on := 0, ground := Ground.phase }, { on := 1, ground := Ground.phase }, { on := 2, ground := Ground.phase }, { on := 3, ground := Ground.phase }, { on := 4, ground := Ground.phase }, { on := 5, ground := Ground.phase }, { on := 6, ground := Ground.phase }, { on := 7, ground := Ground.phase }, { on := 8, ground := Ground.phase }, { on := 9, ground := Ground.textOnly Departure.lateStores }, { on := 10, ground := Ground.textOnly Departure.lateStores }, { on := 11, ground := Ground.phase }, { on := 12, ground := Ground.phase }], guard := none },
  { dst := none, op := Op.store 169 (Operand.tmp 20) (Operand.tmp 139), type := 0, pos := "law.go:224", after := #[{ on := 12, ground := Ground.data }, { on := 9, ground := Ground.data }, { on := 13, ground := Ground.chain }, { on := 0, ground := Ground.phase }, { on := 1, ground := Ground.phase }, { on := 2, ground := Ground.phase }, { on := 3, ground := Ground.phase }, { on := 4, ground := Ground.phase }, { on := 5, ground := Ground.phase }, { on := 6, ground := Ground.phase }, { on := 7, ground := Ground.phase }, { on := 8, ground := Ground.phase }, { on := 9, ground := Ground.phase }, { on := 10, ground := Ground.textOnly Departure.lateStores }, { on := 11, ground := Ground.phase }, { on := 12, ground := Ground.phase }, { on := 13, ground := Ground.phase }], guard := none },
  { dst := some 21, op := Op.assign (Operand.tmp 140), type := 3, pos := "law.go:224", after := #[{ on := 10, ground := Ground.data }, { on := 14, ground := Ground.chain }, { on := 0, ground := Ground.phase }, { on := 1, ground := Ground.phase }, { on := 2, ground := Ground.phase }, { on := 3, ground := Ground.phase }, { on := 4, ground := Ground.phase }, { on := 5, ground := Ground.phase }, { on := 6, ground := Ground.phase }, { on := 7, ground := Ground.phase }, { on := 8, ground := Ground.phase }, { on := 9, ground := Ground.phase }, { on := 10, ground := Ground.phase }, { on := 11, ground := Ground.phase }, { on := 12, ground := Ground.phase }, { on := 13, ground := Ground.phase }, { on := 14, ground := Ground.phase }], guard := none }]

/-! Operations by what they yield -/
section
variable {P : Program} {op : Oper} {a : Act} {w w' : World} {v : Value}
theorem ex_move (x : Operand) (ho : op.op = .move x) (hx : a.eval x = v) : (execOp a.eval op).run P w = .ok (.value v) w := by
  unfold execOp
  simp only [ho, hx, Sem.run_pure]
theorem ex_assign (x : Operand) (ho : op.op = .assign x) (hx : a.eval x = v) : (execOp a.eval op).run P w = .ok (.value v) w := by
  unfold execOp
  simp only [ho, hx, Sem.run_pure]
theorem ex_field (ty : TypeId) (x : Operand) (k : Nat) (ho : op.op = .fieldAddr ty x k) {u : Value} (hx : a.eval x = u) (hr : (Instr.fieldAt ty u k).run P w = .ok v w) : (execOp a.eval op).run P w = .ok (.value v) w := by
  unfold execOp
  simp only [ho, hx, Sem.run_bind, hr, Result.andThen_ok, Sem.run_pure]
theorem ex_index (ty : TypeId) (x i : Operand) (ho : op.op = .indexAddr ty x i) {u k : Value} (hx : a.eval x = u) (hi : a.eval i = k) (hr : (Instr.indexAt ty u k).run P w = .ok v w) : (execOp a.eval op).run P w = .ok (.value v) w := by
  unfold execOp
  simp only [ho, hx, hi, Sem.run_bind, hr, Result.andThen_ok, Sem.run_pure]
theorem ex_load (ty : TypeId) (x : Operand) (ho : op.op = .load ty x) {u : Value} (hx : a.eval x = u) (hr : (Instr.loadAt ty u).run P w = .ok v w) : (execOp a.eval op).run P w = .ok (.value v) w := by
  unfold execOp
  simp only [ho, hx, Sem.run_bind, hr, Result.andThen_ok, Sem.run_pure]
theorem ex_extract (x : Operand) (k : Nat) (ho : op.op = .extract x k) {u : Value} (hx : a.eval x = u) (hr : (Instr.extract u k).run P w = .ok v w) : (execOp a.eval op).run P w = .ok (.value v) w := by
  unfold execOp
  simp only [ho, hx, Sem.run_bind, hr, Result.andThen_ok, Sem.run_pure]
theorem ex_alloc (t : TypeId) (ho : op.op = .alloc t) (hr : (Instr.alloc t true (.tuple #[])).run P w = .ok v w') : (execOp a.eval op).run P w = .ok (.value v) w' := by
  unfold execOp
  simp only [ho, hr, Sem.run_bind, Result.andThen_ok, Sem.run_pure]
end
section
variable {P : Program} {ops : Array Oper} {Q : Exit → Act → World → Prop} {D : Nat → Option Tmp} {a0 : Act} {n : Nat} {M : Array Bool → (Nat → Value) → World → Prop}
/-- A store of a whole struct. -/
theorem act_store {i : Nat} {o : Oper} {s : Array Bool} {V : Nat → Value} {w : World} (hD : DD D n) (ho : ops[i]? = some o) (hd : o.dst = none) (hDi : D i = none) (hg : o.guard = none) (hi : i < n) (hs : s.getD i true = false)
    (ty : TypeId) (x y : Operand) (hop : o.op = .store ty x y) (g : Nat) (cs : Array Value) (hx : (actOf D V s a0 n).eval x = .pointer (some ⟨g, 0, none⟩)) (hy : (actOf D V s a0 n).eval y = .agg cs) (t : TypeId) (cs0 : Array Value) (hh : w.heap[g]? = some (.cells cs0 t (0, 0)))
    (hi2 : (P.info? ty).map (·.size) = some cs.size) (hz : cs0.size = cs.size) (h1 : cs.all (·.oneCell') = true) (hM : M (s.setIfInBounds i true) (upd V i undef) (w.setRow g cs)) :
    wpOp P ops Q i (fun a' w' => ActInv D a0 n M (s.setIfInBounds i true) a' w') (actOf D V s a0 n) w := by
  unfold wpOp
  simp only [ho]
  rw [if_pos (by simp [Region.wanted, hg])]
  refine .inl (wp_store_row ty x y hop g cs hx hy t cs0 hh hi2 hz h1 ⟨_, ?_, hM⟩)
  rw [← actOf_put n hD hi hs undef, hDi, hd]
end
/-- Whether an operation waits for another one. -/
def waitsB (ops : Array Oper) (i j : Nat) : Bool := match ops[i]? with
  | some o => o.after.any fun e => Region.binds .any e && decide (e.on = j)
  | none => false
theorem ready_on {ops : Array Oper} {i : Nat} {s : Array Bool} (hr : i ∈ Region.ready .any ops s) (j : Nat) (h : waitsB ops i j = true) : s.getD j true = true := by
  unfold waitsB at h
  obtain ⟨_, o, ho, _⟩ := mem_ready.1 hr
  rw [ho] at h
  simp only [Array.any_eq_true', Bool.and_eq_true, decide_eq_true_eq] at h
  obtain ⟨e, he, hb, hj⟩ := h
  exact ready_dep hr ho he hb hj
theorem ready_un {ops : Array Oper} {i : Nat} {s : Array Bool} (hr : i ∈ Region.ready .any ops s) : s.getD i true = false := (mem_ready.1 hr).1
/-- No two set one slot, asked of a list. -/
def ddB (L : List (Option Tmp)) : Bool := (List.range L.length).all fun i => (List.range L.length).all fun j => i == j || (L.getD i none).isNone || L.getD i none != L.getD j none
theorem dd_of {L : List (Option Tmp)} (h : ddB L = true) (n : Nat) (hn : n ≤ L.length) : DD (fun i => L.getD i none) n := by
  intro i j hi hj hij k hk hjk
  have h1 := List.all_eq_true.1 (List.all_eq_true.1 h i (List.mem_range.2 (by omega))) j (List.mem_range.2 (by omega))
  simp only at hk hjk
  rw [hk, hjk] at h1
  simp [hij] at h1

def L27 : List (Option Tmp) := [some 131, some 132, some 133, some 134, some 135, some 136, some 137, some 130, some 138, some 139, some 140, some 19, some 20, none, none, some 21]
section
variable {w5 : World} {a0 : Act} {j ob bw mb cw nL gl cg : Nat} {NN c c2 sn sn2 xn g2 d2 h2 l2 a2 o2 : Int} {rf : Array Value} {pg : Option Addr}
def z19 : Array Value := #[.int .i64 0, .int .i64 0, .int .i64 0, .slice none 0 0, .int .i64 0, .int .i64 0, .slice none 0 0]
def z20 : Array Value := #[.int .i64 0, .int .i64 0, .int .i64 0, .int .i64 0, .int .i64 0, .int .i64 0, .int .i64 0]
/-- What is known on the way: what was read and reckoned; the two new blocks. -/
structure M27 (w5 : World) (val : List Value) (q19 q20 : Array Value) (s : Array Bool) (V : Nat → Value) (w : World) : Prop where
  b : Below w5.heap.size w5 w
  p : ∀ i, i < 11 → s.getD i true = true → V i = val.getD i undef
  a : s.getD 11 true = true → ∃ n, V 11 = .pointer (some ⟨n, 0, none⟩) ∧ w5.heap.size ≤ n ∧ w.heap[n]? = some (.cells (if s.getD 13 true = true then q19 else z19) 125 (0, 0))
  d : s.getD 13 true = true → s.getD 11 true = true
  e : s.getD 14 true = true → s.getD 12 true = true
  c : s.getD 12 true = true → ∃ n, V 12 = .pointer (some ⟨n, 0, none⟩) ∧ w5.heap.size ≤ n ∧ w.heap[n]? = some (.cells (if s.getD 14 true = true then q20 else z20) 169 (0, 0))
theorem M27.pure {val : List Value} {q19 q20 : Array Value} {s : Array Bool} {V : Nat → Value} {w w' : World} (h : M27 w5 val q19 q20 s V w) {i : Nat} (hi : i < 11) (hb : Below w.heap.size w w') : M27 w5 val q19 q20 (s.setIfInBounds i true) (upd V i (val.getD i undef)) w' := by
  refine ⟨bthen h.b hb, fun k hk hs => ?_, fun hs => ?_, fun hs => ?_, fun hs => ?_, fun hs => ?_⟩
  · by_cases e : k = i
    · subst e; rw [upd_self]
    · rw [upd_ne _ e]
      rw [getD_set_ne true (Ne.symm e)] at hs
      exact h.p k hk hs
  · rw [getD_set_ne true (by omega)] at hs
    obtain ⟨n, h1, h2, h3⟩ := h.a hs
    rw [upd_ne _ (by omega), getD_set_ne true (by omega)]
    exact ⟨n, h1, h2, (hb.block n (lt_of_block h3)).trans h3⟩
  · rw [getD_set_ne true (by omega)] at hs ⊢
    exact h.d hs
  · by_cases e12 : i = 12
    · subst e12; exact set_self _ _
    · rw [getD_set_ne true (by omega)] at hs ⊢
      exact h.e hs
  · rw [getD_set_ne true (by omega)] at hs
    obtain ⟨n, h1, h2, h3⟩ := h.c hs
    rw [upd_ne _ (by omega), getD_set_ne true (by omega)]
    exact ⟨n, h1, h2, (hb.block n (lt_of_block h3)).trans h3⟩
theorem M27.al {val : List Value} {q19 q20 : Array Value} {s : Array Bool} {V : Nat → Value} {w : World} (h : M27 w5 val q19 q20 s V w) (hs13 : s.getD 13 true = false) : M27 w5 val q19 q20 (s.setIfInBounds 11 true) (upd V 11 (.pointer (some ⟨w.heap.size, 0, none⟩))) (w.alloc (.cells z19 125)) := by
  refine ⟨balloc h.b _, fun k hk hs => ?_, fun hs => ?_, fun hs => by first | exact set_self _ _ | (rw [getD_set_ne true (by omega)] at hs ⊢; exact h.d hs), fun hs => by first | exact set_self _ _ | (rw [getD_set_ne true (by omega)] at hs ⊢; exact h.e hs), fun hs => ?_⟩
  · rw [upd_ne _ (by omega)]
    rw [getD_set_ne true (by omega)] at hs
    exact h.p k hk hs
  · rw [upd_self, getD_set_ne true (by omega), if_neg (by rw [hs13]; decide)]
    exact ⟨_, rfl, h.b.size, obj_new _ _⟩
  · rw [getD_set_ne true (by omega)] at hs
    obtain ⟨n, h1, h2, h3⟩ := h.c hs
    rw [upd_ne _ (by omega), getD_set_ne true (by omega)]
    exact ⟨n, h1, h2, obj_old _ h3⟩
theorem M27.cl {val : List Value} {q19 q20 : Array Value} {s : Array Bool} {V : Nat → Value} {w : World} (h : M27 w5 val q19 q20 s V w) (hs14 : s.getD 14 true = false) : M27 w5 val q19 q20 (s.setIfInBounds 12 true) (upd V 12 (.pointer (some ⟨w.heap.size, 0, none⟩))) (w.alloc (.cells z20 169)) := by
  refine ⟨balloc h.b _, fun k hk hs => ?_, fun hs => ?_, fun hs => by first | exact set_self _ _ | (rw [getD_set_ne true (by omega)] at hs ⊢; exact h.d hs), fun hs => by first | exact set_self _ _ | (rw [getD_set_ne true (by omega)] at hs ⊢; exact h.e hs), fun hs => ?_⟩
  · rw [upd_ne _ (by omega)]
    rw [getD_set_ne true (by omega)] at hs
    exact h.p k hk hs
  · rw [getD_set_ne true (by omega)] at hs
    obtain ⟨n, h1, h2, h3⟩ := h.a hs
    rw [upd_ne _ (by omega), getD_set_ne true (by omega)]
    exact ⟨n, h1, h2, obj_old _ h3⟩
  · rw [upd_self, getD_set_ne true (by omega), if_neg (by rw [hs14]; decide)]
    exact ⟨_, rfl, h.b.size, obj_new _ _⟩
theorem M27.as {val : List Value} {q19 q20 : Array Value} {s : Array Bool} {V : Nat → Value} {w : World} (h : M27 w5 val q19 q20 s V w) (hs11 : s.getD 11 true = true) (hsz : s.size = 16) {n : Nat} (hn : V 11 = .pointer (some ⟨n, 0, none⟩)) : M27 w5 val q19 q20 (s.setIfInBounds 13 true) (upd V 13 undef) (w.setRow n q19) := by
  obtain ⟨n', h1, h2, h3⟩ := h.a hs11
  rw [h1] at hn
  cases hn
  have hf : Frm (fun k => k = n) w (w.setRow n q19) := (Frm.refl (fun k => k = n) w).setRow rfl q19
  refine ⟨h.b.trans (hf.below h.b.size fun k e => by subst e; exact h2), fun k hk hs => ?_, fun hs => ?_, fun hs => by first | (rw [getD_set_ne true (by omega)]; assumption) | (rw [getD_set_ne true (by omega)] at hs ⊢; exact h.d hs), fun hs => by first | (rw [getD_set_ne true (by omega)]; assumption) | (rw [getD_set_ne true (by omega)] at hs ⊢; exact h.e hs), fun hs => ?_⟩
  · rw [upd_ne _ (by omega)]
    rw [getD_set_ne true (by omega)] at hs
    exact h.p k hk hs
  · rw [upd_ne _ (by omega), if_pos (set_self _ _)]
    exact ⟨n, h1, h2, setRow_heap _ _ _ _ _ _ h3⟩
  · rw [getD_set_ne true (by omega)] at hs
    obtain ⟨n2, k1, k2, k3⟩ := h.c hs
    rw [upd_ne _ (by omega), getD_set_ne true (by omega)]
    exact ⟨n2, k1, k2, hf.obj k3 (obj_ne k3 h3 (by decide))⟩
theorem M27.cs {val : List Value} {q19 q20 : Array Value} {s : Array Bool} {V : Nat → Value} {w : World} (h : M27 w5 val q19 q20 s V w) (hs12 : s.getD 12 true = true) (hsz : s.size = 16) {n : Nat} (hn : V 12 = .pointer (some ⟨n, 0, none⟩)) : M27 w5 val q19 q20 (s.setIfInBounds 14 true) (upd V 14 undef) (w.setRow n q20) := by
  obtain ⟨n', h1, h2, h3⟩ := h.c hs12
  rw [h1] at hn
  cases hn
  have hf : Frm (fun k => k = n) w (w.setRow n q20) := (Frm.refl (fun k => k = n) w).setRow rfl q20
  refine ⟨h.b.trans (hf.below h.b.size fun k e => by subst e; exact h2), fun k hk hs => ?_, fun hs => ?_, fun hs => by first | (rw [getD_set_ne true (by omega)]; assumption) | (rw [getD_set_ne true (by omega)] at hs ⊢; exact h.d hs), fun hs => by first | (rw [getD_set_ne true (by omega)]; assumption) | (rw [getD_set_ne true (by omega)] at hs ⊢; exact h.e hs), fun hs => ?_⟩
  · rw [upd_ne _ (by omega)]
    rw [getD_set_ne true (by omega)] at hs
    exact h.p k hk hs
  · rw [getD_set_ne true (by omega)] at hs
    obtain ⟨n2, k1, k2, k3⟩ := h.a hs
    rw [upd_ne _ (by omega), getD_set_ne true (by omega)]
    exact ⟨n2, k1, k2, hf.obj k3 (obj_ne k3 h3 (by decide))⟩
  · rw [upd_ne _ (by omega), if_pos (set_self _ _)]
    exact ⟨n, h1, h2, setRow_heap _ _ _ _ _ _ h3⟩

def v27 (NN c c2 sn sn2 xn g2 d2 h2 l2 a2 o2 : Int) (pg : Option Addr) (gl cg nL cw bw ob j : Nat) (rf : Array Value) : List Value :=
  [.agg (s10 NN c (.slice pg gl cg) sn (.slice none 0 0)), .slice (some ⟨bw, 0, none⟩) nL cw, .pointer (some ⟨ob, 1, none⟩), .int .i64 (j : Int), .pointer (some ⟨bw, j * 7, none⟩), .agg rf, .tuple #[.agg (s10 NN c2 (.slice pg gl cg) sn2 (.slice none 0 0)), .agg (t10 xn g2 d2 h2 l2 a2 o2), .int .i64 0], .tuple #[.agg (s10 NN c2 (.slice pg gl cg) sn2 (.slice none 0 0)), .agg (t10 xn g2 d2 h2 l2 a2 o2), .int .i64 0], .agg (s10 NN c2 (.slice pg gl cg) sn2 (.slice none 0 0)), .agg (t10 xn g2 d2 h2 l2 a2 o2), .int .i64 0]
theorem mixed : Try.prog.follows .mixedOrders = true := by kernel_rfl
theorem dd27 : DD (fun i => L27.getD i none) 15 := dd_of (by kernel_rfl) 15 (by decide)
theorem canon_at {n m j : Nat} (hj : j < n) : (canon n m).getD j true = true := by
  rw [Array.getD_eq_getD_getElem?]
  unfold canon
  rw [Array.getElem?_append_left (by simpa using hj)]
  simp [hj]
theorem wpList_val {P : Program} {ops : Array Oper} {Q : Exit → Act → World → Prop} {o : Oper} {rest : List Oper} {a : Act} {w w' : World} {v : Value} (hg : o.guard = none) (hr : (execOp a.eval o).run P w = .ok (.value v) w') (h : wpList P ops Q rest (a.put o.dst v) w') : wpList P ops Q (o :: rest) a w := by
  refine wpList_plain hg fun _ hK => ?_
  unfold Oper.wp
  rw [hr]
  exact hK _ _ h
theorem i_cases15 {i : Nat} (h : i < 15) : i = 0 ∨ i = 1 ∨ i = 2 ∨ i = 3 ∨ i = 4 ∨ i = 5 ∨ i = 6 ∨ i = 7 ∨ i = 8 ∨ i = 9 ∨ i = 10 ∨ i = 11 ∨ i = 12 ∨ i = 13 ∨ i = 14 := by omega
theorem fa_act (ob : Nat) (w : World) : (Instr.fieldAt 162 (.pointer (some ⟨ob, 0, none⟩)) 1).run Try.prog w = .ok (.pointer (some ⟨ob, 1, none⟩)) w := by kernel_rfl
theorem ex3 (x y z : Value) (w : World) : (Instr.extract (.tuple #[x, y, z]) 0).run Try.prog w = .ok x w ∧ (Instr.extract (.tuple #[x, y, z]) 1).run Try.prog w = .ok y w ∧ (Instr.extract (.tuple #[x, y, z]) 2).run Try.prog w = .ok z w := ⟨by kernel_rfl, by kernel_rfl, by kernel_rfl⟩
set_option maxHeartbeats 4000000 in
set_option maxRecDepth 100000 in
theorem mt_r27 (e9 : a0.eval (.tmp 9) = .pointer (some ⟨mb, 0, none⟩)) (e12 : a0.eval (.tmp 12) = .slice (some ⟨bw, 0, none⟩) nL cw) (e14 : a0.eval (.tmp 14) = .pointer (some ⟨ob, 0, none⟩)) (hsz0 : a0.tmps.size = 278)
    (HN19 : Hid (∀ w : World, Below w5.heap.size w5 w → (Instr.loadAt 125 (.pointer (some ⟨mb, 0, none⟩))).run Try.prog w = .ok (.agg (s10 NN c (.slice pg gl cg) sn (.slice none 0 0))) w))
    (hl3 : ∀ w : World, Below w5.heap.size w5 w → (Instr.loadAt 3 (.pointer (some ⟨ob, 1, none⟩))).run Try.prog w = .ok (.int .i64 (j : Int)) w)
    (HL35 : Hid (∀ w : World, Below w5.heap.size w5 w → (Instr.loadAt 169 (.pointer (some ⟨bw, j * 7, none⟩))).run Try.prog w = .ok (.agg rf) w))
    (hia : ∀ w : World, (Instr.indexAt 160 (.slice (some ⟨bw, 0, none⟩) nL cw) (.int .i64 (j : Int))).run Try.prog w = .ok (.pointer (some ⟨bw, j * 7, none⟩)) w)
    (HCALL : Hid (∀ w, Below w5.heap.size w5 w → Calls Try.prog 108 #[.agg (s10 NN c (.slice pg gl cg) sn (.slice none 0 0)), .agg rf] w fun e w' => ∃ v, e = .returned v ∧ v = .tuple #[.agg (s10 NN c2 (.slice pg gl cg) sn2 (.slice none 0 0)), .agg (t10 xn g2 d2 h2 l2 a2 o2), .int .i64 0] ∧ Below w.heap.size w w')) :
    (Code.region 27 rg27.toArray true).wp Try.prog (fun e a' y => e = .normal ∧ ∃ n19 n20, (Below w5.heap.size w5 y ∧ y.heap[n19]? = some (.cells (s10 NN c2 (.slice pg gl cg) sn2 (.slice none 0 0)) 125 (0, 0)) ∧ y.heap[n20]? = some (.cells (t10 xn g2 d2 h2 l2 a2 o2) 169 (0, 0)) ∧ w5.heap.size ≤ n19 ∧ w5.heap.size ≤ n20) ∧ a' = ((((((((((((((a0.put (some 131) (.agg (s10 NN c (.slice pg gl cg) sn (.slice none 0 0)))).put (some 132) (.slice (some ⟨bw, 0, none⟩) nL cw)).put (some 133) (.pointer (some ⟨ob, 1, none⟩))).put (some 134) (.int .i64 (j : Int))).put (some 135) (.pointer (some ⟨bw, j * 7, none⟩))).put (some 136) (.agg rf)).put (some 137) (.tuple #[.agg (s10 NN c2 (.slice pg gl cg) sn2 (.slice none 0 0)), .agg (t10 xn g2 d2 h2 l2 a2 o2), .int .i64 0])).put (some 130) (.tuple #[.agg (s10 NN c2 (.slice pg gl cg) sn2 (.slice none 0 0)), .agg (t10 xn g2 d2 h2 l2 a2 o2), .int .i64 0])).put (some 138) (.agg (s10 NN c2 (.slice pg gl cg) sn2 (.slice none 0 0)))).put (some 139) (.agg (t10 xn g2 d2 h2 l2 a2 o2))).put (some 140) (.int .i64 0)).put (some 19) (.pointer (some ⟨n19, 0, none⟩))).put (some 20) (.pointer (some ⟨n20, 0, none⟩))).put (some 21) (.int .i64 0))) a0 w5 := by
  have hrep : ∀ i, i < 16 → (Array.replicate rg27.length false).getD i true = false := fun i hi => by
    simp [show i < rg27.length from hi]
  refine wp_region_act (l := rg27) 15 (fun i => L27.getD i none) (fun s V w => s.size = 16 ∧ M27 w5 (v27 NN c c2 sn sn2 xn g2 d2 h2 l2 a2 o2 pg gl cg nL cw bw ob j rf) (s10 NN c2 (.slice pg gl cg) sn2 (.slice none 0 0)) (t10 xn g2 d2 h2 l2 a2 o2) s V w) mixed (by decide) (by kernel_rfl) (by kernel_rfl) (by kernel_rfl) (by kernel_rfl) (fun _ => undef) ⟨by simp [rg27], Below.drew (Below.refl _ _), fun i hi h => (by rw [hrep i (by omega)] at h; cases h), fun h => (by rw [hrep 11 (by decide)] at h; cases h), fun h => (by rw [hrep 13 (by decide)] at h; cases h), fun h => (by rw [hrep 14 (by decide)] at h; cases h), fun h => (by rw [hrep 12 (by decide)] at h; cases h)⟩ (fun i s V w hi hr ⟨hsz, hM⟩ => ?_) (fun V w ⟨hsz, hM⟩ => ?_)
  · have hun := ready_un hr
    have ev : ∀ (j k : Nat), j < 15 → L27.getD j none = some k → s.getD j true = true → k < 278 → (actOf (fun i => L27.getD i none) V s a0 15).eval (.tmp k) = V j := fun j k hj hk hs hk2 => actOf_eval 15 dd27 hj hk hs (by rw [hsz0]; exact hk2)
    have ev0 : ∀ k, (∀ j, j < 15 → L27.getD j none ≠ some k) → (actOf (fun i => L27.getD i none) V s a0 15).eval (.tmp k) = a0.eval (.tmp k) := fun k h => actOf_eval0 15 fun j hj _ => h j hj
    have hss : ∀ i, (s.setIfInBounds i true).size = 16 := fun i => by simpa using hsz
    rcases i_cases15 hi with rfl | rfl | rfl | rfl | rfl | rfl | rfl | rfl | rfl | rfl | rfl | rfl | rfl | rfl | rfl
    · exact act_val dd27 rfl rfl rfl hi hun (ex_load 125 (.tmp 9) rfl ((ev0 9 (by decide)).trans e9) (HN19.out w hM.b)) ⟨hss _, hM.pure (i := 0) (by decide) (Below.refl _ _)⟩
    · exact act_val dd27 rfl rfl rfl hi hun (ex_move (.tmp 12) rfl ((ev0 12 (by decide)).trans e12)) ⟨hss _, hM.pure (i := 1) (by decide) (Below.refl _ _)⟩
    · exact act_val dd27 rfl rfl rfl hi hun (ex_field 162 (.tmp 14) 1 rfl ((ev0 14 (by decide)).trans e14) (fa_act ob w)) ⟨hss _, hM.pure (i := 2) (by decide) (Below.refl _ _)⟩
    · have d := ready_on hr 2 (by kernel_rfl)
      exact act_val dd27 rfl rfl rfl hi hun (ex_load 3 (.tmp 133) rfl ((ev 2 133 (by decide) rfl d (by decide)).trans (hM.p 2 (by decide) d)) (hl3 w hM.b)) ⟨hss _, hM.pure (i := 3) (by decide) (Below.refl _ _)⟩
    · have d := ready_on hr 1 (by kernel_rfl)
      have d2 := ready_on hr 3 (by kernel_rfl)
      exact act_val dd27 rfl rfl rfl hi hun (ex_index 160 (.tmp 132) (.tmp 134) rfl ((ev 1 132 (by decide) rfl d (by decide)).trans (hM.p 1 (by decide) d)) ((ev 3 134 (by decide) rfl d2 (by decide)).trans (hM.p 3 (by decide) d2)) (hia w)) ⟨hss _, hM.pure (i := 4) (by decide) (Below.refl _ _)⟩
    · have d := ready_on hr 4 (by kernel_rfl)
      exact act_val dd27 rfl rfl rfl hi hun (ex_load 169 (.tmp 135) rfl ((ev 4 135 (by decide) rfl d (by decide)).trans (hM.p 4 (by decide) d)) (HL35.out w hM.b)) ⟨hss _, hM.pure (i := 5) (by decide) (Below.refl _ _)⟩
    · have d := ready_on hr 0 (by kernel_rfl)
      have d2 := ready_on hr 5 (by kernel_rfl)
      refine act_call dd27 rfl rfl rfl hi hun 108 #[.tmp 131, .tmp 136] #[125, 169] rfl #[.agg (s10 NN c (.slice pg gl cg) sn (.slice none 0 0)), .agg rf] ?_ (enter_step10 _ _) ((HCALL.out w hM.b).mono ?_)
      · have x1 := (ev 0 131 (by decide) rfl d (by decide)).trans (hM.p 0 (by decide) d)
        have x2 := (ev 5 136 (by decide) rfl d2 (by decide)).trans (hM.p 5 (by decide) d2)
        simp only [List.map_toArray, List.map_cons, List.map_nil, x1, x2]
        rfl
      · rintro e w' ⟨v, rfl, rfl, hb⟩
        exact ⟨_, rfl, hss _, hM.pure (i := 6) (by decide) hb⟩
    · have d := ready_on hr 6 (by kernel_rfl)
      exact act_val dd27 rfl rfl rfl hi hun (ex_move (.tmp 137) rfl ((ev 6 137 (by decide) rfl d (by decide)).trans (hM.p 6 (by decide) d))) ⟨hss _, hM.pure (i := 7) (by decide) (Below.refl _ _)⟩
    · have d := ready_on hr 7 (by kernel_rfl)
      exact act_val dd27 rfl rfl rfl hi hun (ex_extract (.tmp 130) 0 rfl ((ev 7 130 (by decide) rfl d (by decide)).trans (hM.p 7 (by decide) d)) (ex3 _ _ _ w).1) ⟨hss _, hM.pure (i := 8) (by decide) (Below.refl _ _)⟩
    · have d := ready_on hr 7 (by kernel_rfl)
      exact act_val dd27 rfl rfl rfl hi hun (ex_extract (.tmp 130) 1 rfl ((ev 7 130 (by decide) rfl d (by decide)).trans (hM.p 7 (by decide) d)) (ex3 _ _ _ w).2.1) ⟨hss _, hM.pure (i := 9) (by decide) (Below.refl _ _)⟩
    · have d := ready_on hr 7 (by kernel_rfl)
      exact act_val dd27 rfl rfl rfl hi hun (ex_extract (.tmp 130) 2 rfl ((ev 7 130 (by decide) rfl d (by decide)).trans (hM.p 7 (by decide) d)) (ex3 _ _ _ w).2.2) ⟨hss _, hM.pure (i := 10) (by decide) (Below.refl _ _)⟩
    · have h13 : s.getD 13 true = false := by
        cases e : s.getD 13 true with
        | false => rfl
        | true => have := hM.d e; rw [hun] at this; cases this
      exact act_val dd27 rfl rfl rfl hi hun (ex_alloc 125 rfl (run_alloc_seq w)) ⟨hss _, hM.al h13⟩
    · have h14 : s.getD 14 true = false := by
        cases e : s.getD 14 true with
        | false => rfl
        | true => have := hM.e e; rw [hun] at this; cases this
      exact act_val dd27 rfl rfl rfl hi hun (ex_alloc 169 rfl (run_alloc_t10 w)) ⟨hss _, hM.cl h14⟩
    · have d := ready_on hr 11 (by kernel_rfl)
      have d2 := ready_on hr 8 (by kernel_rfl)
      obtain ⟨n, h1, h2, h3⟩ := hM.a d
      rw [if_neg (by rw [hun]; decide)] at h3
      exact act_store dd27 rfl rfl rfl rfl hi hun 125 (.tmp 19) (.tmp 138) rfl n _ ((ev 11 19 (by decide) rfl d (by decide)).trans h1) ((ev 8 138 (by decide) rfl d2 (by decide)).trans (hM.p 8 (by decide) d2)) _ _ h3 (s10_info _ _ _ _ _) rfl (s10_one rfl rfl) ⟨hss _, hM.as d hsz h1⟩
    · have d := ready_on hr 12 (by kernel_rfl)
      have d2 := ready_on hr 9 (by kernel_rfl)
      obtain ⟨n, h1, h2, h3⟩ := hM.c d
      rw [if_neg (by rw [hun]; decide)] at h3
      exact act_store dd27 rfl rfl rfl rfl hi hun 169 (.tmp 20) (.tmp 139) rfl n _ ((ev 12 20 (by decide) rfl d (by decide)).trans h1) ((ev 9 139 (by decide) rfl d2 (by decide)).trans (hM.p 9 (by decide) d2)) _ _ h3 (t10_info _ _ _ _ _ _ _) rfl (t10_one _ _ _ _ _ _ _) ⟨hss _, hM.cs d hsz h1⟩
  · have hc : ∀ j, j < 15 → (canon 15 rg27.length).getD j true = true := fun j hj => canon_at hj
    obtain ⟨n19, p19, l19, b19⟩ := hM.a (hc 11 (by decide))
    obtain ⟨n20, p20, l20, b20⟩ := hM.c (hc 12 (by decide))
    rw [if_pos (hc 13 (by decide))] at b19
    rw [if_pos (hc 14 (by decide))] at b20
    refine wpList_val rfl (ex_assign (.tmp 140) rfl ((actOf_eval 15 dd27 (i := 10) (by decide) rfl (hc 10 (by decide)) (by rw [hsz0]; decide)).trans (hM.p 10 (by decide) (hc 10 (by decide))))) ?_
    refine ⟨rfl, n19, n20, ⟨hM.b, b19, b20, l19, l20⟩, ?_⟩
    have hp : ∀ i, i < 11 → V i = (v27 NN c c2 sn sn2 xn g2 d2 h2 l2 a2 o2 pg gl cg nL cw bw ob j rf).getD i undef := fun i hi => hM.p i hi (hc i (by omega))
    simp only [actOf]
    rw [if_pos (hc 0 (by decide)), if_pos (hc 1 (by decide)), if_pos (hc 2 (by decide)), if_pos (hc 3 (by decide)), if_pos (hc 4 (by decide)), if_pos (hc 5 (by decide)), if_pos (hc 6 (by decide)), if_pos (hc 7 (by decide)), if_pos (hc 8 (by decide)), if_pos (hc 9 (by decide)), if_pos (hc 10 (by decide)), if_pos (hc 11 (by decide)), if_pos (hc 12 (by decide)), if_pos (hc 13 (by decide)), if_pos (hc 14 (by decide))]
    have e13 : ∀ a : Act, a.put (L27.getD 13 none) (V 13) = a := fun _ => rfl
    have e14 : ∀ a : Act, a.put (L27.getD 14 none) (V 14) = a := fun _ => rfl
    rw [e14, e13, p19, p20, hp 0 (by decide), hp 1 (by decide), hp 2 (by decide), hp 3 (by decide), hp 4 (by decide), hp 5 (by decide), hp 6 (by decide), hp 7 (by decide), hp 8 (by decide), hp 9 (by decide), hp 10 (by decide)]
    clear hM hp hc HN19 HL35 HCALL hl3 hia
    simp only [L27, v27, List.getD_cons_zero, List.getD_cons_succ]
end
end Go.Proofs.Ytjadapjjilegnaa
namespace Go.Proofs.Ytjadapjjilegnaa
open Go.RowKit
set_option linter.unusedVariables false
def rg30 : List Oper :=
  [{ dst := some 145, op := Op.move (Operand.tmp 11), type := 159, pos := "law.go:228", after := #[{ on := 9, ground := Ground.gcOnly Departure.lateStores }], guard := none },
  { dst := some 146, op := Op.fieldAddr 162 (Operand.tmp 14) 1, type := 0, pos := "law.go:228", after := #[{ on := 9, ground := Ground.gcOnly Departure.lateStores }], guard := none },
  { dst := some 147, op := Op.load 3 (Operand.tmp 146), type := 3, pos := "law.go:228", after := #[{ on := 1, ground := Ground.data }, { on := 9, ground := Ground.gcOnly Departure.lateStores }], guard := none },
  { dst := some 148, op := Op.move (Operand.tmp 12), type := 160, pos := "law.go:228", after := #[{ on := 11, ground := Ground.gcOnly Departure.lateStores }], guard := none },
  { dst := some 149, op := Op.fieldAddr 162 (Operand.tmp 14) 1, type := 0, pos := "law.go:228", after := #[{ on := 11, ground := Ground.gcOnly Departure.lateStores }], guard := none },
  { dst := some 150, op := Op.load 3 (Operand.tmp 149), type := 3, pos := "law.go:228", after := #[{ on := 4, ground := Ground.data }, { on := 11, ground := Ground.gcOnly Departure.lateStores }], guard := none },
  { dst := some 151, op := Op.load 125 (Operand.tmp 19), type := 125, pos := "law.go:228", after := #[], guard := none },
  { dst := some 152, op := Op.load 165 (Operand.tmp 17), type := 165, pos := "law.go:228", after := #[{ on := 9, ground := Ground.gcOnly Departure.lateStores }], guard := none },
  { dst := some 153, op := Op.load 169 (Operand.tmp 20), type := 169, pos := "law.go:228", after := #[{ on := 11, ground := Ground.gcOnly Departure.lateStores }], guard := none },
  { dst := none, op := Op.store 125 (Operand.tmp 9) (Operand.tmp 151), type := 0, pos := "law.go:228", after := #[{ on := 6, ground := Ground.data }, { on := 0, ground := Ground.textOnly Departure.lateStores }, { on := 1, ground := Ground.textOnly Departure.lateStores }, { on := 2, ground := Ground.textOnly Departure.lateStores }, { on := 3, ground := Ground.textOnly Departure.lateStores }, { on := 4, ground := Ground.textOnly Departure.lateStores }, { on := 5, ground := Ground.textOnly Departure.lateStores }, { on := 6, ground := Ground.phase }, { on := 7, ground := Ground.textOnly Departure.lateStores }, { on := 8, ground := Ground.textOnly Departure.lateStores }], guard := none },
  { dst := some 154, op := Op.indexAddr 159 (Operand.tmp 145) (Operand.tmp 147), type := 0, pos := "law.go:228", after := #[{ on := 0, ground := Ground.data }, { on := 2, ground := Ground.data }, { on := 0, ground := Ground.phase }, { on := 1, ground := Ground.phase }, { on := 2, ground := Ground.phase }, { on := 3, ground := Ground.textOnly Departure.lateStores }, { on := 4, ground := Ground.textOnly Departure.lateStores }, { on := 5, ground := Ground.textOnly Departure.lateStores }, { on := 6, ground := Ground.phase }, { on := 7, ground := Ground.phase }, { on := 8, ground := Ground.textOnly Departure.lateStores }, { on := 9, ground := Ground.phase }], guard := none },
  { dst := none, op := Op.store 165 (Operand.tmp 154) (Operand.tmp 152), type := 0, pos := "law.go:228", after := #[{ on := 10, ground := Ground.data }, { on := 7, ground := Ground.data }, { on := 9, ground := Ground.chain }, { on := 0, ground := Ground.phase }, { on := 1, ground := Ground.phase }, { on := 2, ground := Ground.phase }, { on := 3, ground := Ground.textOnly Departure.lateStores }, { on := 4, ground := Ground.textOnly Departure.lateStores }, { on := 5, ground := Ground.textOnly Departure.lateStores }, { on := 6, ground := Ground.phase }, { on := 7, ground := Ground.phase }, { on := 8, ground := Ground.textOnly Departure.lateStores }, { on := 9, ground := Ground.phase }], guard := none },
  { dst := some 155, op := Op.indexAddr 160 (Operand.tmp 148) (Operand.tmp 150), type := 0, pos := "law.go:228", after := #[{ on := 3, ground := Ground.data }, { on := 5, ground := Ground.data }, { on := 0, ground := Ground.phase }, { on := 1, ground := Ground.phase }, { on := 2, ground := Ground.phase }, { on := 3, ground := Ground.phase }, { on := 4, ground := Ground.phase }, { on := 5, ground := Ground.phase }, { on := 6, ground := Ground.phase }, { on := 7, ground := Ground.phase }, { on := 8, ground := Ground.phase }, { on := 9, ground := Ground.phase }, { on := 10, ground := Ground.phase }, { on := 11, ground := Ground.phase }], guard := none },
  { dst := none, op := Op.store 169 (Operand.tmp 155) (Operand.tmp 153), type := 0, pos := "law.go:228", after := #[{ on := 12, ground := Ground.data }, { on := 8, ground := Ground.data }, { on := 11, ground := Ground.chain }, { on := 0, ground := Ground.phase }, { on := 1, ground := Ground.phase }, { on := 2, ground := Ground.phase }, { on := 3, ground := Ground.phase }, { on := 4, ground := Ground.phase }, { on := 5, ground := Ground.phase }, { on := 6, ground := Ground.phase }, { on := 7, ground := Ground.phase }, { on := 8, ground := Ground.phase }, { on := 9, ground := Ground.phase }, { on := 10, ground := Ground.phase }, { on := 11, ground := Ground.phase }], guard := none }]

theorem Frm.setCells {S : Nat → Prop} {a : World} {b : Nat} (hb : S b) : ∀ (vs : List Value) (o : Nat) (w : World), Frm S a w → Frm S a (w.setCells b o vs)
  | [], _, _, h => h
  | v :: vs, o, w, h => Frm.setCells hb vs (o + 1) _ (h.setCell (p := ⟨b, o, none⟩) hb v)
section
variable {P : Program} {ops : Array Oper} {Q : Exit → Act → World → Prop} {D : Nat → Option Tmp} {a0 : Act} {n : Nat} {M : Array Bool → (Nat → Value) → World → Prop}
/-- A store of a whole struct amid a row. -/
theorem act_store_mid {i : Nat} {o : Oper} {s : Array Bool} {V : Nat → Value} {w : World} (hD : DD D n) (ho : ops[i]? = some o) (hd : o.dst = none) (hDi : D i = none) (hg : o.guard = none) (hi : i < n) (hs : s.getD i true = false)
    (ty : TypeId) (x y : Operand) (hop : o.op = .store ty x y) (b off : Nat) (cs : Array Value) (hx : (actOf D V s a0 n).eval x = .pointer (some ⟨b, off, none⟩)) (hy : (actOf D V s a0 n).eval y = .agg cs) (ht : w.there b off cs.size)
    (hi2 : (P.info? ty).map (·.size) = some cs.size) (h1 : cs.all (·.oneCell') = true) (hM : M (s.setIfInBounds i true) (upd V i undef) (w.setCells b off cs.toList)) :
    wpOp P ops Q i (fun a' w' => ActInv D a0 n M (s.setIfInBounds i true) a' w') (actOf D V s a0 n) w := by
  unfold wpOp
  simp only [ho]
  rw [if_pos (by simp [Region.wanted, hg])]
  refine .inl (wp_store_mid ty x y hop b off cs hx hy ht hi2 h1 ⟨_, ?_, hM⟩)
  rw [← actOf_put n hD hi hs undef, hDi, hd]
end

def L30 : List (Option Tmp) := [some 145, some 146, some 147, some 148, some 149, some 150, some 151, some 152, some 153, none, some 154, none, some 155, none]
theorem dd30 : DD (fun i => L30.getD i none) 13 := dd_of (by kernel_rfl) 13 (by decide)
theorem i_cases13 {i : Nat} (h : i < 13) : i = 0 ∨ i = 1 ∨ i = 2 ∨ i = 3 ∨ i = 4 ∨ i = 5 ∨ i = 6 ∨ i = 7 ∨ i = 8 ∨ i = 9 ∨ i = 10 ∨ i = 11 ∨ i = 12 := by omega
def v30 (bl nL cl ob j bw cw : Nat) (q19 ts q20 : Array Value) : List Value :=
  [.slice (some ⟨bl, 0, none⟩) nL cl, .pointer (some ⟨ob, 1, none⟩), .int .i64 (j : Int), .slice (some ⟨bw, 0, none⟩) nL cw, .pointer (some ⟨ob, 1, none⟩), .int .i64 (j : Int), .agg q19, .agg ts, .agg q20, undef, .pointer (some ⟨bl, j * 40, none⟩), undef, .pointer (some ⟨bw, j * 7, none⟩)]
section
variable {W0 w5 : World} {a0 : Act} {sq : Sh} {j ob bl bw mb cl cw n17 n19 n20 : Nat} {c sn sw st : Int} {sh gv il gl : List Int} {vi vg : Value} {bx q19 oc : Array Value} {L : List Cl} {x' : Cl}
/-- What is known on the way. -/
structure M30 (W0 : World) (sq : Sh) (mb : Nat) (bx q19 : Array Value) (c sn : Int) (sh gv : List Int) (sw st : Int) (vi : Value) (il : List Int) (vg : Value) (gl : List Int) (ob : Nat) (oc : Array Value) (bl cl bw cw j : Nat) (L : List Cl) (x' : Cl) (n17 n19 n20 : Nat) (s : Array Bool) (V : Nat → Value) (w : World) : Prop where
  sz : s.size = 14
  p : ∀ i, i < 13 → i ≠ 9 → i ≠ 11 → s.getD i true = true → V i = (v30 bl L.length cl ob j bw cw q19 x'.ts x'.ref).getD i undef
  S : Sr W0 w sq mb (if s.getD 9 true = true then q19 else bx) c sn sh gv sw st vi il vg gl ob oc (.slice (some ⟨bl, 0, none⟩) L.length cl) L.length (if s.getD 11 true = true then tsOf (L.set j x') else tsOf L) (.slice (some ⟨bw, 0, none⟩) L.length cw) L.length (rfOf L)
  h17 : w.heap[n17]? = some (.cells x'.ts 165 (0, 0))
  h19 : w.heap[n19]? = some (.cells q19 125 (0, 0))
  h20 : w.heap[n20]? = some (.cells x'.ref 169 (0, 0))
theorem M30.pure {s : Array Bool} {V : Nat → Value} {w : World} (h : M30 W0 sq mb bx q19 c sn sh gv sw st vi il vg gl ob oc bl cl bw cw j L x' n17 n19 n20 s V w) {i : Nat} (h9 : i ≠ 9) (h11 : i ≠ 11) : M30 W0 sq mb bx q19 c sn sh gv sw st vi il vg gl ob oc bl cl bw cw j L x' n17 n19 n20 (s.setIfInBounds i true) (upd V i ((v30 bl L.length cl ob j bw cw q19 x'.ts x'.ref).getD i undef)) w := by
  refine ⟨by simpa using h.sz, fun k hk k9 k11 hs => ?_, ?_, h.h17, h.h19, h.h20⟩
  · by_cases e : k = i
    · subst e; rw [upd_self]
    · rw [upd_ne _ e]
      rw [getD_set_ne true (Ne.symm e)] at hs
      exact h.p k hk k9 k11 hs
  · rw [getD_set_ne true h9, getD_set_ne true h11]
    exact h.S
theorem M30.box {s : Array Bool} {V : Nat → Value} {w : World} (h : M30 W0 sq mb bx q19 c sn sh gv sw st vi il vg gl ob oc bl cl bw cw j L x' n17 n19 n20 s V w) (hne : n19 ≠ mb) (hb : w.heap[mb]? = some (.cells (if s.getD 9 true = true then q19 else bx) 125 (0, 0))) : M30 W0 sq mb bx q19 c sn sh gv sw st vi il vg gl ob oc bl cl bw cw j L x' n17 n19 n20 (s.setIfInBounds 9 true) (upd V 9 undef) (w.setRow mb q19) := by
  have hf : Frm (fun k => k = mb) w (w.setRow mb q19) := (Frm.refl (fun k => k = mb) w).setRow rfl q19
  refine ⟨by simpa using h.sz, fun k hk k9 k11 hs => ?_, ?_, hf.obj h.h17 (obj_ne h.h17 hb (by decide)), hf.obj h.h19 hne, hf.obj h.h20 (obj_ne h.h20 hb (by decide))⟩
  · rw [upd_ne _ k9]
    rw [getD_set_ne true (Ne.symm k9)] at hs
    exact h.p k hk k9 k11 hs
  · rw [if_pos (set_self _ _), getD_set_ne true (by decide)]
    exact lp_row h.S q19
set_option maxHeartbeats 1000000 in
theorem M30.cells {s : Array Bool} {V : Nat → Value} {w : World} (h : M30 W0 sq mb bx q19 c sn sh gv sw st vi il vg gl ob oc bl cl bw cw j L x' n17 n19 n20 s V w) (hne : n17 ≠ bl) (hs11 : s.getD 11 true = false) (hj : j < L.length) (hTS : ∀ y ∈ L, y.ts.toList.length = 40) (hx : x'.ts.toList.length = 40) : M30 W0 sq mb bx q19 c sn sh gv sw st vi il vg gl ob oc bl cl bw cw j L x' n17 n19 n20 (s.setIfInBounds 11 true) (upd V 11 undef) (w.setCells bl (j * 40) x'.ts.toList) := by
  have hf : Frm (fun k => k = bl) w (w.setCells bl (j * 40) x'.ts.toList) := Frm.setCells (S := fun k => k = bl) rfl _ _ w (Frm.refl (fun k => k = bl) w)
  have hS := h.S
  rw [if_neg (show ¬ s.getD 11 true = true by rw [hs11]; decide)] at hS
  obtain ⟨cur, hbl⟩ := ownsRow_obj (Sr.l hS) (g := bl) (by simp [Value.ownBlock])
  have hrow := row_puts (f := fun y : Cl => y.ts.toList) (x' := x') (Sr.l0 hS) hTS hx rfl hj
  refine ⟨by simpa using h.sz, fun k hk k9 k11 hs => ?_, ?_, hf.obj h.h17 hne, hf.obj h.h19 (obj_ne h.h19 hbl (by decide)), hf.obj h.h20 (obj_ne h.h20 hbl (by decide))⟩
  · rw [upd_ne _ k11]
    rw [getD_set_ne true (Ne.symm k11)] at hs
    exact h.p k hk k9 k11 hs
  · rw [if_pos (set_self _ _), getD_set_ne true (by decide)]
    exact Sr.appL hS hrow (hf.mono fun k _ e => by simp [Value.ownBlock, e]) (.inl rfl)

theorem ia_ts (bl nL cl j : Nat) (hj : j < nL) (hn : nL ≤ 4611686018427387904) (w : World) : (Instr.indexAt 159 (.slice (some ⟨bl, 0, none⟩) nL cl) (.int .i64 (j : Int))).run Try.prog w = .ok (.pointer (some ⟨bl, j * 40, none⟩)) w := by
  have ij0 : (0 : Int) ≤ (j : Int) := by omega
  have ij1 : (j : Int) < (nL : Int) := by omega
  go_simp
theorem ia_rf (bw nL cw j : Nat) (hj : j < nL) (hn : nL ≤ 4611686018427387904) (w : World) : (Instr.indexAt 160 (.slice (some ⟨bw, 0, none⟩) nL cw) (.int .i64 (j : Int))).run Try.prog w = .ok (.pointer (some ⟨bw, j * 7, none⟩)) w := by
  have ij0 : (0 : Int) ≤ (j : Int) := by omega
  have ij1 : (j : Int) < (nL : Int) := by omega
  go_simp
/-- The region: what was stepped stands in the document's box and in both rows. -/
theorem mt_r30 (e9 : a0.eval (.tmp 9) = .pointer (some ⟨mb, 0, none⟩)) (e11 : a0.eval (.tmp 11) = .slice (some ⟨bl, 0, none⟩) L.length cl) (e12 : a0.eval (.tmp 12) = .slice (some ⟨bw, 0, none⟩) L.length cw) (e14 : a0.eval (.tmp 14) = .pointer (some ⟨ob, 0, none⟩)) (e17 : a0.eval (.tmp 17) = .pointer (some ⟨n17, 0, none⟩)) (e19 : a0.eval (.tmp 19) = .pointer (some ⟨n19, 0, none⟩)) (e20 : a0.eval (.tmp 20) = .pointer (some ⟨n20, 0, none⟩)) (hsz0 : a0.tmps.size = 278)
    (hj : j < L.length) (hL : L.length ≤ 1000) (hTS : ∀ y ∈ L, y.ts.toList.length = 40) (hx : x'.ts.toList.length = 40) (hxo : x'.ts.all (·.oneCell') = true) (hxi : (Try.prog.info? 165).map (·.size) = some x'.ts.size) (n1 : n17 ≠ bl) (n2 : n19 ≠ mb) (n3 : n20 ≠ bw)
    (hq : q19.size = bx.size) (hq2 : (Try.prog.info? 125).map (·.size) = some q19.size) (hq3 : q19.all (·.oneCell') = true) (hoc : oc[1]? = some (.int .i64 (j : Int)))
    (h17 : w5.heap[n17]? = some (.cells x'.ts 165 (0, 0))) (h19 : w5.heap[n19]? = some (.cells q19 125 (0, 0))) (h20 : w5.heap[n20]? = some (.cells x'.ref 169 (0, 0)))
    (hS : Sr W0 w5 sq mb bx c sn sh gv sw st vi il vg gl ob oc (.slice (some ⟨bl, 0, none⟩) L.length cl) L.length (tsOf L) (.slice (some ⟨bw, 0, none⟩) L.length cw) L.length (rfOf L)) :
    (Code.region 30 rg30.toArray true).wp Try.prog (fun e a' y => e = .normal ∧ (Sr W0 y sq mb q19 c sn sh gv sw st vi il vg gl ob oc (.slice (some ⟨bl, 0, none⟩) L.length cl) L.length (tsOf (L.set j x')) (.slice (some ⟨bw, 0, none⟩) L.length cw) L.length (rfOf (L.set j x')) ∧ y.heap[n17]? = some (.cells x'.ts 165 (0, 0)) ∧ y.heap[n20]? = some (.cells x'.ref 169 (0, 0))) ∧
      a' = (((((((((((a0.put (some 145) (.slice (some ⟨bl, 0, none⟩) L.length cl)).put (some 146) (.pointer (some ⟨ob, 1, none⟩))).put (some 147) (.int .i64 (j : Int))).put (some 148) (.slice (some ⟨bw, 0, none⟩) L.length cw)).put (some 149) (.pointer (some ⟨ob, 1, none⟩))).put (some 150) (.int .i64 (j : Int))).put (some 151) (.agg q19)).put (some 152) (.agg x'.ts)).put (some 153) (.agg x'.ref)).put (some 154) (.pointer (some ⟨bl, j * 40, none⟩))).put (some 155) (.pointer (some ⟨bw, j * 7, none⟩)))) a0 w5 := by
  have hrep : ∀ i, i < 14 → (Array.replicate rg30.length false).getD i true = false := fun i hi => by
    simp [show i < rg30.length from hi]
  refine wp_region_act (l := rg30) 13 (fun i => L30.getD i none) (M30 W0 sq mb bx q19 c sn sh gv sw st vi il vg gl ob oc bl cl bw cw j L x' n17 n19 n20) mixed (by decide) (by kernel_rfl) (by kernel_rfl) (by kernel_rfl) (by kernel_rfl) (fun _ => undef) ⟨by simp [rg30], fun i hi _ _ h => (by rw [hrep i (by omega)] at h; cases h), ?_, h17, h19, h20⟩ (fun i s V w hi hr hM => ?_) (fun V w hM => ?_)
  · rw [if_neg (by rw [hrep 9 (by decide)]; decide), if_neg (by rw [hrep 11 (by decide)]; decide)]
    exact Sr.keep hS (Below.drew (Below.refl _ _))
  · have hun := ready_un hr
    have ev : ∀ (j k : Nat), j < 13 → L30.getD j none = some k → s.getD j true = true → k < 278 → (actOf (fun i => L30.getD i none) V s a0 13).eval (.tmp k) = V j := fun j k hj hk hs hk2 => actOf_eval 13 dd30 hj hk hs (by rw [hsz0]; exact hk2)
    have ev0 : ∀ k, (∀ j, j < 13 → L30.getD j none ≠ some k) → (actOf (fun i => L30.getD i none) V s a0 13).eval (.tmp k) = a0.eval (.tmp k) := fun k h => actOf_eval0 13 fun j hj _ => h j hj
    have hlo : (Instr.loadAt 3 (.pointer (some ⟨ob, 1, none⟩))).run Try.prog w = .ok (.int .i64 (j : Int)) w := by
      have ho := (obj_cell (Sr.o hM.S) 1).trans hoc
      go_simp
    rcases i_cases13 hi with rfl | rfl | rfl | rfl | rfl | rfl | rfl | rfl | rfl | rfl | rfl | rfl | rfl
    · exact act_val dd30 rfl rfl rfl hi hun (ex_move (.tmp 11) rfl ((ev0 11 (by decide)).trans e11)) (hM.pure (i := 0) (by decide) (by decide))
    · exact act_val dd30 rfl rfl rfl hi hun (ex_field 162 (.tmp 14) 1 rfl ((ev0 14 (by decide)).trans e14) (fa_act ob w)) (hM.pure (i := 1) (by decide) (by decide))
    · have d := ready_on hr 1 (by kernel_rfl)
      exact act_val dd30 rfl rfl rfl hi hun (ex_load 3 (.tmp 146) rfl ((ev 1 146 (by decide) rfl d (by decide)).trans (hM.p 1 (by decide) (by decide) (by decide) d)) hlo) (hM.pure (i := 2) (by decide) (by decide))
    · exact act_val dd30 rfl rfl rfl hi hun (ex_move (.tmp 12) rfl ((ev0 12 (by decide)).trans e12)) (hM.pure (i := 3) (by decide) (by decide))
    · exact act_val dd30 rfl rfl rfl hi hun (ex_field 162 (.tmp 14) 1 rfl ((ev0 14 (by decide)).trans e14) (fa_act ob w)) (hM.pure (i := 4) (by decide) (by decide))
    · have d := ready_on hr 4 (by kernel_rfl)
      exact act_val dd30 rfl rfl rfl hi hun (ex_load 3 (.tmp 149) rfl ((ev 4 149 (by decide) rfl d (by decide)).trans (hM.p 4 (by decide) (by decide) (by decide) d)) hlo) (hM.pure (i := 5) (by decide) (by decide))
    · exact act_val dd30 rfl rfl rfl hi hun (ex_load 125 (.tmp 19) rfl ((ev0 19 (by decide)).trans e19) (run_loadAt_row w n19 _ _ _ _ _ hM.h19 Try.underlying125 rfl hq2)) (hM.pure (i := 6) (by decide) (by decide))
    · exact act_val dd30 rfl rfl rfl hi hun (ex_load 165 (.tmp 17) rfl ((ev0 17 (by decide)).trans e17) (run_loadAt_row w n17 _ _ _ _ _ hM.h17 Try.underlying165 rfl hxi)) (hM.pure (i := 7) (by decide) (by decide))
    · exact act_val dd30 rfl rfl rfl hi hun (ex_load 169 (.tmp 20) rfl ((ev0 20 (by decide)).trans e20) (run_loadAt_row w n20 _ _ _ _ _ hM.h20 Try.underlying169 rfl (by kernel_rfl))) (hM.pure (i := 8) (by decide) (by decide))
    · have d := ready_on hr 6 (by kernel_rfl)
      have hb : w.heap[mb]? = some (.cells (if s.getD 9 true = true then q19 else bx) 125 (0, 0)) := lp_box hM.S
      exact act_store dd30 rfl rfl rfl rfl hi hun 125 (.tmp 9) (.tmp 151) rfl mb q19 ((ev0 9 (by decide)).trans e9) ((ev 6 151 (by decide) rfl d (by decide)).trans (hM.p 6 (by decide) (by decide) (by decide) d)) _ _ hb hq2 (by rw [if_neg (show ¬ s.getD 9 true = true by rw [hun]; decide)]; exact hq.symm) hq3 (hM.box n2 hb)
    · have d := ready_on hr 0 (by kernel_rfl)
      have d2 := ready_on hr 2 (by kernel_rfl)
      exact act_val dd30 rfl rfl rfl hi hun (ex_index 159 (.tmp 145) (.tmp 147) rfl ((ev 0 145 (by decide) rfl d (by decide)).trans (hM.p 0 (by decide) (by decide) (by decide) d)) ((ev 2 147 (by decide) rfl d2 (by decide)).trans (hM.p 2 (by decide) (by decide) (by decide) d2)) (ia_ts bl L.length cl j hj (by omega) w)) (hM.pure (i := 10) (by decide) (by decide))
    · have d := ready_on hr 10 (by kernel_rfl)
      have d2 := ready_on hr 7 (by kernel_rfl)
      have hrow : w.ownsRow 0 165 40 (.slice (some ⟨bl, 0, none⟩) L.length cl) L.length _ := Sr.l0 hM.S
      have hth := there_row hrow hj
      exact act_store_mid dd30 rfl rfl rfl rfl hi hun 165 (.tmp 154) (.tmp 152) rfl bl (j * 40) x'.ts ((ev 10 154 (by decide) rfl d (by decide)).trans (hM.p 10 (by decide) (by decide) (by decide) d)) ((ev 7 152 (by decide) rfl d2 (by decide)).trans (hM.p 7 (by decide) (by decide) (by decide) d2)) (by rw [show x'.ts.size = 40 by simpa using hx]; exact hth) hxi hxo (hM.cells n1 hun hj hTS hx)
    · have d := ready_on hr 3 (by kernel_rfl)
      have d2 := ready_on hr 5 (by kernel_rfl)
      exact act_val dd30 rfl rfl rfl hi hun (ex_index 160 (.tmp 148) (.tmp 150) rfl ((ev 3 148 (by decide) rfl d (by decide)).trans (hM.p 3 (by decide) (by decide) (by decide) d)) ((ev 5 150 (by decide) rfl d2 (by decide)).trans (hM.p 5 (by decide) (by decide) (by decide) d2)) (ia_rf bw L.length cw j hj (by omega) w)) (hM.pure (i := 12) (by decide) (by decide))
  · have hc : ∀ j, j < 13 → (canon 13 rg30.length).getD j true = true := fun j hj => canon_at hj
    have hp : ∀ i, i < 13 → i ≠ 9 → i ≠ 11 → V i = (v30 bl L.length cl ob j bw cw q19 x'.ts x'.ref).getD i undef := fun i hi h9 h11 => hM.p i hi h9 h11 (hc i hi)
    have hS2 := hM.S
    rw [if_pos (hc 9 (by decide)), if_pos (hc 11 (by decide))] at hS2
    have hRF : ∀ y ∈ L, y.ref.toList.length = 7 := fun y _ => rfl
    have hth := there_row (Sr.w0 hS2) hj
    obtain ⟨cur, hbw⟩ := ownsRow_obj (Sr.rw hS2) (g := bw) (by simp [Value.ownBlock])
    have hrow := row_puts (f := fun y : Cl => y.ref.toList) (x' := x') (Sr.w0 hS2) hRF rfl rfl hj
    have hf : Frm (fun k => k = bw) w (w.setCells bw (j * 7) x'.ref.toList) := Frm.setCells (S := fun k => k = bw) rfl _ _ w (Frm.refl (fun k => k = bw) w)
    have x1 : (actOf (fun i => L30.getD i none) V (canon 13 rg30.length) a0 13).eval (.tmp 155) = .pointer (some ⟨bw, j * 7, none⟩) := (actOf_eval 13 dd30 (i := 12) (by decide) rfl (hc 12 (by decide)) (by rw [hsz0]; decide)).trans (hp 12 (by decide) (by decide) (by decide))
    have x2 : (actOf (fun i => L30.getD i none) V (canon 13 rg30.length) a0 13).eval (.tmp 153) = .agg x'.ref := (actOf_eval 13 dd30 (i := 8) (by decide) rfl (hc 8 (by decide)) (by rw [hsz0]; decide)).trans (hp 8 (by decide) (by decide) (by decide))
    refine wpList_store_mid rfl 169 (.tmp 155) (.tmp 153) rfl bw (j * 7) x'.ref x1 x2 hth (by kernel_rfl) (t10_one _ _ _ _ _ _ _) ?_
    refine ⟨rfl, ⟨Sr.appW hS2 hrow (hf.mono fun k _ e => by simp [Value.ownBlock, e]) (.inl rfl), hf.obj hM.h17 (obj_ne hM.h17 hbw (by decide)), hf.obj hM.h20 n3⟩, ?_⟩
    simp only [actOf]
    rw [if_pos (hc 0 (by decide)), if_pos (hc 1 (by decide)), if_pos (hc 2 (by decide)), if_pos (hc 3 (by decide)), if_pos (hc 4 (by decide)), if_pos (hc 5 (by decide)), if_pos (hc 6 (by decide)), if_pos (hc 7 (by decide)), if_pos (hc 8 (by decide)), if_pos (hc 9 (by decide)), if_pos (hc 10 (by decide)), if_pos (hc 11 (by decide)), if_pos (hc 12 (by decide))]
    have e9 : ∀ a : Act, a.put (L30.getD 9 none) (V 9) = a := fun _ => rfl
    have e11 : ∀ a : Act, a.put (L30.getD 11 none) (V 11) = a := fun _ => rfl
    rw [e11, e9, hp 0 (by decide) (by decide) (by decide), hp 1 (by decide) (by decide) (by decide), hp 2 (by decide) (by decide) (by decide), hp 3 (by decide) (by decide) (by decide), hp 4 (by decide) (by decide) (by decide), hp 5 (by decide) (by decide) (by decide), hp 6 (by decide) (by decide) (by decide), hp 7 (by decide) (by decide) (by decide), hp 8 (by decide) (by decide) (by decide), hp 10 (by decide) (by decide) (by decide), hp 12 (by decide) (by decide) (by decide)]
    clear hM hp hc hS2 hrow hS
    simp only [L30, v30, List.getD_cons_zero, List.getD_cons_succ, put_no]
end
end Go.Proofs.Ytjadapjjilegnaa
