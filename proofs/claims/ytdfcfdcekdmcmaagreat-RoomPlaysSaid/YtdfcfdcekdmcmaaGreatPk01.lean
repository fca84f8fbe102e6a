/-
  errors.Is of a number within faults, fault.Wrap, and the statements' own Is: contracts. An error here is a number, or a fault around such an error.
-/
import Derived.Test.YtdfcfdcekdmcmaaGreatChecked
import Derived.WalkKit
import Derived.LaidEql
import Derived.Stop.Asserts
import Derived.RowKitTokens
import Derived.Below
import Derived.Lib.Hide
import Derived.Handy
set_option linter.unusedVariables false
set_option linter.unusedSimpArgs false
namespace Go.Proofs.YtdfcfdcekdmcmaaGreat
open Go.RowKit Go.Extern.Stop Go.Stop Go.Extern
section
variable {P : Program} (w : World)
theorem eqIn_ints (d : Nat) {ti tn : TypeId} {ms : Array (String × TypeId)} {i : TypeInfo} {k : IntKind} (a b : Int)
    (hi : P.underlying ti = some (.interface ms)) (hn : P.underlying tn = some (.int k)) (hinfo : P.info? tn = some i) (hcomp : i.comparable = true) :
    (Op.equalIn (d + 2) ti (.iface tn (.int k a)) (.iface tn (.int k b))).run P w = .ok (a == b) w := by
  simp [Op.equalIn, run_underlying hi, run_underlying hn, typeInfo, hinfo, hcomp]
theorem eq_ints {ti tn : TypeId} {ms : Array (String × TypeId)} {i : TypeInfo} {k : IntKind} (a b : Int)
    (hi : P.underlying ti = some (.interface ms)) (hn : P.underlying tn = some (.int k)) (hinfo : P.info? tn = some i) (hcomp : i.comparable = true) :
    (binOp .eql ti (.iface tn (.int k a)) (.iface tn (.int k b))).run P w = .ok (.bool (a == b)) w := by
  simp only [binOp]
  simp [Op.equal, Op.maxDepth, eqIn_ints w 9998 a b hi hn hinfo hcomp]
end
theorem Tryz.callTypeOf (v : Value) (w : World) : (callFunc 138 #[.iface 156 v]).run Tryz.prog w = .ok (Next.value (.iface 253 (.agg #[.pointer (some ⟨0, 156, none⟩)]))) w := by kernel_rfl
theorem Tryz.callComparable (w : World) : (callFunc 208 #[.agg #[.pointer (some ⟨0, 156, none⟩)]]).run Tryz.prog w = .ok (Next.value (.bool true)) w := by kernel_rfl
theorem Tryz.comp : (Tryz.prog.info? 156).map (·.comparable) = some true := by kernel_rfl
theorem Tryz.noIsE (v : Value) (xT : TypeId) (w : World) : (Instr.typeAssert (.iface 156 v) xT 255 true).run Tryz.prog w = .ok (.tuple #[.nilIface, .bool false]) w := run_typeAssert_lacksB Tryz.underlying255 (by kernel_rfl) (by kernel_rfl) v xT w
theorem Tryz.noUnwrapE (v : Value) (xT : TypeId) (w : World) : (Instr.typeAssert (.iface 156 v) xT 258 true).run Tryz.prog w = .ok (.tuple #[.nilIface, .bool false]) w := run_typeAssert_lacksB Tryz.underlying258 (by kernel_rfl) (by kernel_rfl) v xT w
theorem Tryz.noUnwrapsE (v : Value) (xT : TypeId) (w : World) : (Instr.typeAssert (.iface 156 v) xT 260 true).run Tryz.prog w = .ok (.tuple #[.nilIface, .bool false]) w := run_typeAssert_lacksB Tryz.underlying260 (by kernel_rfl) (by kernel_rfl) v xT w
theorem Tryz.noIsF (v : Value) (xT : TypeId) (w : World) : (Instr.typeAssert (.iface 200 v) xT 255 true).run Tryz.prog w = .ok (.tuple #[.nilIface, .bool false]) w := run_typeAssert_lacksB Tryz.underlying255 (by kernel_rfl) (by kernel_rfl) v xT w
theorem Tryz.hasUnwrapF (v : Value) (xT : TypeId) (w : World) : (Instr.typeAssert (.iface 200 v) xT 258 true).run Tryz.prog w = .ok (.tuple #[.iface 200 v, .bool true]) w := run_typeAssert_hasB Tryz.underlying258 (by kernel_rfl) v xT w
inductive Chain (W : World) : Value → Nat → Int → Prop
  | num (n : Int) : Chain W (.iface 156 (.int .i64 n)) 0 n
  | fault (b : Nat) (op : ByteArray) (seq : Int) (E : Value) (d : Nat) (n : Int) : W.heap[b]? = some (.cells #[.string op, .int .i64 seq, E] 202 (0, 0)) → Chain W E d n → Chain W (.iface 200 (.pointer (some ⟨b, 0, none⟩))) (d + 1) n
theorem heap_cell {W : World} {b : Nat} {c : Array Value} {t : TypeId} {m : Nat × Nat} (h : W.heap[b]? = some (.cells c t m)) (i : Nat) : W.cell? ⟨b, i, none⟩ = c[i]? := by
  simp [World.cell?, h]
theorem heap_at (w : World) (o : Obj) (n : Nat) (h : n = w.heap.size) : (w.alloc o).heap[n]? = some o := by
  subst h; exact (MapKept.heap_alloc w _).1
theorem heap_lt {W : World} {b : Nat} {o : Obj} (h : W.heap[b]? = some o) : b < W.heap.size := by
  rcases Nat.lt_or_ge b W.heap.size with k | k
  · exact k
  · simp [k] at h
theorem Chain.unique {W : World} {E : Value} {d d' : Nat} {n n' : Int} (h : Chain W E d n) (h' : Chain W E d' n') : d = d' ∧ n = n' := by
  induction h generalizing d' n' with
  | num n => cases h'; exact ⟨rfl, rfl⟩
  | fault b op seq E d n h0 h ih =>
    cases h' with
    | fault _ op2 seq2 E2 d2 n2 k0 k =>
      rw [h0] at k0; cases k0
      obtain ⟨e1, e2⟩ := ih k
      exact ⟨by rw [e1], e2⟩
theorem Chain.iface {W : World} {E : Value} {d : Nat} {n : Int} (h : Chain W E d n) : ∃ t v, E = .iface t v := by
  cases h <;> exact ⟨_, _, rfl⟩
open Classical in
noncomputable def chainLen (W : World) (E : Value) : Nat := if h : ∃ d n, Chain W E d n then h.choose else 0
theorem chainLen_eq {W : World} {E : Value} {d : Nat} {n : Int} (h : Chain W E d n) : chainLen W E = d := by
  unfold chainLen
  have hx : ∃ d n, Chain W E d n := ⟨d, n, h⟩
  rw [dif_pos hx]
  obtain ⟨n', h'⟩ := hx.choose_spec
  exact (Chain.unique h' h).1
theorem unwrap_any (b : Nat) (E : Value) (w : World) (h : w.cell? ⟨b, 2, none⟩ = some E) :
    Calls Tryz.prog 204 #[.pointer (some ⟨b, 0, none⟩)] w fun e w' => e = .returned E ∧ w = w' := by
  go_enter Tryz.func204, Tryz.ntmps204
  go_wp2
  go_ret
  exact ⟨rfl, rfl⟩
set_option maxRecDepth 1000000 in
theorem is_chain {W : World} (m : Int) (E : Value) (d : Nat) (n : Int) (hch : Chain W E d n) :
    Calls Tryz.prog 139 #[E, .iface 156 (.int .i64 m), .bool true] W fun e w' => e = .returned (.bool (n == m)) ∧ W = w' := by
  obtain ⟨i, hi, hcmp⟩ := Option.map_eq_some_iff.1 Tryz.comp
  have nE := Tryz.noIsE
  have uE := Tryz.noUnwrapE
  have vE := Tryz.noUnwrapsE
  have nW := Tryz.noIsF
  have uW := Tryz.hasUnwrapF
  go_enter Tryz.func139, Tryz.ntmps139
  go_wp2
  go_loopw [0] (fun E' wl => wl = W ∧ ∃ d', Chain W E' d' n) (fun E' _ => chainLen W E')
  case atStart => exact ⟨rfl, d, hch⟩
  case round =>
    obtain ⟨rfl, d', hc'⟩ := hrel
    cases hc' with
    | num =>
      by_cases hab : n = m
      · subst hab
        have heq := eq_ints (P := Tryz.prog) wr n n Tryz.underlying38 Tryz.underlying156 hi hcmp
        simp only [beq_self_eq_true] at heq
        go_wp2
        go_ret
        exact ⟨by simp, rfl⟩
      · have hb : (n == m) = false := by simpa using hab
        have heq := eq_ints (P := Tryz.prog) wr n m Tryz.underlying38 Tryz.underlying156 hi hcmp
        rw [hb] at heq
        go_wp2
        go_ret
        exact ⟨by simp [hb], rfl⟩
    | fault b op seq E1 d1 _ h0 hc =>
      have h2 := heap_cell h0 2
      have hty := run_eql_iface_types (P := Tryz.prog) 200 156 (.pointer (some ⟨b, 0, none⟩)) (.int .i64 m) Tryz.underlying38 (by decide) wr
      have hlen := chainLen_eq hc
      have hlen0 := chainLen_eq (Chain.fault b op seq E1 d1 n h0 hc)
      obtain ⟨u1, v1, rfl⟩ := hc.iface
      have HC : Hid (Chain wr (.iface u1 v1) d1 n) := hc
      have HL : Hid _ := hlen
      have HL0 : Hid _ := hlen0
      clear hc hlen hlen0
      go_wp2_with (go_at_call 204; refine (unwrap_any b _ _ h2).mono ?_; rintro e w' ⟨rfl, rfl⟩)
      go_roundw
      case rel => exact ⟨trivial, d1, HC.out⟩
      case measure =>
        show chainLen wr (.iface u1 v1) < _
        rw [HL.out, HL0.out]; omega
theorem Is_chain {W : World} (m : Int) (E : Value) (d : Nat) (n : Int) (hch : Chain W E d n) :
    Calls Tryz.prog 101 #[E, .iface 156 (.int .i64 m)] W fun e w' => e = .returned (.bool (n == m)) ∧ W = w' := by
  have tT := Tryz.callTypeOf
  have cT := Tryz.callComparable
  obtain ⟨u1, v1, rfl⟩ := hch.iface
  have HC := Lib.hid hch
  clear hch
  go_enter Tryz.func101, Tryz.ntmps101
  go_wp2_with (go_at_call 139; refine (is_chain m _ d n HC.out).mono ?_; rintro e w' ⟨rfl, rfl⟩)
  go_ret
  exact ⟨rfl, rfl⟩
theorem isN_chain {W : World} (m : Int) (E : Value) (d : Nat) (n : Int) (hch : Chain W E d n) (hm : m ≠ 0) :
    Calls Tryz.prog 44 #[E, .int .i64 m] W fun e w' => e = .returned (.bool (n == m)) ∧ W = w' := by
  obtain ⟨u1, v1, rfl⟩ := hch.iface
  have HC := Lib.hid hch
  clear hch
  have hm' : (m == 0) = false := by simpa using hm
  go_enter Tryz.func44, Tryz.ntmps44
  go_wp2_with (go_at_call 101; refine (Is_chain m _ d n HC.out).mono ?_; rintro e w' ⟨rfl, rfl⟩)
  go_ret
  exact ⟨rfl, rfl⟩
theorem isN_zero {W : World} (E : Value) (d : Nat) (n : Int) (hch : Chain W E d n) :
    Calls Tryz.prog 44 #[E, .int .i64 0] W fun e w' => e = .returned (.bool false) ∧ W = w' := by
  obtain ⟨u1, v1, rfl⟩ := hch.iface
  clear hch
  go_enter Tryz.func44, Tryz.ntmps44
  go_wp2
  go_ret
  exact ⟨rfl, rfl⟩
theorem isN_nil {W : World} (m : Int) :
    Calls Tryz.prog 44 #[.nilIface, .int .i64 m] W fun e w' => e = .returned (.bool (m == 0)) ∧ W = w' := by
  by_cases hm : m = 0
  · subst hm
    go_enter Tryz.func44, Tryz.ntmps44
    go_wp2
    go_ret
    exact ⟨rfl, rfl⟩
  · have hm' : (m == 0) = false := by simpa using hm
    go_enter Tryz.func44, Tryz.ntmps44
    go_wp2
    go_ret
    exact ⟨by simp [hm'], rfl⟩
theorem Chain.keep {W W' : World} (hb : Below W.heap.size W W') {E : Value} {d : Nat} {n : Int} (h : Chain W E d n) : Chain W' E d n := by
  induction h with
  | num n => exact .num n
  | fault b op seq E d n h0 h ih => exact .fault b op seq E d n ((hb.block b (heap_lt h0)).trans h0) ih
theorem bcell {W w1 : World} (hb : Below W.heap.size W w1) : (∀ b o, b < W.heap.size → w1.cell? ⟨b, o, none⟩ = W.cell? ⟨b, o, none⟩) ∧ (∀ b o, b < W.heap.size → w1.frozen? ⟨b, o, none⟩ = W.frozen? ⟨b, o, none⟩) ∧ W.heap.size ≤ w1.heap.size :=
  ⟨fun b o h => hb.cell (p := ⟨b, o, none⟩) h, fun b o h => hb.frozen (p := ⟨b, o, none⟩) h, hb.size⟩
theorem cell_lt {W : World} {b o : Nat} {v : Value} (hc : W.cell? ⟨b, o, none⟩ = some v) : b < W.heap.size := by
  rcases Nat.lt_or_ge b W.heap.size with h | h
  · exact h
  · have : W.heap[b]? = none := by simp [h]
    simp [World.cell?, this] at hc
theorem keepc {W w1 : World} (hb : Below W.heap.size W w1) {b o : Nat} {v : Value} (h : W.cell? ⟨b, o, none⟩ = some v) : w1.cell? ⟨b, o, none⟩ = some v :=
  ((bcell hb).1 b o (cell_lt h)).trans h
theorem bthen {a b c : World} (h : Below a.heap.size a b) (k : Below b.heap.size b c) : Below a.heap.size a c := h.trans (k.mono h.size)
theorem balloc {a b : World} (h : Below a.heap.size a b) (o : Obj) : Below a.heap.size a (b.alloc o) := h.alloc h.size _
theorem wrap_iface {W : World} (op : ByteArray) (seq : Int) (u : TypeId) (v : Value) :
    Calls Tryz.prog 75 #[.string op, .int .i64 seq, .iface u v] W fun e w' => e = .returned (.iface 200 (.pointer (some ⟨W.heap.size, 0, none⟩))) ∧ W.alloc (.cells #[.string op, .int .i64 seq, .iface u v] 202) = w' := by
  go_enter Tryz.func75, Tryz.ntmps75
  go_wp2
  go_ret
  exact ⟨rfl, rfl⟩
theorem err_new {W w' : World} {op id : Value} {n : Int} (h : W.alloc (.cells #[op, id, .iface 156 (.int .i64 n)] 202) = w') (hop : ∃ s, op = .string s := by exact ⟨_, rfl⟩) (hid : ∃ i, id = .int .i64 i := by exact ⟨_, rfl⟩) :
    Chain w' (.iface 200 (.pointer (some ⟨W.heap.size, 0, none⟩))) 1 n ∧ Below W.heap.size W w' := by
  obtain ⟨s, rfl⟩ := hop
  obtain ⟨i, rfl⟩ := hid
  subst h
  exact ⟨.fault _ _ _ _ _ _ (heap_at _ _ _ rfl) (.num n), (Below.refl _ _).alloc (Nat.le_refl _) _⟩
end Go.Proofs.YtdfcfdcekdmcmaaGreat
