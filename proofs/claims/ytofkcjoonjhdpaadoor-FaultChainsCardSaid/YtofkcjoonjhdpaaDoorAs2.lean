/-
  errors.As of an error: the number in it is found, however many faults stand around it; a fault is found where the error is one. Condition: the target is a variable that may be written, and the library's own variable for the type error holds it.
-/
import Derived.Test.YtofkcjoonjhdpaaDoorAs
namespace Go.Proofs.YtofkcjoonjhdpaaDoor
open Go.RowKit Go.Extern.Stop Go.Stop Go.Extern

/-- The world with new blocks, and one old variable set. -/
def SetTo (W : World) (b : Nat) (v : Value) (w' : World) : Prop := ∃ w1, Below W.heap.size W w1 ∧ w' = w1.setCell ⟨b, 0, none⟩ v
theorem keepf {W w1 : World} (hb : Below W.heap.size W w1) {b o : Nat} {x : Value} (hc : W.cell? ⟨b, o, none⟩ = some x) (h : W.frozen? ⟨b, o, none⟩ = false) : w1.frozen? ⟨b, o, none⟩ = false :=
  ((bcell hb).2.1 b o (cell_lt hc)).trans h
theorem Chain.up {W : World} {o : Obj} {E : Value} {d : Nat} {n : Int} (h : Chain W E d n) : Chain (W.alloc o) E d n := h.keep (balloc (Below.refl _ _) _)
theorem up_cell {W : World} {o : Obj} {b i : Nat} {v : Value} (h : W.cell? ⟨b, i, none⟩ = some v) : (W.alloc o).cell? ⟨b, i, none⟩ = some v := keepc (balloc (Below.refl _ _) _) h
theorem up_frozen {W : World} {o : Obj} {b i : Nat} {v : Value} (hc : W.cell? ⟨b, i, none⟩ = some v) (h : W.frozen? ⟨b, i, none⟩ = false) : (W.alloc o).frozen? ⟨b, i, none⟩ = false := keepf (balloc (Below.refl _ _) _) hc h


set_option maxHeartbeats 1000000 in
set_option maxRecDepth 100000 in
theorem as_num {W : World} (E : Value) (d : Nat) (n : Int) (hch : Chain W E d n) (tb vb : Nat) (old : Value) (hv : W.cell? ⟨vb, 0, none⟩ = some (.pointer (some ⟨tb, 0, none⟩))) (ht : W.cell? ⟨tb, 0, none⟩ = some old) (hf : W.frozen? ⟨tb, 0, none⟩ = false) :
    Calls Tryd.prog 24 #[E, .iface 50 (.pointer (some ⟨tb, 0, none⟩)), .agg #[.pointer (some ⟨4, 50, none⟩), .pointer (some ⟨vb, 0, none⟩), .int .u64 150], .iface 80 (.agg #[.pointer (some ⟨4, 30, none⟩)])] W fun e w' => e = .returned (.bool true) ∧ SetTo W tb (.int .i64 n) w' := by
  have hv1 := Lib.hid (up_cell (o := (.cells #[.pointer (some ⟨4, 50, none⟩), .pointer (some ⟨vb, 0, none⟩), .int .u64 150] 55)) hv)
  have ht1 := up_cell (o := (.cells #[.pointer (some ⟨4, 50, none⟩), .pointer (some ⟨vb, 0, none⟩), .int .u64 150] 55)) ht
  have hf1 := up_frozen (o := (.cells #[.pointer (some ⟨4, 50, none⟩), .pointer (some ⟨vb, 0, none⟩), .int .u64 150] 55)) ht hf
  have hz := Lib.hid (World.size_alloc W (.cells #[.pointer (some ⟨4, 50, none⟩), .pointer (some ⟨vb, 0, none⟩), .int .u64 150] 55))
  have tE := Tryd.typeOfE
  have tF := Tryd.typeOfF
  have aEE := Tryd.assignableEE
  have aFE := Tryd.assignableFE
  have nF := Tryd.noAsF
  have uF := Tryd.hasUnwrapF
  have vE := Tryd.valueOfE
  have HCH := Lib.hid hch
  clear hch hv ht hf
  go_enter Tryd.func24, Tryd.ntmps24
  go_wp2
  go_loopw [0] (fun E' wl => wl = W.alloc (.cells #[.pointer (some ⟨4, 50, none⟩), .pointer (some ⟨vb, 0, none⟩), .int .u64 150] 55) ∧ ∃ d', Chain W E' d' n) (fun E' _ => chainLen W E')
  case atStart => exact ⟨rfl, d, HCH.out⟩
  case round =>
    obtain ⟨rfl, d', hc'⟩ := hrel
    cases hc' with
    | num =>
      have el := Tryd.elemVEP ⟨vb, 0, none⟩ ⟨tb, 0, none⟩ _ hv1.out
      have st := Tryd.setE ⟨tb, 0, none⟩ ⟨W.heap.size + 1, 0, none⟩ n old ((W.alloc (.cells #[.pointer (some ⟨4, 50, none⟩), .pointer (some ⟨vb, 0, none⟩), .int .u64 150] 55)).alloc (.cells #[.int .i64 n] 30)) (by simp) (up_cell ht1) (up_frozen ht1 hf1)
      go_wp2
      go_ret
      exact ⟨rfl, _, by go_grown, rfl⟩
    | fault b op seq E1 d1 _ h0 hc =>
      have h2 := up_cell (o := (.cells #[.pointer (some ⟨4, 50, none⟩), .pointer (some ⟨vb, 0, none⟩), .int .u64 150] 55)) (heap_cell h0 2)
      have hlen := chainLen_eq hc
      have hlen0 := chainLen_eq (Chain.fault b op seq E1 d1 n h0 hc)
      obtain ⟨u1, v1, rfl⟩ := hc.iface
      have HC : Hid (Chain W (.iface u1 v1) d1 n) := hc
      have HL : Hid _ := hlen
      have HL0 : Hid _ := hlen0
      clear hc hlen hlen0 h0
      go_wp2_with (go_at_call 14; refine (unwrap_any b _ _ h2).mono ?_; rintro e w' ⟨rfl, rfl⟩)
      go_roundw
      case rel => exact ⟨trivial, d1, HC.out⟩
      case measure =>
        show chainLen W (.iface u1 v1) < _
        rw [HL.out, HL0.out]; omega


set_option maxHeartbeats 1000000 in
theorem as_fault {W : World} (a : Addr) (tb vb : Nat) (old : Value) (hv : W.cell? ⟨vb, 0, none⟩ = some (.pointer (some ⟨tb, 0, none⟩))) (ht : W.cell? ⟨tb, 0, none⟩ = some old) (hf : W.frozen? ⟨tb, 0, none⟩ = false) :
    Calls Tryd.prog 24 #[.iface 36 (.pointer (some a)), .iface 38 (.pointer (some ⟨tb, 0, none⟩)), .agg #[.pointer (some ⟨4, 38, none⟩), .pointer (some ⟨vb, 0, none⟩), .int .u64 150], .iface 80 (.agg #[.pointer (some ⟨4, 36, none⟩)])] W fun e w' => e = .returned (.bool true) ∧ SetTo W tb (.pointer (some a)) w' := by
  have hv1 := up_cell (o := (.cells #[.pointer (some ⟨4, 38, none⟩), .pointer (some ⟨vb, 0, none⟩), .int .u64 150] 55)) hv
  have ht1 := up_cell (o := (.cells #[.pointer (some ⟨4, 38, none⟩), .pointer (some ⟨vb, 0, none⟩), .int .u64 150] 55)) ht
  have hf1 := up_frozen (o := (.cells #[.pointer (some ⟨4, 38, none⟩), .pointer (some ⟨vb, 0, none⟩), .int .u64 150] 55)) ht hf
  have tF := Tryd.typeOfF
  have aFF := Tryd.assignableFF
  have vF := Tryd.valueOfF
  have el := Tryd.elemVFP ⟨vb, 0, none⟩ ⟨tb, 0, none⟩ _ hv1
  have st := Tryd.setF ⟨tb, 0, none⟩ ⟨W.heap.size + 1, 0, none⟩ a old ((W.alloc (.cells #[.pointer (some ⟨4, 38, none⟩), .pointer (some ⟨vb, 0, none⟩), .int .u64 150] 55)).alloc (.cells #[.pointer (some a)] 36)) (by simp) (up_cell ht1) (up_frozen ht1 hf1)
  go_enter Tryd.func24, Tryd.ntmps24
  go_wp2
  refine wp_loop_rounds 1 ?_
  rw [rounds_succ]
  go_wp2
  go_ret
  exact ⟨rfl, _, by go_grown, rfl⟩

set_option maxHeartbeats 1000000 in
theorem as_nofault {W : World} (n : Int) (tb vb : Nat) :
    Calls Tryd.prog 24 #[.iface 30 (.int .i64 n), .iface 38 (.pointer (some ⟨tb, 0, none⟩)), .agg #[.pointer (some ⟨4, 38, none⟩), .pointer (some ⟨vb, 0, none⟩), .int .u64 150], .iface 80 (.agg #[.pointer (some ⟨4, 36, none⟩)])] W fun e w' => e = .returned (.bool false) ∧ Below W.heap.size W w' := by
  have tE := Tryd.typeOfE
  have aEF := Tryd.assignableEF
  have nE := Tryd.noAsE
  have uE := Tryd.noUnwrapE
  have xE := Tryd.noUnwrapsE
  go_enter Tryd.func24, Tryd.ntmps24
  go_wp2
  refine wp_loop_rounds 1 ?_
  rw [rounds_succ]
  go_wp2
  go_ret
  exact ⟨rfl, by go_grown⟩


set_option maxHeartbeats 1000000 in
theorem As_num {W : World} (E : Value) (d : Nat) (n : Int) (hch : Chain W E d n) (tb : Nat) (old : Value) (hg : Glob W) (ht : W.cell? ⟨tb, 0, none⟩ = some old) (hf : W.frozen? ⟨tb, 0, none⟩ = false) :
    Calls Tryd.prog 11 #[E, .iface 50 (.pointer (some ⟨tb, 0, none⟩))] W fun e w' => e = .returned (.bool true) ∧ SetTo W tb (.int .i64 n) w' := by
  have vP := Tryd.valueOfEP
  have tP := Tryd.typeEP
  have kP := Tryd.kindEP
  have k0 := Tryd.kindE
  have eP := Tryd.elemEP
  have im := Tryd.implementsE
  have nP := Tryd.isNilEP ⟨W.heap.size, 0, none⟩ ⟨tb, 0, none⟩ ((W.alloc (.cells #[.pointer (some ⟨tb, 0, none⟩)] 50)).alloc (.cells #[.pointer (some ⟨4, 50, none⟩), .pointer (some ⟨W.heap.size, 0, none⟩), .int .u64 150] 55)) (by simp)
  have hg2 : ((W.alloc (.cells #[.pointer (some ⟨tb, 0, none⟩)] 50)).alloc (.cells #[.pointer (some ⟨4, 50, none⟩), .pointer (some ⟨W.heap.size, 0, none⟩), .int .u64 150] 55)).cell? ⟨0, 0, none⟩ = some (.iface 80 (.agg #[.pointer (some ⟨4, 26, none⟩)])) := up_cell (up_cell hg)
  have ht2 := up_cell (o := (.cells #[.pointer (some ⟨4, 50, none⟩), .pointer (some ⟨W.heap.size, 0, none⟩), .int .u64 150] 55)) (up_cell (o := (.cells #[.pointer (some ⟨tb, 0, none⟩)] 50)) ht)
  have hf2 := up_frozen (o := (.cells #[.pointer (some ⟨4, 50, none⟩), .pointer (some ⟨W.heap.size, 0, none⟩), .int .u64 150] 55)) (up_cell (o := (.cells #[.pointer (some ⟨tb, 0, none⟩)] 50)) ht) (up_frozen (o := (.cells #[.pointer (some ⟨tb, 0, none⟩)] 50)) ht hf)
  have HCH := Lib.hid hch
  obtain ⟨u, v, rfl⟩ := hch.iface
  clear hch
  go_enter Tryd.func11, Tryd.ntmps11
  go_wp2_with (go_at_call 24; refine (as_num _ d n (Chain.up (Chain.up HCH.out)) tb W.heap.size old (by simp) ht2 hf2).mono ?_; rintro e w' ⟨rfl, hs⟩)
  go_ret
  obtain ⟨w1, hb, rfl⟩ := hs
  exact ⟨rfl, w1, bthen (balloc (balloc (Below.refl _ _) _) _) hb, rfl⟩


set_option maxHeartbeats 1000000 in
theorem As_fault {W : World} (a : Addr) (tb : Nat) (old : Value) (hg : Glob W) (ht : W.cell? ⟨tb, 0, none⟩ = some old) (hf : W.frozen? ⟨tb, 0, none⟩ = false) :
    Calls Tryd.prog 11 #[.iface 36 (.pointer (some a)), .iface 38 (.pointer (some ⟨tb, 0, none⟩))] W fun e w' => e = .returned (.bool true) ∧ SetTo W tb (.pointer (some a)) w' := by
  have vP := Tryd.valueOfFP
  have tP := Tryd.typeFP
  have kP := Tryd.kindFP
  have k0 := Tryd.kindF
  have eP := Tryd.elemFP
  have im := Tryd.implementsF
  have nP := Tryd.isNilFP ⟨W.heap.size, 0, none⟩ ⟨tb, 0, none⟩ ((W.alloc (.cells #[.pointer (some ⟨tb, 0, none⟩)] 38)).alloc (.cells #[.pointer (some ⟨4, 38, none⟩), .pointer (some ⟨W.heap.size, 0, none⟩), .int .u64 150] 55)) (by simp)
  have hg2 : ((W.alloc (.cells #[.pointer (some ⟨tb, 0, none⟩)] 38)).alloc (.cells #[.pointer (some ⟨4, 38, none⟩), .pointer (some ⟨W.heap.size, 0, none⟩), .int .u64 150] 55)).cell? ⟨0, 0, none⟩ = some (.iface 80 (.agg #[.pointer (some ⟨4, 26, none⟩)])) := up_cell (up_cell hg)
  have ht2 := up_cell (o := (.cells #[.pointer (some ⟨4, 38, none⟩), .pointer (some ⟨W.heap.size, 0, none⟩), .int .u64 150] 55)) (up_cell (o := (.cells #[.pointer (some ⟨tb, 0, none⟩)] 38)) ht)
  have hf2 := up_frozen (o := (.cells #[.pointer (some ⟨4, 38, none⟩), .pointer (some ⟨W.heap.size, 0, none⟩), .int .u64 150] 55)) (up_cell (o := (.cells #[.pointer (some ⟨tb, 0, none⟩)] 38)) ht) (up_frozen (o := (.cells #[.pointer (some ⟨tb, 0, none⟩)] 38)) ht hf)
  go_enter Tryd.func11, Tryd.ntmps11
  go_wp2_with (go_at_call 24; refine (as_fault a tb W.heap.size old (by simp) ht2 hf2).mono ?_; rintro e w' ⟨rfl, hs⟩)
  go_ret
  obtain ⟨w1, hb, rfl⟩ := hs
  exact ⟨rfl, w1, bthen (balloc (balloc (Below.refl _ _) _) _) hb, rfl⟩


set_option maxHeartbeats 1000000 in
theorem As_nofault {W : World} (n : Int) (tb : Nat) (old : Value) (hg : Glob W) (ht : W.cell? ⟨tb, 0, none⟩ = some old) (hf : W.frozen? ⟨tb, 0, none⟩ = false) :
    Calls Tryd.prog 11 #[.iface 30 (.int .i64 n), .iface 38 (.pointer (some ⟨tb, 0, none⟩))] W fun e w' => e = .returned (.bool false) ∧ Below W.heap.size W w' := by
  have vP := Tryd.valueOfFP
  have tP := Tryd.typeFP
  have kP := Tryd.kindFP
  have k0 := Tryd.kindF
  have eP := Tryd.elemFP
  have im := Tryd.implementsF
  have nP := Tryd.isNilFP ⟨W.heap.size, 0, none⟩ ⟨tb, 0, none⟩ ((W.alloc (.cells #[.pointer (some ⟨tb, 0, none⟩)] 38)).alloc (.cells #[.pointer (some ⟨4, 38, none⟩), .pointer (some ⟨W.heap.size, 0, none⟩), .int .u64 150] 55)) (by simp)
  have hg2 : ((W.alloc (.cells #[.pointer (some ⟨tb, 0, none⟩)] 38)).alloc (.cells #[.pointer (some ⟨4, 38, none⟩), .pointer (some ⟨W.heap.size, 0, none⟩), .int .u64 150] 55)).cell? ⟨0, 0, none⟩ = some (.iface 80 (.agg #[.pointer (some ⟨4, 26, none⟩)])) := up_cell (up_cell hg)
  have ht2 := up_cell (o := (.cells #[.pointer (some ⟨4, 38, none⟩), .pointer (some ⟨W.heap.size, 0, none⟩), .int .u64 150] 55)) (up_cell (o := (.cells #[.pointer (some ⟨tb, 0, none⟩)] 38)) ht)
  have hf2 := up_frozen (o := (.cells #[.pointer (some ⟨4, 38, none⟩), .pointer (some ⟨W.heap.size, 0, none⟩), .int .u64 150] 55)) (up_cell (o := (.cells #[.pointer (some ⟨tb, 0, none⟩)] 38)) ht) (up_frozen (o := (.cells #[.pointer (some ⟨tb, 0, none⟩)] 38)) ht hf)
  go_enter Tryd.func11, Tryd.ntmps11
  go_wp2_with (go_at_call 24; refine (as_nofault n tb W.heap.size).mono ?_; rintro e w' ⟨rfl, hs⟩)
  go_ret
  exact ⟨rfl, bthen (balloc (balloc (Below.refl _ _) _) _) hs⟩

end Go.Proofs.YtofkcjoonjhdpaaDoor
