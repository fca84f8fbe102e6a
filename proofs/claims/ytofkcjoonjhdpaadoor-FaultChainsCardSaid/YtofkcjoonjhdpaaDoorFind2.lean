/-
  Whether two errors are one, whether an error is a number, and the first number or fault in an error, as package fault asks for them: contracts. Condition: the library's own variable for the type error holds it; the variable that is set may be written.
-/
import Derived.Test.YtofkcjoonjhdpaaDoorFind
namespace Go.Proofs.YtofkcjoonjhdpaaDoor
open Go.RowKit Go.Extern.Stop Go.Stop Go.Extern

theorem new_cell {w : World} {v : Value} {t : TypeId} {n : Nat} (h : n = w.heap.size) : (w.alloc (.cells #[v] t)).cell? ⟨n, 0, none⟩ = some v := by
  rw [World.cell?_alloc_at _ _ _ _ h]; rfl
theorem new_frozen {w : World} {c : Array Value} {t : TypeId} {n i : Nat} (h : n = w.heap.size) : (w.alloc (.cells c t)).frozen? ⟨n, i, none⟩ = false := by
  rw [frozen?_alloc_cells]
  have : w.heap[n]? = none := by simp [h]
  simp [World.frozen?, this]

theorem within_num {W : World} (v : Value) :
    Calls Tryd.prog 33 #[.iface 30 v] W fun e w' => e = .returned .nilIface ∧ Below W.heap.size W w' :=
  within_of _ _ _ (Or.inl rfl) fun _ _ => Unwrap_num v
theorem within_fault {W : World} (b : Nat) (E : Value) (d : Nat) (n : Int) (h : W.cell? ⟨b, 2, none⟩ = some E) (hc : Chain W E d n) :
    Calls Tryd.prog 33 #[.iface 36 (.pointer (some ⟨b, 0, none⟩))] W fun e w' => e = .returned E ∧ Below W.heap.size W w' :=
  within_of _ _ _ (Or.inr hc.iface) fun _ hb => Unwrap_fault b E (keepc hb h)

theorem clo_same {W : World} (u1 u2 : TypeId) (v1 v2 : Value) (r : Bool) (pa pb po : Nat) (x : Value) (ha : W.cell? ⟨pa, 0, none⟩ = some (.iface u1 v1)) (hb : W.cell? ⟨pb, 0, none⟩ = some (.iface u2 v2)) (ho : W.cell? ⟨po, 0, none⟩ = some x) (hf : W.frozen? ⟨po, 0, none⟩ = false)
    (hq : (binOp .eql 26 (.iface u1 v1) (.iface u2 v2)).run Tryd.prog W = .ok (.bool r) W) :
    Calls Tryd.prog 47 #[.pointer (some ⟨pa, 0, none⟩), .pointer (some ⟨pb, 0, none⟩), .pointer (some ⟨po, 0, none⟩)] W fun e w' => e = .returned (.tuple #[]) ∧ w' = W.setCell ⟨po, 0, none⟩ (.bool r) := by
  go_enter Tryd.func47, Tryd.ntmps47
  go_wp2
  go_returns
  exact ⟨rfl, rfl⟩

theorem same_of {W : World} (u1 u2 : TypeId) (v1 v2 : Value) (r : Bool)
    (hq : ∀ W' : World, Below W.heap.size W W' → (binOp .eql 26 (.iface u1 v1) (.iface u2 v2)).run Tryd.prog W' = .ok (.bool r) W') :
    Calls Tryd.prog 34 #[.iface u1 v1, .iface u2 v2] W fun e w' => e = .returned (.bool r) ∧ Below W.heap.size W w' := by
  have hmf : ∀ (fn : Fn) (first cap : Array Value) (w : World), (Instr.makeFunc fn first cap).run Tryd.prog w = .ok (.func fn first cap) w := fun _ _ _ _ => rfl
  have HQ := Lib.hid hq
  clear hq
  go_enter Tryd.func34, Tryd.ntmps34
  go_wp2_with (go_at_call 35; refine (calm_any 47 _ (fun w' => w' = (((W.alloc (.cells #[.iface u1 v1] 26)).alloc (.cells #[.iface u2 v2] 26)).alloc (.cells #[.bool false] 4)).setCell ⟨W.heap.size + 1 + 1, 0, none⟩ (.bool r)) _ (fun _ => by kernel_rfl) (clo_same u1 u2 v1 v2 r _ _ _ (.bool false) (up_cell (up_cell (new_cell rfl))) (up_cell (new_cell (by simp))) (new_cell (by simp)) (new_frozen (by simp)) (HQ.out _ (by go_grown)))).mono ?_; rintro e w' ⟨rfl, rfl⟩)
  go_returns
  exact ⟨rfl, by go_grown⟩

/-- An error further within isn't one that stands around it. -/
theorem same_no {W : World} (E M : Value) (d dm : Nat) (n m : Int) (hE : Chain W E d n) (hM : Chain W M dm m) (hd : d < dm) :
    Calls Tryd.prog 34 #[E, M] W fun e w' => e = .returned (.bool false) ∧ Below W.heap.size W w' := by
  obtain ⟨i, hi, hcmp⟩ := Option.map_eq_some_iff.1 (show (Tryd.prog.info? 36).map (·.comparable) = some true by kernel_rfl)
  obtain ⟨j, hj, hjs⟩ := Option.map_eq_some_iff.1 (show (Tryd.prog.info? 40).map (·.size) = some 3 by kernel_rfl)
  cases hM with
  | num => exact absurd hd (Nat.not_lt_zero _)
  | fault bm opm sm Em dm' _ h0m hcm =>
    cases hE with
    | num => exact same_of _ _ _ _ false fun W' _ => run_eql_iface_types (P := Tryd.prog) 30 36 _ _ Tryd.underlying26 (by decide) W'
    | fault be ope se Ee de _ h0e hce =>
      have hne : be ≠ bm := by
        rintro rfl
        rw [h0e] at h0m
        cases h0m
        have := (Chain.unique hce hcm).1
        omega
      exact same_of _ _ _ _ false fun W' hb => run_eql_iface_ptr_other (P := Tryd.prog) W' Tryd.underlying26 Tryd.underlying36 hi hcmp hj (by rw [hjs]; decide) (by intro e; cases e; exact hne rfl) ((hb.block be (heap_lt h0e)).trans h0e) ((hb.block bm (heap_lt h0m)).trans h0m)

/-- The world with new blocks, and one old variable set: as a caller sees it. -/
def Put (W : World) (b : Nat) (v : Value) (w' : World) : Prop := Below b W w' ∧ (∀ k, b < k → k < W.heap.size → w'.heap[k]? = W.heap[k]?) ∧ w'.cell? ⟨b, 0, none⟩ = some v ∧ w'.frozen? ⟨b, 0, none⟩ = false
theorem put_set {W w1 : World} {b : Nat} {old : Value} (hb : Below W.heap.size W w1) (ht : W.cell? ⟨b, 0, none⟩ = some old) (hf : W.frozen? ⟨b, 0, none⟩ = false) (v : Value) : Put W b v (w1.setCell ⟨b, 0, none⟩ v) := by
  refine ⟨(hb.mono (Nat.le_of_lt (cell_lt ht))).setCell (Nat.le_refl _) _, fun k h1 h2 => ?_, World.cell?_setCell_same _ _ _ (keepc hb ht), ?_⟩
  · rw [Below.heap_setCell _ _ _ _ (by simp; omega)]; exact hb.block k h2
  · rw [World.frozen?_setCell]; exact keepf hb ht hf
theorem put_more {W w' : World} {b bo : Nat} {v : Value} (h : Put W b v w') (hbo : W.heap.size ≤ bo) (hlt : b < W.heap.size) (x : Value) : Put W b v (w'.setCell ⟨bo, 0, none⟩ x) := by
  obtain ⟨h1, h2, h3, h4⟩ := h
  refine ⟨h1.setCell (by simp; omega) _, fun k k1 k2 => ?_, ?_, ?_⟩
  · rw [Below.heap_setCell _ _ _ _ (by simp; omega)]; exact h2 k k1 k2
  · exact setCell_other (by simp; omega) h3
  · rw [World.frozen?_setCell]; exact h4
theorem put_from {W0 W w' : World} {b : Nat} {v : Value} (h : Put W b v w') (h0 : Below W0.heap.size W0 W) (hle : W0.heap.size ≤ b) : Below W0.heap.size W0 w' := h0.trans (h.1.mono hle)
theorem put_back {W W3 w' : World} {b : Nat} {v : Value} (h : Put W3 b v w') (h3 : Below W.heap.size W W3) (hlt : b < W.heap.size) : Put W b v w' := by
  obtain ⟨h1, h2, h4, h5⟩ := h
  exact ⟨(h3.mono (Nat.le_of_lt hlt)).trans h1, fun k k1 k2 => (h2 k k1 (Nat.lt_of_lt_of_le k2 h3.size)).trans (h3.block k k2), h4, h5⟩
theorem put_heap {W w' : World} {b k : Nat} {v : Value} {o : Obj} (h : Put W b v w') (hk : k ≠ b) (ho : W.heap[k]? = some o) : w'.heap[k]? = some o := by
  rcases Nat.lt_or_gt_of_ne hk with h1 | h1
  · exact (h.1.block k h1).trans ho
  · exact (h.2.1 k h1 (heap_lt ho)).trans ho


theorem clo_find_num {W : World} (E : Value) (d : Nat) (n : Int) (hc : Chain W E d n) (hg : Glob W) (pe pt po tb : Nat) (x old : Value) (he : W.cell? ⟨pe, 0, none⟩ = some (E)) (hp : W.cell? ⟨pt, 0, none⟩ = some (.pointer (some ⟨tb, 0, none⟩))) (ho : W.cell? ⟨po, 0, none⟩ = some x) (hf : W.frozen? ⟨po, 0, none⟩ = false) (ht : W.cell? ⟨tb, 0, none⟩ = some old) (htf : W.frozen? ⟨tb, 0, none⟩ = false) (hne : tb ≠ po) :
    Calls Tryd.prog 36 #[.pointer (some ⟨pe, 0, none⟩), .pointer (some ⟨pt, 0, none⟩), .pointer (some ⟨po, 0, none⟩)] W fun e w' => e = .returned (.tuple #[]) ∧ ∃ w1, Below W.heap.size W w1 ∧ w' = (w1.setCell ⟨tb, 0, none⟩ (.int .i64 n)).setCell ⟨po, 0, none⟩ (.bool true) := by
  have HC := Lib.hid hc
  obtain ⟨u, v, rfl⟩ := hc.iface
  clear hc
  go_enter Tryd.func36, Tryd.ntmps36
  go_wp2_with (go_at_call 11; refine (As_num _ d n HC.out tb old hg ht htf).mono ?_; rintro e w' ⟨rfl, w1, hb, rfl⟩; have ho1 := setCell_other (a := ⟨tb, 0, none⟩) (v := .int .i64 n) hne (keepc hb ho); have hf1 := keepf hb ho hf)
  go_returns
  exact ⟨rfl, w1, hb, rfl⟩

theorem find_num {W : World} (E : Value) (d : Nat) (n : Int) (hc : Chain W E d n) (hg : Glob W) (tb : Nat) (old : Value) (ht : W.cell? ⟨tb, 0, none⟩ = some old) (hf : W.frozen? ⟨tb, 0, none⟩ = false) :
    Calls Tryd.prog 19 #[E, .pointer (some ⟨tb, 0, none⟩)] W fun e w' => e = .returned (.bool true) ∧ Put W tb (.int .i64 n) w' := by
  have hmf : ∀ (fn : Fn) (first cap : Array Value) (w : World), (Instr.makeFunc fn first cap).run Tryd.prog w = .ok (.func fn first cap) w := fun _ _ _ _ => rfl
  have hlt := cell_lt ht
  have HC := Lib.hid hc
  obtain ⟨u, v, rfl⟩ := hc.iface
  clear hc
  go_enter Tryd.func19, Tryd.ntmps19
  go_wp2_with (go_at_call 35; refine (calm_any 36 _ (fun w' => ∃ w1, Below (((W.alloc (.cells #[.iface u v] 26)).alloc (.cells #[.pointer (some ⟨tb, 0, none⟩)] 50)).alloc (.cells #[.bool false] 4)).heap.size (((W.alloc (.cells #[.iface u v] 26)).alloc (.cells #[.pointer (some ⟨tb, 0, none⟩)] 50)).alloc (.cells #[.bool false] 4)) w1 ∧ w' = (w1.setCell ⟨tb, 0, none⟩ (.int .i64 n)).setCell ⟨W.heap.size + 1 + 1, 0, none⟩ (.bool true)) _ (fun _ => by kernel_rfl) (clo_find_num _ d n (Chain.up (Chain.up (Chain.up HC.out))) (up_cell (up_cell (up_cell hg))) _ _ _ tb (.bool false) old (up_cell (up_cell (new_cell rfl))) (up_cell (new_cell (by simp))) (new_cell (by simp)) (new_frozen (by simp)) (up_cell (up_cell (up_cell ht))) (up_frozen (up_cell (up_cell ht)) (up_frozen (up_cell ht) (up_frozen ht hf))) (by omega))).mono ?_; rintro e w' ⟨rfl, w1, hb, rfl⟩; have ho1 := setCell_other (a := ⟨tb, 0, none⟩) (b := ⟨W.heap.size + 1 + 1, 0, none⟩) (v := .int .i64 n) (by simp; omega) (keepc hb (b := W.heap.size + 1 + 1) (o := 0) (v := .bool false) (new_cell (by simp))); have hf1 := keepf hb (b := W.heap.size + 1 + 1) (o := 0) (x := .bool false) (new_cell (by simp)) (new_frozen (by simp)); have ho2 := World.cell?_setCell_same _ _ (.bool true) ho1; have ho3 := World.cell?_setCell_same _ _ (.bool true) ho2)
  refine bodyPost_ret (v := .bool true) (by simp [results, Tryd.results19, go_sem, ho3]) rfl ?_
  exact ⟨rfl, put_more (put_more (put_back (put_set hb (up_cell (up_cell (up_cell ht))) (up_frozen (up_cell (up_cell ht)) (up_frozen (up_cell ht) (up_frozen ht hf))) _) (balloc (balloc (balloc (Below.refl _ _) _) _) _) hlt) (by omega) hlt _) (by omega) hlt _⟩


theorem clo_find_fault {W : World} (a : Addr) (hg : Glob W) (pe pt po tb : Nat) (x old : Value) (he : W.cell? ⟨pe, 0, none⟩ = some (.iface 36 (.pointer (some a)))) (hp : W.cell? ⟨pt, 0, none⟩ = some (.pointer (some ⟨tb, 0, none⟩))) (ho : W.cell? ⟨po, 0, none⟩ = some x) (hf : W.frozen? ⟨po, 0, none⟩ = false) (ht : W.cell? ⟨tb, 0, none⟩ = some old) (htf : W.frozen? ⟨tb, 0, none⟩ = false) (hne : tb ≠ po) :
    Calls Tryd.prog 44 #[.pointer (some ⟨pe, 0, none⟩), .pointer (some ⟨pt, 0, none⟩), .pointer (some ⟨po, 0, none⟩)] W fun e w' => e = .returned (.tuple #[]) ∧ ∃ w1, Below W.heap.size W w1 ∧ w' = (w1.setCell ⟨tb, 0, none⟩ (.pointer (some a))).setCell ⟨po, 0, none⟩ (.bool true) := by
  go_enter Tryd.func44, Tryd.ntmps44
  go_wp2_with (go_at_call 11; refine (As_fault a tb old hg ht htf).mono ?_; rintro e w' ⟨rfl, w1, hb, rfl⟩; have ho1 := setCell_other (a := ⟨tb, 0, none⟩) (v := .pointer (some a)) hne (keepc hb ho); have hf1 := keepf hb ho hf)
  go_returns
  exact ⟨rfl, w1, hb, rfl⟩

theorem find_fault {W : World} (a : Addr) (hg : Glob W) (tb : Nat) (old : Value) (ht : W.cell? ⟨tb, 0, none⟩ = some old) (hf : W.frozen? ⟨tb, 0, none⟩ = false) :
    Calls Tryd.prog 32 #[.iface 36 (.pointer (some a)), .pointer (some ⟨tb, 0, none⟩)] W fun e w' => e = .returned (.bool true) ∧ Put W tb (.pointer (some a)) w' := by
  have hmf : ∀ (fn : Fn) (first cap : Array Value) (w : World), (Instr.makeFunc fn first cap).run Tryd.prog w = .ok (.func fn first cap) w := fun _ _ _ _ => rfl
  have hlt := cell_lt ht
  go_enter Tryd.func32, Tryd.ntmps32
  go_wp2_with (go_at_call 35; refine (calm_any 44 _ (fun w' => ∃ w1, Below (((W.alloc (.cells #[.iface 36 (.pointer (some a))] 26)).alloc (.cells #[.pointer (some ⟨tb, 0, none⟩)] 38)).alloc (.cells #[.bool false] 4)).heap.size (((W.alloc (.cells #[.iface 36 (.pointer (some a))] 26)).alloc (.cells #[.pointer (some ⟨tb, 0, none⟩)] 38)).alloc (.cells #[.bool false] 4)) w1 ∧ w' = (w1.setCell ⟨tb, 0, none⟩ (.pointer (some a))).setCell ⟨W.heap.size + 1 + 1, 0, none⟩ (.bool true)) _ (fun _ => by kernel_rfl) (clo_find_fault a (up_cell (up_cell (up_cell hg))) _ _ _ tb (.bool false) old (up_cell (up_cell (new_cell rfl))) (up_cell (new_cell (by simp))) (new_cell (by simp)) (new_frozen (by simp)) (up_cell (up_cell (up_cell ht))) (up_frozen (up_cell (up_cell ht)) (up_frozen (up_cell ht) (up_frozen ht hf))) (by omega))).mono ?_; rintro e w' ⟨rfl, w1, hb, rfl⟩; have ho1 := setCell_other (a := ⟨tb, 0, none⟩) (b := ⟨W.heap.size + 1 + 1, 0, none⟩) (v := .pointer (some a)) (by simp; omega) (keepc hb (b := W.heap.size + 1 + 1) (o := 0) (v := .bool false) (new_cell (by simp))); have hf1 := keepf hb (b := W.heap.size + 1 + 1) (o := 0) (x := .bool false) (new_cell (by simp)) (new_frozen (by simp)); have ho2 := World.cell?_setCell_same _ _ (.bool true) ho1; have ho3 := World.cell?_setCell_same _ _ (.bool true) ho2)
  refine bodyPost_ret (v := .bool true) (by simp [results, Tryd.results32, go_sem, ho3]) rfl ?_
  exact ⟨rfl, put_more (put_more (put_back (put_set hb (up_cell (up_cell (up_cell ht))) (up_frozen (up_cell (up_cell ht)) (up_frozen (up_cell ht) (up_frozen ht hf))) _) (balloc (balloc (balloc (Below.refl _ _) _) _) _) hlt) (by omega) hlt _) (by omega) hlt _⟩


theorem clo_find_nofault {W : World} (n : Int) (hg : Glob W) (pe pt po tb : Nat) (x old : Value) (he : W.cell? ⟨pe, 0, none⟩ = some (.iface 30 (.int .i64 n))) (hp : W.cell? ⟨pt, 0, none⟩ = some (.pointer (some ⟨tb, 0, none⟩))) (ho : W.cell? ⟨po, 0, none⟩ = some x) (hf : W.frozen? ⟨po, 0, none⟩ = false) (ht : W.cell? ⟨tb, 0, none⟩ = some old) (htf : W.frozen? ⟨tb, 0, none⟩ = false) :
    Calls Tryd.prog 44 #[.pointer (some ⟨pe, 0, none⟩), .pointer (some ⟨pt, 0, none⟩), .pointer (some ⟨po, 0, none⟩)] W fun e w' => e = .returned (.tuple #[]) ∧ ∃ w1, Below W.heap.size W w1 ∧ w' = w1.setCell ⟨po, 0, none⟩ (.bool false) := by
  go_enter Tryd.func44, Tryd.ntmps44
  go_wp2_with (go_at_call 11; refine (As_nofault n tb old hg ht htf).mono ?_; rintro e w1 ⟨rfl, hb⟩; have ho1 := keepc hb ho; have hf1 := keepf hb ho hf)
  go_returns
  exact ⟨rfl, w1, hb, rfl⟩

theorem find_nofault {W : World} (n : Int) (hg : Glob W) (tb : Nat) (old : Value) (ht : W.cell? ⟨tb, 0, none⟩ = some old) (hf : W.frozen? ⟨tb, 0, none⟩ = false) :
    Calls Tryd.prog 32 #[.iface 30 (.int .i64 n), .pointer (some ⟨tb, 0, none⟩)] W fun e w' => e = .returned (.bool false) ∧ Below W.heap.size W w' := by
  have hmf : ∀ (fn : Fn) (first cap : Array Value) (w : World), (Instr.makeFunc fn first cap).run Tryd.prog w = .ok (.func fn first cap) w := fun _ _ _ _ => rfl
  have hlt := cell_lt ht
  go_enter Tryd.func32, Tryd.ntmps32
  go_wp2_with (go_at_call 35; refine (calm_any 44 _ (fun w' => ∃ w1, Below (((W.alloc (.cells #[.iface 30 (.int .i64 n)] 26)).alloc (.cells #[.pointer (some ⟨tb, 0, none⟩)] 38)).alloc (.cells #[.bool false] 4)).heap.size (((W.alloc (.cells #[.iface 30 (.int .i64 n)] 26)).alloc (.cells #[.pointer (some ⟨tb, 0, none⟩)] 38)).alloc (.cells #[.bool false] 4)) w1 ∧ w' = w1.setCell ⟨W.heap.size + 1 + 1, 0, none⟩ (.bool false)) _ (fun _ => by kernel_rfl) (clo_find_nofault n (up_cell (up_cell (up_cell hg))) _ _ _ tb (.bool false) old (up_cell (up_cell (new_cell rfl))) (up_cell (new_cell (by simp))) (new_cell (by simp)) (new_frozen (by simp)) (up_cell (up_cell (up_cell ht))) (up_frozen (up_cell (up_cell ht)) (up_frozen (up_cell ht) (up_frozen ht hf))))).mono ?_; rintro e w' ⟨rfl, w1, hb, rfl⟩; have ho1 := keepc hb (b := W.heap.size + 1 + 1) (o := 0) (v := .bool false) (new_cell (by simp)); have hf1 := keepf hb (b := W.heap.size + 1 + 1) (o := 0) (x := .bool false) (new_cell (by simp)) (new_frozen (by simp)); have ho2 := World.cell?_setCell_same _ _ (.bool false) ho1; have ho3 := World.cell?_setCell_same _ _ (.bool false) ho2)
  refine bodyPost_ret (v := .bool false) (by simp [results, Tryd.results32, go_sem, ho3]) rfl ?_
  have hB := bthen (balloc (balloc (balloc (Below.refl _ W) (.cells #[.iface 30 (.int .i64 n)] 26)) (.cells #[.pointer (some ⟨tb, 0, none⟩)] 38)) (.cells #[.bool false] 4)) hb
  exact ⟨rfl, (hB.setCell (by simp; omega) _).setCell (by simp; omega) _⟩
end Go.Proofs.YtofkcjoonjhdpaaDoor
