/-
  A claim of a ring of a room, as a value of 82 cells: one of package single and one of package multi; Done, Full, Last, by contract. No condition but those that each theorem names.
  A step of a claim of a room's ring, by contract. Conditions: what a step of the claim within does is known.
  How a claim of a room's ring begins, by contract. Conditions: the ring is found; what the beginning of the claim within does is known.
-/
import Derived.Test.YtdfcfdcekdmcmaaGreatPk15
import Derived.Test.YtdfcfdcekdmcmaaGreatPk22
import Derived.Deep.DeepCutAuto
set_option linter.unusedVariables false
set_option linter.unusedSimpArgs false
set_option linter.unusedSimpArgs false
namespace Go.Proofs.YtdfcfdcekdmcmaaGreat
open Go.RowKit
set_option linter.unusedVariables false
def clA (m : Bool) (t1 t2 : Array Value) : Array Value := (([.bool m] : List Value) ++ t1.toList ++ t2.toList).toArray
section
variable {m : Bool} {t1 t2 u : Array Value} {W w : World} {b : Nat} {T : TypeId} {q : Nat × Nat}
theorem clA_size (h1 : t1.size = 41) (h2 : t2.size = 40) : (clA m t1 t2).size = 82 := by simp [clA]; omega
theorem clA_0 : (clA m t1 t2)[0]? = some (.bool m) := rfl
theorem clA_m1 (h1 : t1.size = 41) : (clA m t1 t2).extract 1 42 = t1 := by
  apply Array.ext_getElem?
  intro j
  simp only [Array.getElem?_extract, clA, List.getElem?_toArray, List.size_toArray, List.length_append, List.length_cons, List.length_nil, Array.length_toList, h1]
  by_cases hj : j < 41
  · rw [if_pos (by omega), List.getElem?_append_left (by simp; omega), List.getElem?_append_right (by simp)]
    simp
  · rw [if_neg (by omega), Array.getElem?_eq_none (by omega)]
theorem clA_m2 (h1 : t1.size = 41) (h2 : t2.size = 40) : (clA m t1 t2).extract 42 82 = t2 := by
  apply Array.ext_getElem?
  intro j
  simp only [Array.getElem?_extract, clA, List.getElem?_toArray, List.size_toArray, List.length_append, List.length_cons, List.length_nil, Array.length_toList, h1, h2]
  by_cases hj : j < 40
  · rw [if_pos (by omega), List.getElem?_append_right (by simp; omega)]
    simp [h1]
  · rw [if_neg (by omega), Array.getElem?_eq_none (by omega)]
theorem clA_one (h1 : t1.all (·.oneCell') = true) (h2 : t2.all (·.oneCell') = true) : (clA m t1 t2).all (·.oneCell') = true := by
  rw [Array.all_eq_true_iff_forall_mem] at h1 h2 ⊢
  intro y hy
  simp only [clA, List.mem_toArray, List.mem_append] at hy
  rcases hy with (hy | hy) | hy
  · simp at hy
    subst hy
    rfl
  · exact h1 y (by simpa using hy)
  · exact h2 y (by simpa using hy)
theorem clA_r1 (h1 : t1.size = 41) (h : W.heap[b]? = some (.cells (clA m t1 t2) T q)) : W.rangeAt b 1 t1.toList := by
  have := World.rangeAt_of_block h 1 41
  rwa [clA_m1 h1] at this
theorem clA_r2 (h1 : t1.size = 41) (h2 : t2.size = 40) (h : W.heap[b]? = some (.cells (clA m t1 t2) T q)) : W.rangeAt b 42 t2.toList := by
  have := World.rangeAt_of_block h 42 40
  rwa [clA_m2 h1 h2] at this
theorem clA_info (h1 : t1.size = 41) (h2 : t2.size = 40) : (Tryz.prog.info? 66).map (·.size) = some (clA m t1 t2).size := by
  rw [clA_size h1 h2]
  kernel_rfl
theorem one_info (h1 : t1.size = 41) : (Tryz.prog.info? 60).map (·.size) = some t1.toList.length := by
  rw [Array.length_toList, h1]
  kernel_rfl
theorem all_info (h2 : t2.size = 40) : (Tryz.prog.info? 64).map (·.size) = some t2.toList.length := by
  rw [Array.length_toList, h2]
  kernel_rfl
theorem clA_put1 (h1 : t1.size = 41) (h2 : t2.size = 40) (hu : u.size = 41) : (clA m t1 t2).toList.take 1 ++ u.toList ++ (clA m t1 t2).toList.drop (1 + u.toList.length) = (clA m u t2).toList := by
  have hl : t1.toList.length = 41 := by simpa using h1
  simp [clA, hu, List.drop_append, hl]
theorem clA_put2 (h1 : t1.size = 41) (h2 : t2.size = 40) (hu : u.size = 40) : (clA m t1 t2).toList.take 42 ++ u.toList ++ (clA m t1 t2).toList.drop (42 + u.toList.length) = (clA m t1 u).toList := by
  have hl : t1.toList.length = 41 := by simpa using h1
  have hl2 : t2.toList.length = 40 := by simpa using h2
  simp [clA, hu, hl, List.take_append, List.drop_append, hl2, h1]
end
section
variable {t1 t2 : Array Value} {bb : Bool} {y : Int}
theorem cdone_one (h1 : t1.size = 41) (h2 : t2.size = 40) (hd : ∀ w : World, Calls Tryz.prog 84 #[.agg t1] w fun e w' => e = .returned (.bool bb) ∧ Below w.heap.size w w') (W : World) :
    Calls Tryz.prog 25 #[.agg (clA false t1 t2)] W fun e w' => e = .returned (.bool bb) ∧ Below W.heap.size W w' := by
  have c0 : (clA false t1 t2)[0]? = some (.bool false) := clA_0
  have HR : Hid (∀ (W : World) (b : Nat) (T : TypeId) (q : Nat × Nat), W.heap[b]? = some (.cells (clA false t1 t2) T q) → W.rangeAt b 1 t1.toList) := fun W b T q h => clA_r1 h1 h
  have HI := Lib.hid (one_info h1)
  have HD := Lib.hid hd
  have HT : Hid (t1.toList.toArray = t1) := Lib.hid (Array.toArray_toList)
  generalize clA false t1 t2 = cs at *
  clear hd
  go_enter Tryz.func25, Tryz.ntmps25
  go_wp2_with (first
    | (refine wpList_load_mid rfl 60 (.tmp 8) rfl W.heap.size 1 rfl t1.toList _ (HR.out _ _ _ _ (obj_new W (.cells cs 66))) Tryz.underlying60 rfl HI.out ?_; rw [HT.out])
    | (go_at_call 84; refine (HD.out _).mono ?_; rintro e w1 ⟨rfl, hb⟩; have HB := Lib.hid (bthen (balloc (Below.refl _ W) _) hb); clear hb))
  go_ret
  exact ⟨rfl, HB.out⟩
theorem cdone_all (h1 : t1.size = 41) (h2 : t2.size = 40) (hd : ∀ w : World, Calls Tryz.prog 83 #[.agg t2] w fun e w' => e = .returned (.bool bb) ∧ Below w.heap.size w w') (W : World) :
    Calls Tryz.prog 25 #[.agg (clA true t1 t2)] W fun e w' => e = .returned (.bool bb) ∧ Below W.heap.size W w' := by
  have c0 : (clA true t1 t2)[0]? = some (.bool true) := clA_0
  have HR : Hid (∀ (W : World) (b : Nat) (T : TypeId) (q : Nat × Nat), W.heap[b]? = some (.cells (clA true t1 t2) T q) → W.rangeAt b 42 t2.toList) := fun W b T q h => clA_r2 h1 h2 h
  have HI := Lib.hid (all_info h2)
  have HD := Lib.hid hd
  have HT : Hid (t2.toList.toArray = t2) := Lib.hid (Array.toArray_toList)
  generalize clA true t1 t2 = cs at *
  clear hd
  go_enter Tryz.func25, Tryz.ntmps25
  go_wp2_with (first
    | (refine wpList_load_mid rfl 64 (.tmp 5) rfl W.heap.size 42 rfl t2.toList _ (HR.out _ _ _ _ (obj_new W (.cells cs 66))) Tryz.underlying64 rfl HI.out ?_; rw [HT.out])
    | (go_at_call 83; refine (HD.out _).mono ?_; rintro e w1 ⟨rfl, hb⟩; have HB := Lib.hid (bthen (balloc (Below.refl _ W) _) hb); clear hb))
  go_ret
  exact ⟨rfl, HB.out⟩
theorem cfull_one (h1 : t1.size = 41) (h2 : t2.size = 40) (hd : ∀ w : World, Calls Tryz.prog 88 #[.agg t1] w fun e w' => e = .returned (.bool bb) ∧ Below w.heap.size w w') (W : World) :
    Calls Tryz.prog 27 #[.agg (clA false t1 t2)] W fun e w' => e = .returned (.bool bb) ∧ Below W.heap.size W w' := by
  have c0 : (clA false t1 t2)[0]? = some (.bool false) := clA_0
  have HR : Hid (∀ (W : World) (b : Nat) (T : TypeId) (q : Nat × Nat), W.heap[b]? = some (.cells (clA false t1 t2) T q) → W.rangeAt b 1 t1.toList) := fun W b T q h => clA_r1 h1 h
  have HI := Lib.hid (one_info h1)
  have HD := Lib.hid hd
  have HT : Hid (t1.toList.toArray = t1) := Lib.hid (Array.toArray_toList)
  generalize clA false t1 t2 = cs at *
  clear hd
  go_enter Tryz.func27, Tryz.ntmps27
  go_wp2_with (first
    | (refine wpList_load_mid rfl 60 (.tmp 8) rfl W.heap.size 1 rfl t1.toList _ (HR.out _ _ _ _ (obj_new W (.cells cs 66))) Tryz.underlying60 rfl HI.out ?_; rw [HT.out])
    | (go_at_call 88; refine (HD.out _).mono ?_; rintro e w1 ⟨rfl, hb⟩; have HB := Lib.hid (bthen (balloc (Below.refl _ W) _) hb); clear hb))
  go_ret
  exact ⟨rfl, HB.out⟩
theorem cfull_all (h1 : t1.size = 41) (h2 : t2.size = 40) (hd : ∀ w : World, Calls Tryz.prog 87 #[.agg t2] w fun e w' => e = .returned (.bool bb) ∧ Below w.heap.size w w') (W : World) :
    Calls Tryz.prog 27 #[.agg (clA true t1 t2)] W fun e w' => e = .returned (.bool bb) ∧ Below W.heap.size W w' := by
  have c0 : (clA true t1 t2)[0]? = some (.bool true) := clA_0
  have HR : Hid (∀ (W : World) (b : Nat) (T : TypeId) (q : Nat × Nat), W.heap[b]? = some (.cells (clA true t1 t2) T q) → W.rangeAt b 42 t2.toList) := fun W b T q h => clA_r2 h1 h2 h
  have HI := Lib.hid (all_info h2)
  have HD := Lib.hid hd
  have HT : Hid (t2.toList.toArray = t2) := Lib.hid (Array.toArray_toList)
  generalize clA true t1 t2 = cs at *
  clear hd
  go_enter Tryz.func27, Tryz.ntmps27
  go_wp2_with (first
    | (refine wpList_load_mid rfl 64 (.tmp 5) rfl W.heap.size 42 rfl t2.toList _ (HR.out _ _ _ _ (obj_new W (.cells cs 66))) Tryz.underlying64 rfl HI.out ?_; rw [HT.out])
    | (go_at_call 87; refine (HD.out _).mono ?_; rintro e w1 ⟨rfl, hb⟩; have HB := Lib.hid (bthen (balloc (Below.refl _ W) _) hb); clear hb))
  go_ret
  exact ⟨rfl, HB.out⟩
theorem clast_one (h1 : t1.size = 41) (h2 : t2.size = 40) (hd : ∀ w : World, Calls Tryz.prog 90 #[.agg t1] w fun e w' => e = .returned (.int .i64 y) ∧ Below w.heap.size w w') (W : World) :
    Calls Tryz.prog 28 #[.agg (clA false t1 t2)] W fun e w' => e = .returned (.int .i64 y) ∧ Below W.heap.size W w' := by
  have c0 : (clA false t1 t2)[0]? = some (.bool false) := clA_0
  have HR : Hid (∀ (W : World) (b : Nat) (T : TypeId) (q : Nat × Nat), W.heap[b]? = some (.cells (clA false t1 t2) T q) → W.rangeAt b 1 t1.toList) := fun W b T q h => clA_r1 h1 h
  have HI := Lib.hid (one_info h1)
  have HD := Lib.hid hd
  have HT : Hid (t1.toList.toArray = t1) := Lib.hid (Array.toArray_toList)
  generalize clA false t1 t2 = cs at *
  clear hd
  go_enter Tryz.func28, Tryz.ntmps28
  go_wp2_with (first
    | (refine wpList_load_mid rfl 60 (.tmp 8) rfl W.heap.size 1 rfl t1.toList _ (HR.out _ _ _ _ (obj_new W (.cells cs 66))) Tryz.underlying60 rfl HI.out ?_; rw [HT.out])
    | (go_at_call 90; refine (HD.out _).mono ?_; rintro e w1 ⟨rfl, hb⟩; have HB := Lib.hid (bthen (balloc (Below.refl _ W) _) hb); clear hb))
  go_ret
  exact ⟨rfl, HB.out⟩
theorem clast_all (h1 : t1.size = 41) (h2 : t2.size = 40) (hd : ∀ w : World, Calls Tryz.prog 89 #[.agg t2] w fun e w' => e = .returned (.int .i64 y) ∧ Below w.heap.size w w') (W : World) :
    Calls Tryz.prog 28 #[.agg (clA true t1 t2)] W fun e w' => e = .returned (.int .i64 y) ∧ Below W.heap.size W w' := by
  have c0 : (clA true t1 t2)[0]? = some (.bool true) := clA_0
  have HR : Hid (∀ (W : World) (b : Nat) (T : TypeId) (q : Nat × Nat), W.heap[b]? = some (.cells (clA true t1 t2) T q) → W.rangeAt b 42 t2.toList) := fun W b T q h => clA_r2 h1 h2 h
  have HI := Lib.hid (all_info h2)
  have HD := Lib.hid hd
  have HT : Hid (t2.toList.toArray = t2) := Lib.hid (Array.toArray_toList)
  generalize clA true t1 t2 = cs at *
  clear hd
  go_enter Tryz.func28, Tryz.ntmps28
  go_wp2_with (first
    | (refine wpList_load_mid rfl 64 (.tmp 5) rfl W.heap.size 42 rfl t2.toList _ (HR.out _ _ _ _ (obj_new W (.cells cs 66))) Tryz.underlying64 rfl HI.out ?_; rw [HT.out])
    | (go_at_call 89; refine (HD.out _).mono ?_; rintro e w1 ⟨rfl, hb⟩; have HB := Lib.hid (bthen (balloc (Below.refl _ W) _) hb); clear hb))
  go_ret
  exact ⟨rfl, HB.out⟩
end
end Go.Proofs.YtdfcfdcekdmcmaaGreat
namespace Go.Proofs.YtdfcfdcekdmcmaaGreat
open Go.RowKit
set_option linter.unusedVariables false
structure Bx (W0 : World) (Pd : Rest → World → Prop) : Prop where
  keep : ∀ {R : Rest} {w w' : World}, Pd R w → Below w.heap.size w w' → Pd R w'
  inv : ∀ {R : Rest} {w : World}, Pd R w → R.inv w
  new : ∀ {R : Rest} {w : World} (bx : Array Value) (U : TypeId), Pd R w → Pd (R.box W0.heap.size w.heap.size bx U) (w.alloc (.cells bx U))
  turn : ∀ {R : Rest} {w w' : World} {g : Nat} {zs bx : Array Value} {T : TypeId}, T ≠ 268 → Pd (R.box W0.heap.size g zs T) w → Frm (fun k => k = g) w w' → w'.heap[g]? = some (.cells bx T (0, 0)) → Pd (R.box W0.heap.size g bx T) w'
  le : ∀ {R R' : Rest} {w : World}, Pd R w → (∀ k, R'.prot k → R.prot k) → R'.inv w → Pd R' w
section
variable {W0 w w' : World} {Pd : Rest → World → Prop} {R : Rest} {g g' : Nat} {zs bx ys : Array Value} {T U : TypeId}
theorem Bx.is (hB : Bx W0 Pd) (h : Pd (R.box W0.heap.size g zs T) w) : w.heap[g]? = some (.cells zs T (0, 0)) := (hB.inv h).2.1
theorem Bx.drop (hB : Bx W0 Pd) (h : Pd (R.box W0.heap.size g zs T) w) : Pd R w := hB.le h (fun _ k => .inl k) (hB.inv h).1
theorem Bx.row (hB : Bx W0 Pd) (h : Pd (R.box W0.heap.size g zs T) w) (bx : Array Value) (hU : T ≠ 268 := by decide) : Pd (R.box W0.heap.size g bx T) (w.setRow g bx) :=
  hB.turn hU h ((Frm.refl (fun k => k = g) w).setRow rfl bx) (setRow_heap _ _ _ _ _ _ (hB.is h))
theorem Bx.swap (hB : Bx W0 Pd) (h : Pd ((R.box W0.heap.size g zs T).box W0.heap.size g' ys U) w) : Pd ((R.box W0.heap.size g' ys U).box W0.heap.size g zs T) w := by
  obtain ⟨⟨i1, i2, i3, i4⟩, i5, i6, i7⟩ := hB.inv h
  refine hB.le h (fun k hk => ?_) ⟨⟨i1, i5, fun e => i6 (.inl e), i7⟩, i2, ?_, i4⟩
  · rcases hk with (e | e) | e
    · exact .inl (.inl e)
    · exact .inr e
    · exact .inl (.inr e)
  · rintro (e | e)
    · exact i3 e
    · exact i6 (.inr e.symm)
theorem Bx.cells (hB : Bx W0 Pd) (h : Pd (R.box W0.heap.size g zs T) w) (o : Nat) (us : List Value) (hl : o + us.length ≤ zs.size) (he : zs.toList.take o ++ us ++ zs.toList.drop (o + us.length) = bx.toList) (hU : T ≠ 268 := by decide) : Pd (R.box W0.heap.size g bx T) (w.setCells g o us) := by
  have ht : w.heap[g]? = some (.cells zs.toList.toArray T (0, 0)) := by rw [Array.toArray_toList]; exact hB.is h
  have := obj_setCells us o w zs.toList ht (by simpa using hl)
  rw [he, Array.toArray_toList] at this
  exact hB.turn hU h (frm_setCells us o _ _ (Frm.refl _ _)) this
theorem Bx.there (hB : Bx W0 Pd) (h : Pd (R.box W0.heap.size g zs T) w) (o n : Nat) (hl : o + n ≤ zs.size) : w.there g o n := by
  intro j hj
  refine ⟨?_, obj_free (hB.is h) _⟩
  rw [obj_cell (hB.is h), Array.getElem?_eq_getElem (by omega)]
  rfl
end
theorem sg_bx (W0 : World) (p a k cur : Nat) (ids : List Int) (cl pub sn sc : Int) (xs : List Int) (st : Int) : Bx W0 fun R w => Sg R W0 w p a k cur ids cl pub sn sc xs st where
  keep h hb := h.keep hb
  inv h := h.inv
  new bx U h := h.boxNew bx U
  turn hU h hf hb := by
    obtain ⟨cs, h1, h2⟩ := h
    exact ⟨cs, h1, (h2.swap2.boxTurn hf hb).swap2⟩
  le h hp hi := by
    obtain ⟨cs, h1, h2⟩ := h
    obtain ⟨i1, i2, i3, i4⟩ := h2.inv
    exact ⟨cs, h1, h2.less (fun g hg => hg.imp (hp g) id) ⟨hi, i2, fun e => i3 (hp _ e), i4⟩⟩
theorem run_alloc_cl (w : World) : (Instr.alloc 66 true (.tuple #[])).run Tryz.prog w = .ok (.pointer (some ⟨w.heap.size, 0, none⟩)) (w.alloc (.cells (clA false (tsA (.pointer none) 0 0 false (scC [] 0 0) false false) tyz) 66)) := by kernel_rfl
theorem wpList_alloc_cl {ops : Array Oper} {rest : List Oper} {o : Oper} {a : Act} {w : World} {Q : Exit → Act → World → Prop} (hg : o.guard = none) (ho : o.op = .alloc 66)
    (h : ∀ zs : Array Value, zs.size = 82 → wpList Tryz.prog ops Q rest (a.put o.dst (.pointer (some ⟨w.heap.size, 0, none⟩))) (w.alloc (.cells zs 66))) : wpList Tryz.prog ops Q (o :: rest) a w := by
  refine Great.wpList_runTo hg o.dst rfl _ _ ?_ (h (clA false (tsA (.pointer none) 0 0 false (scC [] 0 0) false false) tyz) (clA_size (tsA_size sc_nil.size) tyz_f.size))
  unfold execOp
  simp only [ho, Sem.run_bind, run_alloc_cl, Result.andThen_ok, Sem.run_pure]
section
variable {W0 W : World} {Pd Pe : Rest → World → Prop} {R : Rest} {t1 t2 : Array Value} {D : Array Value → Prop}
set_option maxHeartbeats 2000000 in
set_option maxRecDepth 100000 in
theorem cstep_one (hB : Bx W0 Pd) (hE : Bx W0 Pe) (h1 : t1.size = 41) (h2 : t2.size = 40) (o1 : t1.all (·.oneCell') = true) (o2 : t2.all (·.oneCell') = true) (hm : Pd R W)
    (hs : ∀ (R : Rest) (w : World), Pd R w → Calls Tryz.prog 86 #[.agg t1] w fun e w' => ∃ u, e = .returned (.tuple #[.agg u, .nilIface]) ∧ D u ∧ Pe R w')
    (hd : ∀ u, D u → u.size = 41 ∧ u.all (·.oneCell') = true ∧ ∃ y : Int, ∀ w : World, Calls Tryz.prog 90 #[.agg u] w fun e w' => e = .returned (.int .i64 y) ∧ Below w.heap.size w w') :
    Calls Tryz.prog 26 #[.agg (clA false t1 t2)] W fun e w' => ∃ u, e = .returned (.tuple #[.agg (clA false u t2), .nilIface]) ∧ D u ∧ Pe R w' := by
  have e1 : (W.alloc (.cells (clA false t1 t2) 66)).heap.size = W.heap.size + 1 := by simp
  have c0 : (clA false t1 t2)[0]? = some (.bool false) := clA_0
  have HC0 := Lib.hid c0
  have HR : Hid (∀ (W : World) (b : Nat) (T : TypeId) (q : Nat × Nat), W.heap[b]? = some (.cells (clA false t1 t2) T q) → W.rangeAt b 1 t1.toList) := fun W b T q h => clA_r1 h1 h
  have HI := Lib.hid (one_info h1)
  have HT : Hid (t1.toList.toArray = t1) := Lib.hid (Array.toArray_toList)
  have HPUT : Hid (∀ u : Array Value, u.size = 41 → (clA false t1 t2).toList.take 1 ++ u.toList ++ (clA false t1 t2).toList.drop (1 + u.toList.length) = (clA false u t2).toList) := Lib.hid fun u hu => clA_put1 h1 h2 hu
  have HSZ : Hid (∀ u : Array Value, u.size = 41 → (clA false u t2).size = 82) := Lib.hid fun u hu => clA_size hu h2
  have HSZ1 := Lib.hid (clA_size (m := false) h1 h2)
  have HON : Hid (∀ u : Array Value, u.all (·.oneCell') = true → (clA false u t2).all (·.oneCell') = true) := Lib.hid fun u hu => clA_one hu o2
  have HCI : Hid (∀ u : Array Value, u.size = 41 → (Tryz.prog.info? 66).map (·.size) = some (clA false u t2).size) := Lib.hid fun u hu => clA_info hu h2
  have HLA : Hid (∀ (u : Array Value) (y : Int), u.size = 41 → (∀ w : World, Calls Tryz.prog 90 #[.agg u] w fun e w' => e = .returned (.int .i64 y) ∧ Below w.heap.size w w') → ∀ w : World, Calls Tryz.prog 28 #[.agg (clA false u t2)] w fun e w' => e = .returned (.int .i64 y) ∧ Below w.heap.size w w') := Lib.hid fun u y hu hy w => clast_one hu h2 hy w
  have HB := Lib.hid hB
  have HE := Lib.hid hE
  have HM := Lib.hid hm
  have HS := Lib.hid hs
  have HD := Lib.hid hd
  generalize hcl : clA false t1 t2 = cs at *
  clear hB hE hm hs hd c0 hcl
  go_enter Tryz.func26, Tryz.ntmps26
  go_upto_region 2 with (first
    | (refine wpList_alloc_cl rfl rfl ?_; intro zs hz; have HZ := Lib.hid hz; have hg := HB.out.new zs 66 (HB.out.new cs 66 HM.out); rw [e1] at hg; have H1 := Lib.hid (HB.out.swap hg); rw [e1]; generalize (W.alloc (.cells cs 66)).alloc (.cells zs 66) = w1 at *; generalize W.heap.size = b at *; clear hg hz e1))
  have k0 := (obj_cell (HB.out.is H1.out) 0).trans HC0.out
  go_upto_region 5 with (first
    | (refine wpList_load_mid rfl 60 (.tmp 15) rfl b 1 rfl t1.toList _ (HR.out _ _ _ _ (HB.out.is H1.out)) Tryz.underlying60 rfl HI.out ?_; rw [HT.out])
    | (go_at_call 86; refine (HS.out _ _ H1.out).mono ?_; rintro e w2 ⟨u, rfl, hdu, hg⟩; obtain ⟨q1, q2, y, q3⟩ := HD.out u hdu; have HU := Lib.hid hdu; have HU1 := Lib.hid q1; have HU2 := Lib.hid q2; have HU3 := Lib.hid q3; have HUI := Lib.hid (one_info q1); have H2 := Lib.hid hg; clear hdu q1 q2 q3 hg k0)
    | (refine wpList_store_mid rfl 60 (.tmp 20) (.tmp 18) rfl b 1 u rfl rfl (HE.out.there H2.out 1 u.size (by rw [HU1.out, HSZ1.out]; omega)) (by rw [HUI.out, Array.length_toList]) HU2.out ?_; have H3 := Lib.hid (HE.out.cells H2.out 1 u.toList (by rw [Array.length_toList, HU1.out, HSZ1.out]; omega) (HPUT.out u HU1.out)); generalize w2.setCells b 1 u.toList = w3 at *))
  have HSU := Lib.hid (HSZ.out u HU1.out)
  have HOU := Lib.hid (HON.out u HU2.out)
  have HIU := Lib.hid (HCI.out u HU1.out)
  have HLU := Lib.hid (HLA.out u y HU1.out HU3.out)
  clear HLA HON HCI HSZ HPUT
  generalize hcu : clA false u t2 = cu at *
  have HLR : Hid (∀ w', (∃ x : Later w3, w' = x.to) → w'.heap[b]? = some (.cells cu 66 (0, 0))) := by
    rintro _ ⟨x, rfl⟩
    exact HE.out.is (HE.out.keep H3.out x.below)
  have HSL : Hid (∀ x : Later w3, Calls Tryz.prog 28 #[.agg cu] x.to fun e w'' => e = .returned (.int .i64 y) ∧ ∃ y : Later w3, w'' = y.to) := fun x => (HLU.out _).mono fun e w h => ⟨h.1, ⟨w, bthen x.below h.2⟩, rfl⟩
  have HWR : Hid (∀ (op : ByteArray) (x : Later w3), Calls Tryz.prog 75 #[.string op, .int .i64 y, .nilIface] x.to fun e w'' => e = .returned .nilIface ∧ ∃ y : Later w3, w'' = y.to) := fun op x => (wrap_nil op y).mono fun e w h => ⟨h.1, x, h.2.symm⟩
  refine wp_region_later_tail 5 (by kernel_rfl) (by kernel_rfl) ?_
  simp only [List.take_succ_cons, List.take_zero, List.drop_succ_cons, List.drop_zero]
  repeat (first
    | (go_big_quiet_want; refine quiet_load_rowG 66 (.tmp 1) rfl b rfl 66 cu (0, 0) _ HLR.out Tryz.underlying66 rfl HIU.out ?_; go_big_quiet_on; go_frame)
    | go_big_quiet_step ((first
      | (go_at_call 28; exact HSL.out _)
      | (go_at_call 75; exact HWR.out _ _))))
  refine wpQuiet_nil ?_
  intro w4 hw'
  obtain ⟨⟨w4', hb4⟩, hw4⟩ := hw'
  obtain rfl : w4 = w4' := hw4
  have H4 := Lib.hid (HE.out.drop (HE.out.keep H3.out hb4))
  clear hb4
  go_wp2_with (first
    | (refine wpList_store_row rfl 66 (.tmp 2) (.tmp 21) rfl (b + 1) cu rfl rfl 66 _ (HE.out.is H4.out) HIU.out (by rw [HSU.out]; exact HZ.out) HOU.out ?_))
  exact bodyPost_ret (results_row_fault (p := 2) (u := 3) (by kernel_rfl) _ _ (b + 1) 66 cu (0, 0) _ _ rfl rfl (HE.out.is (HE.out.row H4.out cu)) Tryz.underlying66 rfl HIU.out) rfl ⟨u, by subst hcu; rfl, HU.out, HE.out.drop (HE.out.row H4.out cu)⟩
set_option maxHeartbeats 2000000 in
set_option maxRecDepth 100000 in
theorem cstep_all (hB : Bx W0 Pd) (hE : Bx W0 Pe) (h1 : t1.size = 41) (h2 : t2.size = 40) (o1 : t1.all (·.oneCell') = true) (o2 : t2.all (·.oneCell') = true) (hm : Pd R W)
    (hs : ∀ (R : Rest) (w : World), Pd R w → Calls Tryz.prog 85 #[.agg t2] w fun e w' => ∃ u, e = .returned (.tuple #[.agg u, .nilIface]) ∧ D u ∧ Pe R w')
    (hd : ∀ u, D u → u.size = 40 ∧ u.all (·.oneCell') = true ∧ ∃ y : Int, ∀ w : World, Calls Tryz.prog 89 #[.agg u] w fun e w' => e = .returned (.int .i64 y) ∧ Below w.heap.size w w') :
    Calls Tryz.prog 26 #[.agg (clA true t1 t2)] W fun e w' => ∃ u, e = .returned (.tuple #[.agg (clA true t1 u), .nilIface]) ∧ D u ∧ Pe R w' := by
  have e1 : (W.alloc (.cells (clA true t1 t2) 66)).heap.size = W.heap.size + 1 := by simp
  have c0 : (clA true t1 t2)[0]? = some (.bool true) := clA_0
  have HC0 := Lib.hid c0
  have HR : Hid (∀ (W : World) (b : Nat) (T : TypeId) (q : Nat × Nat), W.heap[b]? = some (.cells (clA true t1 t2) T q) → W.rangeAt b 42 t2.toList) := fun W b T q h => clA_r2 h1 h2 h
  have HI := Lib.hid (all_info h2)
  have HT : Hid (t2.toList.toArray = t2) := Lib.hid (Array.toArray_toList)
  have HPUT : Hid (∀ u : Array Value, u.size = 40 → (clA true t1 t2).toList.take 42 ++ u.toList ++ (clA true t1 t2).toList.drop (42 + u.toList.length) = (clA true t1 u).toList) := Lib.hid fun u hu => clA_put2 h1 h2 hu
  have HSZ : Hid (∀ u : Array Value, u.size = 40 → (clA true t1 u).size = 82) := Lib.hid fun u hu => clA_size h1 hu
  have HSZ1 := Lib.hid (clA_size (m := true) h1 h2)
  have HON : Hid (∀ u : Array Value, u.all (·.oneCell') = true → (clA true t1 u).all (·.oneCell') = true) := Lib.hid fun u hu => clA_one o1 hu
  have HCI : Hid (∀ u : Array Value, u.size = 40 → (Tryz.prog.info? 66).map (·.size) = some (clA true t1 u).size) := Lib.hid fun u hu => clA_info h1 hu
  have HLA : Hid (∀ (u : Array Value) (y : Int), u.size = 40 → (∀ w : World, Calls Tryz.prog 89 #[.agg u] w fun e w' => e = .returned (.int .i64 y) ∧ Below w.heap.size w w') → ∀ w : World, Calls Tryz.prog 28 #[.agg (clA true t1 u)] w fun e w' => e = .returned (.int .i64 y) ∧ Below w.heap.size w w') := Lib.hid fun u y hu hy w => clast_all h1 hu hy w
  have HB := Lib.hid hB
  have HE := Lib.hid hE
  have HM := Lib.hid hm
  have HS := Lib.hid hs
  have HD := Lib.hid hd
  generalize hcl : clA true t1 t2 = cs at *
  clear hB hE hm hs hd c0 hcl
  go_enter Tryz.func26, Tryz.ntmps26
  go_upto_region 2 with (first
    | (refine wpList_alloc_cl rfl rfl ?_; intro zs hz; have HZ := Lib.hid hz; have hg := HB.out.new zs 66 (HB.out.new cs 66 HM.out); rw [e1] at hg; have H1 := Lib.hid (HB.out.swap hg); rw [e1]; generalize (W.alloc (.cells cs 66)).alloc (.cells zs 66) = w1 at *; generalize W.heap.size = b at *; clear hg hz e1))
  have k0 := (obj_cell (HB.out.is H1.out) 0).trans HC0.out
  go_upto_region 5 with (first
    | (refine wpList_load_mid rfl 64 (.tmp 8) rfl b 42 rfl t2.toList _ (HR.out _ _ _ _ (HB.out.is H1.out)) Tryz.underlying64 rfl HI.out ?_; rw [HT.out])
    | (go_at_call 85; refine (HS.out _ _ H1.out).mono ?_; rintro e w2 ⟨u, rfl, hdu, hg⟩; obtain ⟨q1, q2, y, q3⟩ := HD.out u hdu; have HU := Lib.hid hdu; have HU1 := Lib.hid q1; have HU2 := Lib.hid q2; have HU3 := Lib.hid q3; have HUI := Lib.hid (all_info q1); have H2 := Lib.hid hg; clear hdu q1 q2 q3 hg k0)
    | (refine wpList_store_mid rfl 64 (.tmp 13) (.tmp 11) rfl b 42 u rfl rfl (HE.out.there H2.out 42 u.size (by rw [HU1.out, HSZ1.out]; omega)) (by rw [HUI.out, Array.length_toList]) HU2.out ?_; have H3 := Lib.hid (HE.out.cells H2.out 42 u.toList (by rw [Array.length_toList, HU1.out, HSZ1.out]; omega) (HPUT.out u HU1.out)); generalize w2.setCells b 42 u.toList = w3 at *))
  have HSU := Lib.hid (HSZ.out u HU1.out)
  have HOU := Lib.hid (HON.out u HU2.out)
  have HIU := Lib.hid (HCI.out u HU1.out)
  have HLU := Lib.hid (HLA.out u y HU1.out HU3.out)
  clear HLA HON HCI HSZ HPUT
  generalize hcu : clA true t1 u = cu at *
  have HLR : Hid (∀ w', (∃ x : Later w3, w' = x.to) → w'.heap[b]? = some (.cells cu 66 (0, 0))) := by
    rintro _ ⟨x, rfl⟩
    exact HE.out.is (HE.out.keep H3.out x.below)
  have HSL : Hid (∀ x : Later w3, Calls Tryz.prog 28 #[.agg cu] x.to fun e w'' => e = .returned (.int .i64 y) ∧ ∃ y : Later w3, w'' = y.to) := fun x => (HLU.out _).mono fun e w h => ⟨h.1, ⟨w, bthen x.below h.2⟩, rfl⟩
  have HWR : Hid (∀ (op : ByteArray) (x : Later w3), Calls Tryz.prog 75 #[.string op, .int .i64 y, .nilIface] x.to fun e w'' => e = .returned .nilIface ∧ ∃ y : Later w3, w'' = y.to) := fun op x => (wrap_nil op y).mono fun e w h => ⟨h.1, x, h.2.symm⟩
  refine wp_region_later_tail 5 (by kernel_rfl) (by kernel_rfl) ?_
  simp only [List.take_succ_cons, List.take_zero, List.drop_succ_cons, List.drop_zero]
  repeat (first
    | (go_big_quiet_want; refine quiet_load_rowG 66 (.tmp 1) rfl b rfl 66 cu (0, 0) _ HLR.out Tryz.underlying66 rfl HIU.out ?_; go_big_quiet_on; go_frame)
    | go_big_quiet_step ((first
      | (go_at_call 28; exact HSL.out _)
      | (go_at_call 75; exact HWR.out _ _))))
  refine wpQuiet_nil ?_
  intro w4 hw'
  obtain ⟨⟨w4', hb4⟩, hw4⟩ := hw'
  obtain rfl : w4 = w4' := hw4
  have H4 := Lib.hid (HE.out.drop (HE.out.keep H3.out hb4))
  clear hb4
  go_wp2_with (first
    | (refine wpList_store_row rfl 66 (.tmp 2) (.tmp 21) rfl (b + 1) cu rfl rfl 66 _ (HE.out.is H4.out) HIU.out (by rw [HSU.out]; exact HZ.out) HOU.out ?_))
  exact bodyPost_ret (results_row_fault (p := 2) (u := 3) (by kernel_rfl) _ _ (b + 1) 66 cu (0, 0) _ _ rfl rfl (HE.out.is (HE.out.row H4.out cu)) Tryz.underlying66 rfl HIU.out) rfl ⟨u, by subst hcu; rfl, HU.out, HE.out.drop (HE.out.row H4.out cu)⟩
end
end Go.Proofs.YtdfcfdcekdmcmaaGreat
namespace Go.Proofs.YtdfcfdcekdmcmaaGreat
open Go.RowKit
set_option linter.unusedVariables false
def tsZ : Array Value := tsA (.pointer none) 0 0 false (scC [] 0 0) false false
theorem tsZ_size : tsZ.size = 41 := tsA_size sc_nil.size
theorem tsZ_one : tsZ.all (·.oneCell') = true := tsA_one rfl sc_nil.one
theorem built_clf : Tryz.prog.built 66 [(0, .bool false)] = some (clA false tsZ tyz) := by kernel_rfl
theorem built_clt : Tryz.prog.built 66 [(0, .bool true)] = some (clA true tsZ tyz) := by kernel_rfl
section
variable {W0 W : World} {Pd Pe : Rest → World → Prop} {R : Rest} {D : Array Value → Prop} {r g p i0 : Nat}
set_option maxHeartbeats 2000000 in
set_option maxRecDepth 100000 in
theorem rclaim_one (hB : Bx W0 Pd) (hE : Bx W0 Pe) (hm : Pd R W) (n : Int)
    (hf : ∀ (op : ByteArray) (w : World), R.inv w → Calls Tryz.prog 69 #[.pointer (some ⟨r, 0, none⟩), .string op, .int .i64 i0] w fun e w' => e = .returned (.tuple #[.pointer (some ⟨g, 0, none⟩), .nilIface]) ∧ Below w.heap.size w w')
    (hg : ∀ w : World, R.inv w → w.cell? ⟨g, 1, none⟩ = some (.pointer (some ⟨p, 0, none⟩)) ∧ w.cell? ⟨g, 2, none⟩ = some (.pointer none))
    (hs : ∀ (R : Rest) (w : World), Pd R w → Calls Tryz.prog 82 #[.pointer (some ⟨p, 0, none⟩), .int .i64 n] w fun e w' => ∃ u, e = .returned (.tuple #[.agg u, .nilIface]) ∧ D u ∧ Pe R w')
    (hd : ∀ u, D u → u.size = 41 ∧ u.all (·.oneCell') = true) :
    Calls Tryz.prog 24 #[.pointer (some ⟨r, 0, none⟩), .int .i64 i0, .int .i64 n] W fun e w' => ∃ u, e = .returned (.tuple #[.agg (clA false u tyz), .nilIface]) ∧ D u ∧ Pe R w' := by
  have h2 : tyz.size = 40 := tyz_f.size
  have HBU := Lib.hid built_clf
  have HC0 : Hid ((clA false tsZ tyz)[0]? = some (.bool false)) := Lib.hid clA_0
  have HPUT : Hid (∀ u : Array Value, u.size = 41 → (clA false tsZ tyz).toList.take 1 ++ u.toList ++ (clA false tsZ tyz).toList.drop (1 + u.toList.length) = (clA false u tyz).toList) := Lib.hid fun u hu => clA_put1 tsZ_size h2 hu
  have HSZ : Hid (∀ u : Array Value, u.size = 41 → (clA false u tyz).size = 82) := Lib.hid fun u hu => clA_size hu h2
  have HSZ1 := Lib.hid (clA_size (m := false) tsZ_size h2)
  have HON1 := Lib.hid (clA_one (m := false) tsZ_one tyz_f.one)
  have HCI1 := Lib.hid (clA_info (m := false) tsZ_size h2)
  have HON : Hid (∀ u : Array Value, u.all (·.oneCell') = true → (clA false u tyz).all (·.oneCell') = true) := Lib.hid fun u hu => clA_one hu tyz_f.one
  have HCI : Hid (∀ u : Array Value, u.size = 41 → (Tryz.prog.info? 66).map (·.size) = some (clA false u tyz).size) := Lib.hid fun u hu => clA_info hu h2
  have HB := Lib.hid hB
  have HE := Lib.hid hE
  have HM := Lib.hid hm
  have HF := Lib.hid hf
  have HG := Lib.hid hg
  have HS := Lib.hid hs
  have HD := Lib.hid hd
  generalize clA false tsZ tyz = cs at *
  clear hB hE hm hf hg hs hd h2
  go_enter Tryz.func24, Tryz.ntmps24
  go_upto_region 4 with (first
    | (refine wpList_alloc_cl rfl rfl ?_; intro zs hz; have HZ := Lib.hid hz; have H1 := Lib.hid (HB.out.new zs 66 HM.out); generalize W.alloc (.cells zs 66) = w1 at *; generalize W.heap.size = b at *; clear hz)
    | (go_at_call 69; refine (HF.out _ _ (HB.out.inv H1.out).1).mono ?_; rintro e w2 ⟨rfl, hb⟩; have H2 := Lib.hid (HB.out.keep H1.out hb); clear hb))
  have g2 := (HG.out _ (HB.out.inv H2.out).1).2
  go_upto_region 5 with (first
    | (refine wpList_build1 rfl 66 0 (.tmp 25) rfl _ rfl cs ?_ ?_; exact HBU.out)
    | (refine wpList_alloc_cl rfl rfl ?_; intro ys hy; have HY := Lib.hid hy; have hn := HB.out.new ys 66 H2.out; have HA := Lib.hid (HB.out.is hn); have H3 := Lib.hid (HB.out.row hn cs); generalize w2.alloc (.cells ys 66) = w3 at *; generalize w2.heap.size = c at *; clear hy hn)
    | (refine wpList_store_row rfl 66 (.tmp 10) (.tmp 26) rfl c cs rfl rfl 66 _ HA.out HCI1.out (by rw [HSZ1.out]; exact HY.out) HON1.out ?_; generalize World.setRow _ c cs = w4 at *))
  have k0 := (obj_cell (HB.out.is H3.out) 0).trans HC0.out
  have g1 := (HG.out _ (HB.out.inv H3.out).1.1).1
  go_upto_region 8 with (first
    | (go_at_call 82; refine (HS.out _ _ H3.out).mono ?_; rintro e w5 ⟨u, rfl, hdu, hgg⟩; obtain ⟨q1, q2⟩ := HD.out u hdu; have HU := Lib.hid hdu; have HU1 := Lib.hid q1; have HU2 := Lib.hid q2; have HUI := Lib.hid (one_info q1); have H5 := Lib.hid hgg; clear hdu q1 q2 hgg k0 g1)
    | (refine wpList_store_mid rfl 60 (.tmp 48) (.tmp 46) rfl c 1 u rfl rfl (HE.out.there H5.out 1 u.size (by rw [HU1.out, HSZ1.out]; omega)) (by rw [HUI.out, Array.length_toList]) HU2.out ?_; have H6 := Lib.hid (HE.out.cells H5.out 1 u.toList (by rw [Array.length_toList, HU1.out, HSZ1.out]; omega) (HPUT.out u HU1.out)); generalize w5.setCells c 1 u.toList = w6 at *))
  have HSU := Lib.hid (HSZ.out u HU1.out)
  have HOU := Lib.hid (HON.out u HU2.out)
  have HIU := Lib.hid (HCI.out u HU1.out)
  clear HON HCI HSZ HPUT
  generalize hcu : clA false u tyz = cu at *
  have H7 := Lib.hid (HE.out.drop H6.out)
  go_wp2_with (first
    | (refine wpList_load_row rfl 66 (.tmp 10) rfl c rfl 66 cu (0, 0) _ (HE.out.is H6.out) Tryz.underlying66 rfl HIU.out ?_)
    | (refine wpList_store_row rfl 66 (.tmp 6) (.tmp 55) rfl b cu rfl rfl 66 _ (HE.out.is H7.out) HIU.out (by rw [HSU.out]; exact HZ.out) HOU.out ?_))
  exact bodyPost_ret (results_row_fault (p := 6) (u := 7) (by kernel_rfl) _ _ b 66 cu (0, 0) _ _ rfl rfl (HE.out.is (HE.out.row H7.out cu)) Tryz.underlying66 rfl HIU.out) rfl ⟨u, by subst hcu; rfl, HU.out, HE.out.drop (HE.out.row H7.out cu)⟩
set_option maxHeartbeats 2000000 in
set_option maxRecDepth 100000 in
theorem rclaim_all (hB : Bx W0 Pd) (hE : Bx W0 Pe) (hm : Pd R W) (n : Int)
    (hf : ∀ (op : ByteArray) (w : World), R.inv w → Calls Tryz.prog 69 #[.pointer (some ⟨r, 0, none⟩), .string op, .int .i64 i0] w fun e w' => e = .returned (.tuple #[.pointer (some ⟨g, 0, none⟩), .nilIface]) ∧ Below w.heap.size w w')
    (hg : ∀ w : World, R.inv w → w.cell? ⟨g, 2, none⟩ = some (.pointer (some ⟨p, 0, none⟩)))
    (hs : ∀ (R : Rest) (w : World), Pd R w → Calls Tryz.prog 81 #[.pointer (some ⟨p, 0, none⟩), .int .i64 n] w fun e w' => ∃ u, e = .returned (.tuple #[.agg u, .nilIface]) ∧ D u ∧ Pe R w')
    (hd : ∀ u, D u → u.size = 40 ∧ u.all (·.oneCell') = true) :
    Calls Tryz.prog 24 #[.pointer (some ⟨r, 0, none⟩), .int .i64 i0, .int .i64 n] W fun e w' => ∃ u, e = .returned (.tuple #[.agg (clA true tsZ u), .nilIface]) ∧ D u ∧ Pe R w' := by
  have h2 : tyz.size = 40 := tyz_f.size
  have HBU := Lib.hid built_clt
  have HC0 : Hid ((clA true tsZ tyz)[0]? = some (.bool true)) := Lib.hid clA_0
  have HPUT : Hid (∀ u : Array Value, u.size = 40 → (clA true tsZ tyz).toList.take 42 ++ u.toList ++ (clA true tsZ tyz).toList.drop (42 + u.toList.length) = (clA true tsZ u).toList) := Lib.hid fun u hu => clA_put2 tsZ_size h2 hu
  have HSZ : Hid (∀ u : Array Value, u.size = 40 → (clA true tsZ u).size = 82) := Lib.hid fun u hu => clA_size tsZ_size hu
  have HSZ1 := Lib.hid (clA_size (m := true) tsZ_size h2)
  have HON1 := Lib.hid (clA_one (m := true) tsZ_one tyz_f.one)
  have HCI1 := Lib.hid (clA_info (m := true) tsZ_size h2)
  have HON : Hid (∀ u : Array Value, u.all (·.oneCell') = true → (clA true tsZ u).all (·.oneCell') = true) := Lib.hid fun u hu => clA_one tsZ_one hu
  have HCI : Hid (∀ u : Array Value, u.size = 40 → (Tryz.prog.info? 66).map (·.size) = some (clA true tsZ u).size) := Lib.hid fun u hu => clA_info tsZ_size hu
  have HB := Lib.hid hB
  have HE := Lib.hid hE
  have HM := Lib.hid hm
  have HF := Lib.hid hf
  have HG := Lib.hid hg
  have HS := Lib.hid hs
  have HD := Lib.hid hd
  generalize clA true tsZ tyz = cs at *
  clear hB hE hm hf hg hs hd h2
  go_enter Tryz.func24, Tryz.ntmps24
  go_upto_region 4 with (first
    | (refine wpList_alloc_cl rfl rfl ?_; intro zs hz; have HZ := Lib.hid hz; have H1 := Lib.hid (HB.out.new zs 66 HM.out); generalize W.alloc (.cells zs 66) = w1 at *; generalize W.heap.size = b at *; clear hz)
    | (go_at_call 69; refine (HF.out _ _ (HB.out.inv H1.out).1).mono ?_; rintro e w2 ⟨rfl, hb⟩; have H2 := Lib.hid (HB.out.keep H1.out hb); clear hb))
  have g2 := HG.out _ (HB.out.inv H2.out).1
  go_upto_region 5 with (first
    | (refine wpList_build1 rfl 66 0 (.tmp 25) rfl _ rfl cs ?_ ?_; exact HBU.out)
    | (refine wpList_alloc_cl rfl rfl ?_; intro ys hy; have HY := Lib.hid hy; have hn := HB.out.new ys 66 H2.out; have HA := Lib.hid (HB.out.is hn); have H3 := Lib.hid (HB.out.row hn cs); generalize w2.alloc (.cells ys 66) = w3 at *; generalize w2.heap.size = c at *; clear hy hn)
    | (refine wpList_store_row rfl 66 (.tmp 10) (.tmp 26) rfl c cs rfl rfl 66 _ HA.out HCI1.out (by rw [HSZ1.out]; exact HY.out) HON1.out ?_; generalize World.setRow _ c cs = w4 at *))
  have k0 := (obj_cell (HB.out.is H3.out) 0).trans HC0.out
  have g1 := HG.out _ (HB.out.inv H3.out).1.1
  go_upto_region 8 with (first
    | (go_at_call 81; refine (HS.out _ _ H3.out).mono ?_; rintro e w5 ⟨u, rfl, hdu, hgg⟩; obtain ⟨q1, q2⟩ := HD.out u hdu; have HU := Lib.hid hdu; have HU1 := Lib.hid q1; have HU2 := Lib.hid q2; have HUI := Lib.hid (all_info q1); have H5 := Lib.hid hgg; clear hdu q1 q2 hgg k0 g1)
    | (refine wpList_store_mid rfl 64 (.tmp 38) (.tmp 36) rfl c 42 u rfl rfl (HE.out.there H5.out 42 u.size (by rw [HU1.out, HSZ1.out]; omega)) (by rw [HUI.out, Array.length_toList]) HU2.out ?_; have H6 := Lib.hid (HE.out.cells H5.out 42 u.toList (by rw [Array.length_toList, HU1.out, HSZ1.out]; omega) (HPUT.out u HU1.out)); generalize w5.setCells c 42 u.toList = w6 at *))
  have HSU := Lib.hid (HSZ.out u HU1.out)
  have HOU := Lib.hid (HON.out u HU2.out)
  have HIU := Lib.hid (HCI.out u HU1.out)
  clear HON HCI HSZ HPUT
  generalize hcu : clA true tsZ u = cu at *
  have H7 := Lib.hid (HE.out.drop H6.out)
  go_wp2_with (first
    | (refine wpList_load_row rfl 66 (.tmp 10) rfl c rfl 66 cu (0, 0) _ (HE.out.is H6.out) Tryz.underlying66 rfl HIU.out ?_)
    | (refine wpList_store_row rfl 66 (.tmp 6) (.tmp 55) rfl b cu rfl rfl 66 _ (HE.out.is H7.out) HIU.out (by rw [HSU.out]; exact HZ.out) HOU.out ?_))
  exact bodyPost_ret (results_row_fault (p := 6) (u := 7) (by kernel_rfl) _ _ b 66 cu (0, 0) _ _ rfl rfl (HE.out.is (HE.out.row H7.out cu)) Tryz.underlying66 rfl HIU.out) rfl ⟨u, by subst hcu; rfl, HU.out, HE.out.drop (HE.out.row H7.out cu)⟩
end
end Go.Proofs.YtdfcfdcekdmcmaaGreat
