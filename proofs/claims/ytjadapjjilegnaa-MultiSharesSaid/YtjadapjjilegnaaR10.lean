/-
  The document's answers for layer 10 by contract: New, Claim. Condition: at most a million who hold back.
-/
import Derived.Test.YtjadapjjilegnaaR9
import Derived.Deep.DeepCutAuto
import Derived.Deep.CutBlock
namespace Go.Proofs.Ytjadapjjilegnaa
open Go.RowKit
set_option linter.unusedVariables false

theorem bset {W w : World} (h : Below W.heap.size W w) (i : Nat) (u : Value) (b : Nat) (hb : W.heap.size ≤ b) : Below W.heap.size W (w.setCell ⟨b, i, none⟩ u) :=
  h.trans (((Frm.refl (fun k => k = b) w).setCell (p := ⟨b, i, none⟩) rfl u).below h.size fun k e => e ▸ hb)
set_option maxHeartbeats 1000000 in
theorem rnew9 (N : Int) (W : World) :
    Calls Try.prog 138 #[.int .i64 N] W fun e w' => e = .returned (.agg #[.int .i64 N, .int .i64 (-1), .int .i64 (-1), .slice none 0 0, .int .i64 (-1), .int .i64 0]) ∧ Below W.heap.size W w' := by
  go_enter Try.func138, Try.ntmps138
  go_wp2
  refine bodyPost_ret (v := .agg #[.int .i64 N, .int .i64 (-1), .int .i64 (-1), .slice none 0 0, .int .i64 (-1), .int .i64 0]) ?_ rfl ⟨rfl, ?_⟩
  · simp [results, Try.results138, go_sem]
  · repeat (first | exact balloc (Below.refl _ _) _ | refine bset ?_ _ _ _ (Nat.le_refl _))
/-- What a document's sequencer of layer 10 is. -/
def s10 (N c : Int) (gv : Value) (sn : Int) (sv : Value) : Array Value := #[.int .i64 N, .int .i64 c, .int .i64 c, gv, .int .i64 sn, .int .i64 0, sv]
theorem s10_info (N c : Int) (gv : Value) (sn : Int) (sv : Value) : (Try.prog.info? 125).map (·.size) = some (s10 N c gv sn sv).size := by kernel_rfl
theorem built10 (N c : Int) : Try.prog.built 125 [(0, .agg #[.int .i64 N, .int .i64 c, .int .i64 c, .slice none 0 0, .int .i64 c, .int .i64 0])] = some (s10 N c (.slice none 0 0) c (.slice none 0 0)) := by kernel_rfl
theorem s10_one {N c : Int} {gv : Value} {sn : Int} {sv : Value} (hg : gv.oneCell' = true) (hs : sv.oneCell' = true) : (s10 N c gv sn sv).all (·.oneCell') = true := by
  rw [Array.all_eq_true_iff_forall_mem]
  intro y hy
  simp only [s10, List.mem_toArray, List.mem_cons, List.not_mem_nil, or_false] at hy
  rcases hy with rfl | rfl | rfl | rfl | rfl | rfl | rfl <;> first | rfl | assumption
set_option maxHeartbeats 1000000 in
theorem rnew10 (N : Int) (W : World) :
    Calls Try.prog 72 #[.int .i64 N] W fun e w' => e = .returned (.agg (s10 N (-1) (.slice none 0 0) (-1) (.slice none 0 0))) ∧ Below W.heap.size W w' := by
  have HBU := Lib.hid (built10 N (-1))
  have HI := Lib.hid (s10_info N (-1) (.slice none 0 0) (-1) (.slice none 0 0))
  have H1 := Lib.hid (s10_one (N := N) (c := -1) (gv := .slice none 0 0) (sn := -1) (sv := .slice none 0 0) rfl rfl)
  have HS : Hid ((s10 N (-1) (.slice none 0 0) (-1) (.slice none 0 0)).size = 7) := rfl
  generalize s10 N (-1) (.slice none 0 0) (-1) (.slice none 0 0) = cs at *
  go_enter Try.func72, Try.ntmps72
  go_upto_region 1 with fail
  generalize hX : W.alloc (.cells _ 125) = X at *
  have HO : Hid (∃ z : Array Value, z.size = 7 ∧ X.heap[W.heap.size]? = some (.cells z 125 (0, 0))) := hX ▸ ⟨_, rfl, obj_new _ _⟩
  have HB : Hid (Below W.heap.size W X) := hX ▸ balloc (Below.refl _ _) _
  obtain ⟨z, hz7, hz⟩ := HO.out
  have HZ := Lib.hid hz
  clear hX HO hz
  go_wp2_with (first
    | (go_at_call 138; refine (rnew9 N _).mono ?_; rintro e w1 ⟨rfl, hb⟩; have HZ1 := Lib.hid ((hb.block _ (lt_of_block HZ.out)).trans HZ.out); have HB1 := Lib.hid (bthen HB.out hb); clear hb)
    | (refine wpList_build1 rfl 125 0 (.tmp 4) rfl _ rfl cs ?_ ?_; exact HBU.out)
    | (refine wpList_store_row rfl 125 (.tmp 2) (.tmp 5) rfl W.heap.size cs rfl rfl 125 _ HZ1.out HI.out (by rw [HS.out, hz7]) H1.out ?_))
  exact bodyPost_ret (results_row (p := 2) (by kernel_rfl) _ _ W.heap.size 125 cs _ rfl (setRow_heap _ _ _ _ _ _ HZ1.out) Try.underlying125 rfl HI.out) rfl ⟨rfl, bsetRow HB1.out (Nat.le_refl _) cs⟩

theorem results_cell_two {fn : Func} {p u u2 : Tmp} {ty : TypeId} (h : fn.results = #[.cell p ty, .tmp u, .tmp u2]) (tmps : Array Value) (P : Program) (w : World) :
    (results fn tmps).run P w = ((asAddr (tmps.getD p undef)).run P w).andThen fun a w1 => ((loadVar ty a).run P w1).andThen fun v w2 => .ok (.tuple #[v, tmps.getD u undef, tmps.getD u2 undef]) w2 := by
  simp only [results, h]
  simp [Sem.run_bind, Result.andThen]
theorem results_row_two {P : Program} {fn : Func} {p u u2 : Tmp} {ty : TypeId} (h : fn.results = #[.cell p ty, .tmp u, .tmp u2]) (tmps : Array Value) (w : World) (g : Nat) (t : TypeId) (cs : Array Value) (fr : Nat × Nat) (d : TypeDesc) (E F : Value)
    (hp : tmps.getD p undef = .pointer (some ⟨g, 0, none⟩)) (hE : tmps.getD u undef = E) (hF : tmps.getD u2 undef = F) (hg : w.heap[g]? = some (.cells cs t fr))
    (hu : P.underlying ty = some d) (hd : (match d with | .struct _ | .array _ _ => true | _ => false) = true) (hi : (P.info? ty).map (·.size) = some cs.size) :
    (results fn tmps).run P w = .ok (.tuple #[.agg cs, E, F]) w := by
  subst hE hF
  rw [results_cell_two h, hp]
  simp only [asAddr, Sem.run_pure, Result.andThen_ok]
  rw [run_loadVar_row w g t ty cs fr d hg hu hd hi]
  rfl

/-- A boxed sequencer of layer 10. -/
def B10 (w : World) (A : Nat) (cs : Array Value) : Prop := w.heap[A]? = some (.cells cs 125 (0, 0))
theorem B10.keep {w w' : World} {A : Nat} {cs : Array Value} (h : B10 w A cs) (hb : Below w.heap.size w w') : B10 w' A cs := (hb.block _ (lt_of_block h)).trans h
structure K7 (w : World) (A : Nat) (N c : Int) (gv : Value) (sn : Int) : Prop where
  k0 : w.cell? ⟨A, 0, none⟩ = some (.int .i64 N)
  k1 : w.cell? ⟨A, 1, none⟩ = some (.int .i64 c)
  k2 : w.cell? ⟨A, 2, none⟩ = some (.int .i64 c)
  k3 : w.cell? ⟨A, 3, none⟩ = some gv
  k4 : w.cell? ⟨A, 4, none⟩ = some (.int .i64 sn)
  k5 : w.cell? ⟨A, 5, none⟩ = some (.int .i64 0)
theorem B10.k {w : World} {A : Nat} {N c sn : Int} {gv sv : Value} (h : B10 w A (s10 N c gv sn sv)) : K7 w A N c gv sn :=
  ⟨(obj_cell h 0).trans rfl, (obj_cell h 1).trans rfl, (obj_cell h 2).trans rfl, (obj_cell h 3).trans rfl, (obj_cell h 4).trans rfl, (obj_cell h 5).trans rfl⟩
set_option maxHeartbeats 2000000 in
set_option maxRecDepth 100000 in
theorem rclaim10_seen {W : World} {gv : Value} {gs : List Int} (h : LngAt W gv gs) (hbig : gs.length ≤ 1000000) (N c sn n : Int) (sv : Value) (hN : 0 ≤ N ∧ N ≤ 1048576) (hc : -1 ≤ c ∧ c ≤ 2305843009213693952) (hn : 1 ≤ n ∧ n ≤ N) (hg1 : gv.oneCell' = true) (hs1 : sv.oneCell' = true) (he : enoughP N c sn n) :
    Calls Try.prog 75 #[.agg (s10 N c gv sn sv), .int .i64 n] W fun e w' => e = .returned (.tuple #[.agg (s10 N (c + n) gv sn sv), .int .i64 (c + n), .int .i64 0]) ∧ Below W.heap.size W w' := by
  have HG := Lib.hid h
  clear h
  have HI := Lib.hid (s10_info N c gv sn sv)
  have HI2 := Lib.hid (s10_info N (c + n) gv sn sv)
  have HE1 := Lib.hid (s10_one (N := N) (c := c + n) (sn := sn) hg1 hs1)
  go_enter Try.func75, Try.ntmps75
  go_upto_region 1 with fail
  generalize hX : World.alloc (W.alloc (.cells _ 125)) (.cells _ 125) = X at *
  have HA0 : Hid (B10 X W.heap.size (s10 N c gv sn sv)) := hX ▸ Lib.hid (obj_old _ (obj_new W _))
  have HZ0 : Hid (∃ z : Array Value, z.size = 7 ∧ X.heap[W.heap.size + 1]? = some (.cells z 125 (0, 0))) := hX ▸ Lib.hid ⟨_, rfl, by have := obj_new (W.alloc (.cells (s10 N c gv sn sv) 125)) (.cells #[.int .i64 0, .int .i64 0, .int .i64 0, .slice none 0 0, .int .i64 0, .int .i64 0, .slice none 0 0] 125); simpa using this⟩
  have HB0 : Hid (Below W.heap.size W X) := hX ▸ Lib.hid (balloc (balloc (Below.refl _ _) _) _)
  obtain ⟨z, hz7, hz⟩ := HZ0.out
  have HZ := Lib.hid hz
  have HST : Hid (∀ w, B10 w W.heap.size (s10 N c gv sn sv) → w.heap[W.heap.size + 1]? = some (.cells z 125 (0, 0)) → B10 ((w.setCell ⟨W.heap.size, 1, none⟩ (.int .i64 (c + n))).setCell ⟨W.heap.size, 2, none⟩ (.int .i64 (c + n))) W.heap.size (s10 N (c + n) gv sn sv) ∧ ((w.setCell ⟨W.heap.size, 1, none⟩ (.int .i64 (c + n))).setCell ⟨W.heap.size, 2, none⟩ (.int .i64 (c + n))).heap[W.heap.size + 1]? = some (.cells z 125 (0, 0))) := Lib.hid (by
    intro w h1 h2
    refine ⟨?_, ?_⟩
    · have := obj_setCell (i := 2) (.int .i64 (c + n)) (obj_setCell (i := 1) (.int .i64 (c + n)) h1)
      simpa [s10, B10] using this
    · exact (heap_setCell_other _ ⟨W.heap.size, 2, none⟩ _ _ (by simp)).trans ((heap_setCell_other _ ⟨W.heap.size, 1, none⟩ _ _ (by simp)).trans h2))
  have HWR : Hid (wrongP N c n = 0) := Lib.hid (by unfold wrongP; rw [if_neg (by omega), if_neg (by omega)])
  have HEN := Lib.hid he
  clear hX HZ0 hz he
  obtain ⟨k0, k1, k2, k3, k4, k5⟩ := HA0.out.k
  go_wp2_with (first
    | (go_at_call 142; refine (rwrong9 _ gv N c c sn 0 n hN ⟨by omega, by omega⟩).mono ?_; rintro e w1 ⟨rfl, hb⟩; rw [HWR.out]; have HA1 := Lib.hid (HA0.out.keep hb); have HZ1 := Lib.hid ((hb.block _ (lt_of_block HZ.out)).trans HZ.out); have HB1 := Lib.hid (bthen HB0.out hb); clear k0 k1 k2 k3 k4 k5 hb; obtain ⟨k0, k1, k2, k3, k4, k5⟩ := HA1.out.k)
    | (go_at_call 143; refine (renough9 _ gv N c c sn 0 n hN ⟨by omega, by omega⟩ hn true ⟨fun _ => HEN.out, fun _ => rfl⟩).mono ?_; rintro e w2 ⟨rfl, hb⟩; have HA2 := Lib.hid (HA1.out.keep hb); have HZ2 := Lib.hid ((hb.block _ (lt_of_block HZ1.out)).trans HZ1.out); have HB2 := Lib.hid (bthen HB1.out hb); clear k0 k1 k2 k3 k4 k5 hb; obtain ⟨k0, k1, k2, k3, k4, k5⟩ := HA2.out.k; have f1 := obj_free HA2.out 1; have f2 := obj_free HA2.out 2)
    | (refine wpList_load_row rfl 125 (.tmp 2) rfl W.heap.size rfl 125 (s10 N (c + n) gv sn sv) (0, 0) _ (HST.out _ HA2.out HZ2.out).1 Try.underlying125 rfl HI2.out ?_)
    | (refine wpList_store_row rfl 125 (.tmp 4) (.tmp 48) rfl (W.heap.size + 1) (s10 N (c + n) gv sn sv) rfl rfl 125 _ (HST.out _ HA2.out HZ2.out).2 HI2.out (by rw [hz7]; rfl) HE1.out ?_))
  exact bodyPost_ret (results_row_two (p := 4) (u := 5) (u2 := 6) (by kernel_rfl) _ _ (W.heap.size + 1) 125 _ (0, 0) _ _ _ rfl rfl rfl (setRow_heap _ _ _ _ _ _ (HST.out _ HA2.out HZ2.out).2) Try.underlying125 rfl HI2.out) rfl ⟨rfl, bsetRow (bset (bset HB2.out 1 _ _ (Nat.le_refl _)) 2 _ _ (Nat.le_refl _)) (by omega) _⟩
set_option maxHeartbeats 2000000 in
set_option maxRecDepth 100000 in
theorem rclaim10_bad {W : World} {gv : Value} {gs : List Int} (h : LngAt W gv gs) (hbig : gs.length ≤ 1000000) (N c sn n : Int) (sv : Value) (hN : 0 ≤ N ∧ N ≤ 1048576) (hc : -1 ≤ c ∧ c ≤ 2305843009213693952) (hn : -9223372036854775808 ≤ n ∧ n ≤ 9223372036854775807) (hg1 : gv.oneCell' = true) (hs1 : sv.oneCell' = true) (y : Int) (hy : wrongP N c n = y) (hy0 : (y == 0) = false) :
    Calls Try.prog 75 #[.agg (s10 N c gv sn sv), .int .i64 n] W fun e w' => e = .returned (.tuple #[.agg (s10 N c gv sn sv), .int .i64 0, .int .i64 y]) ∧ Below W.heap.size W w' := by
  have HG := Lib.hid h
  clear h
  have HI := Lib.hid (s10_info N c gv sn sv)
  have HE1 := Lib.hid (s10_one (N := N) (c := c) (sn := sn) hg1 hs1)
  go_enter Try.func75, Try.ntmps75
  go_upto_region 1 with fail
  generalize hX : World.alloc (W.alloc (.cells _ 125)) (.cells _ 125) = X at *
  have HA0 : Hid (B10 X W.heap.size (s10 N c gv sn sv)) := hX ▸ Lib.hid (obj_old _ (obj_new W _))
  have HZ0 : Hid (∃ z : Array Value, z.size = 7 ∧ X.heap[W.heap.size + 1]? = some (.cells z 125 (0, 0))) := hX ▸ Lib.hid ⟨_, rfl, by have := obj_new (W.alloc (.cells (s10 N c gv sn sv) 125)) (.cells #[.int .i64 0, .int .i64 0, .int .i64 0, .slice none 0 0, .int .i64 0, .int .i64 0, .slice none 0 0] 125); simpa using this⟩
  have HB0 : Hid (Below W.heap.size W X) := hX ▸ Lib.hid (balloc (balloc (Below.refl _ _) _) _)
  obtain ⟨z, hz7, hz⟩ := HZ0.out
  have HZ := Lib.hid hz
  have HWR := Lib.hid hy
  clear hX HZ0 hz hy
  obtain ⟨k0, k1, k2, k3, k4, k5⟩ := HA0.out.k
  go_wp2_with (first
    | (go_at_call 142; refine (rwrong9 _ gv N c c sn 0 n hN hn).mono ?_; rintro e w1 ⟨rfl, hb⟩; rw [HWR.out]; have HA1 := Lib.hid (HA0.out.keep hb); have HZ1 := Lib.hid ((hb.block _ (lt_of_block HZ.out)).trans HZ.out); have HB1 := Lib.hid (bthen HB0.out hb); clear k0 k1 k2 k3 k4 k5 hb; obtain ⟨k0, k1, k2, k3, k4, k5⟩ := HA1.out.k)
    | (refine wpList_load_row rfl 125 (.tmp 2) rfl W.heap.size rfl 125 (s10 N c gv sn sv) (0, 0) _ HA1.out Try.underlying125 rfl HI.out ?_)
    | (refine wpList_store_row rfl 125 (.tmp 4) (.tmp 16) rfl (W.heap.size + 1) (s10 N c gv sn sv) rfl rfl 125 _ HZ1.out HI.out (by rw [hz7]; rfl) HE1.out ?_))
  exact bodyPost_ret (results_row_two (p := 4) (u := 5) (u2 := 6) (by kernel_rfl) _ _ (W.heap.size + 1) 125 _ (0, 0) _ _ _ rfl rfl rfl (setRow_heap _ _ _ _ _ _ HZ1.out) Try.underlying125 rfl HI.out) rfl ⟨rfl, bsetRow HB1.out (by omega) _⟩
set_option maxHeartbeats 2000000 in
set_option maxRecDepth 100000 in
theorem rclaim10_full {W : World} {gv : Value} {gs : List Int} (h : LngAt W gv gs) (hbig : gs.length ≤ 1000000) (N c sn n : Int) (sv : Value) (hN : 0 ≤ N ∧ N ≤ 1048576) (hc : -1 ≤ c ∧ c ≤ 2305843009213693952) (hn : 1 ≤ n ∧ n ≤ N) (hg1 : gv.oneCell' = true) (hs1 : sv.oneCell' = true) (he : ¬ enoughP N c sn n) (hl : -1 ≤ leastP c gs) (hf : leastP c gs < c + n - N) :
    Calls Try.prog 75 #[.agg (s10 N c gv sn sv), .int .i64 n] W fun e w' => e = .returned (.tuple #[.agg (s10 N c gv sn sv), .int .i64 0, .int .i64 10]) ∧ Below W.heap.size W w' := by
  have HG := Lib.hid h
  clear h
  have HI := Lib.hid (s10_info N c gv sn sv)
  have HE1 := Lib.hid (s10_one (N := N) (c := c) (sn := sn) hg1 hs1)
  go_enter Try.func75, Try.ntmps75
  go_upto_region 1 with fail
  generalize hX : World.alloc (W.alloc (.cells _ 125)) (.cells _ 125) = X at *
  have HA0 : Hid (B10 X W.heap.size (s10 N c gv sn sv)) := hX ▸ Lib.hid (obj_old _ (obj_new W _))
  have HZ0 : Hid (∃ z : Array Value, z.size = 7 ∧ X.heap[W.heap.size + 1]? = some (.cells z 125 (0, 0))) := hX ▸ Lib.hid ⟨_, rfl, by have := obj_new (W.alloc (.cells (s10 N c gv sn sv) 125)) (.cells #[.int .i64 0, .int .i64 0, .int .i64 0, .slice none 0 0, .int .i64 0, .int .i64 0, .slice none 0 0] 125); simpa using this⟩
  have HB0 : Hid (Below W.heap.size W X) := hX ▸ Lib.hid (balloc (balloc (Below.refl _ _) _) _)
  obtain ⟨z, hz7, hz⟩ := HZ0.out
  have HZ := Lib.hid hz
  have HWR : Hid (wrongP N c n = 0) := Lib.hid (by unfold wrongP; rw [if_neg (by omega), if_neg (by omega)])
  have HEB : Hid (false = true ↔ enoughP N c sn n) := Lib.hid ⟨fun h => Bool.noConfusion h, fun h => absurd h he⟩
  have HLE : Hid (∀ w, Below W.heap.size W w → Calls Try.prog 141 #[.agg #[.int .i64 N, .int .i64 c, .int .i64 c, gv, .int .i64 sn, .int .i64 0]] w fun e w' => e = .returned (.int .i64 (leastP c gs)) ∧ Below w.heap.size w w') := Lib.hid fun w hb => rleast9 (HG.out.keep hb) hbig N c c sn 0
  have hle := (leastP_le c gs).1
  generalize leastP c gs = m at *
  have dm : decide (m < c + n - N) = true := decide_eq_true hf
  clear hX HZ0 hz he hf
  obtain ⟨k0, k1, k2, k3, k4, k5⟩ := HA0.out.k
  go_wp2_with (first
    | (go_at_call 142; refine (rwrong9 _ gv N c c sn 0 n hN ⟨by omega, by omega⟩).mono ?_; rintro e w1 ⟨rfl, hb⟩; rw [HWR.out]; have HA1 := Lib.hid (HA0.out.keep hb); have HZ1 := Lib.hid ((hb.block _ (lt_of_block HZ.out)).trans HZ.out); have HB1 := Lib.hid (bthen HB0.out hb); clear k0 k1 k2 k3 k4 k5 hb; obtain ⟨k0, k1, k2, k3, k4, k5⟩ := HA1.out.k)
    | (go_at_call 143; refine (renough9 _ gv N c c sn 0 n hN ⟨by omega, by omega⟩ hn false HEB.out).mono ?_; rintro e w2 ⟨rfl, hb⟩; have HA2 := Lib.hid (HA1.out.keep hb); have HZ2 := Lib.hid ((hb.block _ (lt_of_block HZ1.out)).trans HZ1.out); have HB2 := Lib.hid (bthen HB1.out hb); clear k0 k1 k2 k3 k4 k5 hb; obtain ⟨k0, k1, k2, k3, k4, k5⟩ := HA2.out.k)
    | (go_at_call 141; refine (HLE.out _ HB2.out).mono ?_; rintro e w3 ⟨rfl, hb⟩; have HA3 := Lib.hid (HA2.out.keep hb); have HZ3 := Lib.hid ((hb.block _ (lt_of_block HZ2.out)).trans HZ2.out); have HB3 := Lib.hid (bthen HB2.out hb); clear k0 k1 k2 k3 k4 k5 hb; obtain ⟨k0, k1, k2, k3, k4, k5⟩ := HA3.out.k)
    | (refine wpList_load_row rfl 125 (.tmp 2) rfl W.heap.size rfl 125 (s10 N c gv sn sv) (0, 0) _ HA3.out Try.underlying125 rfl HI.out ?_)
    | (refine wpList_store_row rfl 125 (.tmp 4) (.tmp 38) rfl (W.heap.size + 1) (s10 N c gv sn sv) rfl rfl 125 _ HZ3.out HI.out (by rw [hz7]; rfl) HE1.out ?_))
  exact bodyPost_ret (results_row_two (p := 4) (u := 5) (u2 := 6) (by kernel_rfl) _ _ (W.heap.size + 1) 125 _ (0, 0) _ _ _ rfl rfl rfl (setRow_heap _ _ _ _ _ _ HZ3.out) Try.underlying125 rfl HI.out) rfl ⟨rfl, bsetRow HB3.out (by omega) _⟩
set_option maxHeartbeats 2000000 in
set_option maxRecDepth 100000 in
theorem rclaim10_fits {W : World} {gv : Value} {gs : List Int} (h : LngAt W gv gs) (hbig : gs.length ≤ 1000000) (N c sn n : Int) (sv : Value) (hN : 0 ≤ N ∧ N ≤ 1048576) (hc : -1 ≤ c ∧ c ≤ 2305843009213693952) (hn : 1 ≤ n ∧ n ≤ N) (hg1 : gv.oneCell' = true) (hs1 : sv.oneCell' = true) (he : ¬ enoughP N c sn n) (hl : -1 ≤ leastP c gs) (hf : c + n - N ≤ leastP c gs) :
    Calls Try.prog 75 #[.agg (s10 N c gv sn sv), .int .i64 n] W fun e w' => e = .returned (.tuple #[.agg (s10 N (c + n) gv (leastP c gs) sv), .int .i64 (c + n), .int .i64 0]) ∧ Below W.heap.size W w' := by
  have HG := Lib.hid h
  clear h
  have HI := Lib.hid (s10_info N c gv sn sv)
  have HI2 := Lib.hid (s10_info N (c + n) gv (leastP c gs) sv)
  have HE1 := Lib.hid (s10_one (N := N) (c := c + n) (sn := leastP c gs) hg1 hs1)
  have HLE : Hid (∀ w, Below W.heap.size W w → Calls Try.prog 141 #[.agg #[.int .i64 N, .int .i64 c, .int .i64 c, gv, .int .i64 sn, .int .i64 0]] w fun e w' => e = .returned (.int .i64 (leastP c gs)) ∧ Below w.heap.size w w') := Lib.hid fun w hb => rleast9 (HG.out.keep hb) hbig N c c sn 0
  have hle := (leastP_le c gs).1
  generalize leastP c gs = m at *
  have dm : decide (m < c + n - N) = false := decide_eq_false (by omega)
  clear hf
  go_enter Try.func75, Try.ntmps75
  go_upto_region 1 with fail
  generalize hX : World.alloc (W.alloc (.cells _ 125)) (.cells _ 125) = X at *
  have HA0 : Hid (B10 X W.heap.size (s10 N c gv sn sv)) := hX ▸ Lib.hid (obj_old _ (obj_new W _))
  have HZ0 : Hid (∃ z : Array Value, z.size = 7 ∧ X.heap[W.heap.size + 1]? = some (.cells z 125 (0, 0))) := hX ▸ Lib.hid ⟨_, rfl, by have := obj_new (W.alloc (.cells (s10 N c gv sn sv) 125)) (.cells #[.int .i64 0, .int .i64 0, .int .i64 0, .slice none 0 0, .int .i64 0, .int .i64 0, .slice none 0 0] 125); simpa using this⟩
  have HB0 : Hid (Below W.heap.size W X) := hX ▸ Lib.hid (balloc (balloc (Below.refl _ _) _) _)
  obtain ⟨z, hz7, hz⟩ := HZ0.out
  have HZ := Lib.hid hz
  have HST : Hid (∀ w, B10 w W.heap.size (s10 N c gv sn sv) → w.heap[W.heap.size + 1]? = some (.cells z 125 (0, 0)) → B10 (((w.setCell ⟨W.heap.size, 4, none⟩ (.int .i64 m)).setCell ⟨W.heap.size, 1, none⟩ (.int .i64 (c + n))).setCell ⟨W.heap.size, 2, none⟩ (.int .i64 (c + n))) W.heap.size (s10 N (c + n) gv m sv) ∧ (((w.setCell ⟨W.heap.size, 4, none⟩ (.int .i64 m)).setCell ⟨W.heap.size, 1, none⟩ (.int .i64 (c + n))).setCell ⟨W.heap.size, 2, none⟩ (.int .i64 (c + n))).heap[W.heap.size + 1]? = some (.cells z 125 (0, 0))) := Lib.hid (by
    intro w h1 h2
    refine ⟨?_, ?_⟩
    · have := obj_setCell (i := 2) (.int .i64 (c + n)) (obj_setCell (i := 1) (.int .i64 (c + n)) (obj_setCell (i := 4) (.int .i64 m) h1))
      simpa [s10, B10] using this
    · exact (heap_setCell_other _ ⟨W.heap.size, 2, none⟩ _ _ (by simp)).trans ((heap_setCell_other _ ⟨W.heap.size, 1, none⟩ _ _ (by simp)).trans ((heap_setCell_other _ ⟨W.heap.size, 4, none⟩ _ _ (by simp)).trans h2)))
  have HWR : Hid (wrongP N c n = 0) := Lib.hid (by unfold wrongP; rw [if_neg (by omega), if_neg (by omega)])
  have HEB : Hid (false = true ↔ enoughP N c sn n) := Lib.hid ⟨fun h => Bool.noConfusion h, fun h => absurd h he⟩
  clear hX HZ0 hz he
  obtain ⟨k0, k1, k2, k3, k4, k5⟩ := HA0.out.k
  go_wp2_with (first
    | (go_at_call 142; refine (rwrong9 _ gv N c c sn 0 n hN ⟨by omega, by omega⟩).mono ?_; rintro e w1 ⟨rfl, hb⟩; rw [HWR.out]; have HA1 := Lib.hid (HA0.out.keep hb); have HZ1 := Lib.hid ((hb.block _ (lt_of_block HZ.out)).trans HZ.out); have HB1 := Lib.hid (bthen HB0.out hb); clear k0 k1 k2 k3 k4 k5 hb; obtain ⟨k0, k1, k2, k3, k4, k5⟩ := HA1.out.k)
    | (go_at_call 143; refine (renough9 _ gv N c c sn 0 n hN ⟨by omega, by omega⟩ hn false HEB.out).mono ?_; rintro e w2 ⟨rfl, hb⟩; have HA2 := Lib.hid (HA1.out.keep hb); have HZ2 := Lib.hid ((hb.block _ (lt_of_block HZ1.out)).trans HZ1.out); have HB2 := Lib.hid (bthen HB1.out hb); clear k0 k1 k2 k3 k4 k5 hb; obtain ⟨k0, k1, k2, k3, k4, k5⟩ := HA2.out.k)
    | (go_at_call 141; refine (HLE.out _ HB2.out).mono ?_; rintro e w3 ⟨rfl, hb⟩; have HA3 := Lib.hid (HA2.out.keep hb); have HZ3 := Lib.hid ((hb.block _ (lt_of_block HZ2.out)).trans HZ2.out); have HB3 := Lib.hid (bthen HB2.out hb); clear k0 k1 k2 k3 k4 k5 hb; obtain ⟨k0, k1, k2, k3, k4, k5⟩ := HA3.out.k; have f1 := obj_free HA3.out 1; have f2 := obj_free HA3.out 2; have f4 := obj_free HA3.out 4)
    | (refine wpList_load_row rfl 125 (.tmp 2) rfl W.heap.size rfl 125 (s10 N (c + n) gv m sv) (0, 0) _ (HST.out _ HA3.out HZ3.out).1 Try.underlying125 rfl HI2.out ?_)
    | (refine wpList_store_row rfl 125 (.tmp 4) (.tmp 48) rfl (W.heap.size + 1) (s10 N (c + n) gv m sv) rfl rfl 125 _ (HST.out _ HA3.out HZ3.out).2 HI2.out (by rw [hz7]; rfl) HE1.out ?_))
  exact bodyPost_ret (results_row_two (p := 4) (u := 5) (u2 := 6) (by kernel_rfl) _ _ (W.heap.size + 1) 125 _ (0, 0) _ _ _ rfl rfl rfl (setRow_heap _ _ _ _ _ _ (HST.out _ HA3.out HZ3.out).2) Try.underlying125 rfl HI2.out) rfl ⟨rfl, bsetRow (bset (bset (bset HB3.out 4 _ _ (Nat.le_refl _)) 1 _ _ (Nat.le_refl _)) 2 _ _ (Nat.le_refl _)) (by omega) _⟩
end Go.Proofs.Ytjadapjjilegnaa
