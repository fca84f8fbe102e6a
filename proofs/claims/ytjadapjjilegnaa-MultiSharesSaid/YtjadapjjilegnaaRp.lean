/-
  The document's Publish of layer 10 by contract. Condition: at most a million that are published already.
-/
import Derived.Test.YtjadapjjilegnaaR10
import Derived.Test.YtjadapjjilegnaaAP0
namespace Go.Proofs.Ytjadapjjilegnaa
open Go.RowKit
set_option linter.unusedVariables false

section
variable {P : Program} {w : World}
theorem run_append_none (t ty e : TypeId) (i : TypeInfo) (ht : P.underlying t = some (.slice e)) (hi : P.info? e = some i)
    (v : Value) (n : Nat) (xs : List Value) {base size : Nat} (hown : w.ownsRow base e size v n xs) (p : Option Addr) (c : Nat) :
    (Builtin.append_ #[t, t] ty #[v, .slice p 0 c]).run P w = .ok v w := by
  rcases hown.2 with ⟨rfl, rfl⟩ | ⟨g, cap, cur, rfl, _, _, hnc, _⟩
  · cases p <;> simp [Builtin.append_, run_underlying ht, sizeOf, typeInfo, hi, Builtin.lenOf, Builtin.firstCells, loadCells, loadCellsFrom]
  · cases p <;> simp [Builtin.append_, run_underlying ht, sizeOf, typeInfo, hi, Builtin.lenOf, Builtin.firstCells, hnc, storeCells, loadCells, loadCellsFrom]

theorem run_append_lngs (t ty e : TypeId) (i : TypeInfo) (z : Value) (bytes : Nat) (ht : P.underlying t = some (.slice e)) (hi : P.info? e = some i) (hz : i.zero = some z)
    (hsize : i.size = 1) (hby : i.bytes = bytes) (hzs : z.cells.size = 1)
    (v : Value) (n : Nat) (xs : List Value) (hown : w.ownsRow 0 e 1 v n xs) (sv : Value) (l : List Int) (hs : LngAt w sv l) (h63 : n + l.length ≤ maxLen) (hbytes : (n + l.length) * bytes ≤ 140737488355328) :
    ∃ v' w', (Builtin.append_ #[t, t] ty #[v, sv]).run P w = .ok v' w' ∧ w'.ownsRow 0 e 1 v' (n + l.length) (xs ++ l.map (Value.int .i64)) ∧ Frm (fun k => v.ownBlock = some k) w w' ∧
      (v'.ownBlock = v.ownBlock ∨ ∀ g, v'.ownBlock = some g → w.heap.size ≤ g) := by
  obtain ⟨p, c, rfl, h⟩ := hs
  rcases Nat.eq_zero_or_pos l.length with h0 | h0
  · obtain rfl : l = [] := List.eq_nil_of_length_eq_zero h0
    exact ⟨v, w, run_append_none t ty e i ht hi v n xs hown p c, by simpa using hown, Frm.refl _ _, .inl rfl⟩
  · rcases h with h | ⟨b, off, rfl, hc⟩
    · omega
    · refine run_append_row t ty e i z 1 bytes ht hi hz hsize hby hzs (by decide) v n xs hown ⟨b, off, none⟩ l.length c (l.map (Value.int .i64)) (by simp) ?_ ?_ h63 hbytes
      · intro j u hu
        have hj : j < l.length := by
          rcases Nat.lt_or_ge j l.length with k | k
          · exact k
          · simp [List.getElem?_eq_none k] at hu
        have e1 : (⟨b, off, none⟩ : Addr).add j = ⟨b, off + j, none⟩ := by unfold Addr.add; split <;> simp_all
        rw [e1, hc j hj]
        simp [List.getElem?_eq_getElem hj] at hu ⊢
        exact hu
      · intro u hu
        simp at hu
        obtain ⟨x, _, rfl⟩ := hu
        rfl

theorem wpList_append_lngs {ops : Array Oper} {rest : List Oper} {o : Oper} {a : Act} {Q : Exit → Act → World → Prop} (hgd : o.guard = none) (s x : Operand) (t : TypeId)
    (ho : o.op = .call { callee := .builtin .append, args := #[s, x], argTypes := #[t, t] })
    (e : TypeId) (i : TypeInfo) (z : Value) (bytes : Nat) (ht : P.underlying t = some (.slice e)) (hi : P.info? e = some i) (hz : i.zero = some z)
    (hsize : i.size = 1) (hby : i.bytes = bytes) (hzs : z.cells.size = 1)
    (v : Value) (n : Nat) (xs : List Value) (hs : a.eval s = v) (hown : w.ownsRow 0 e 1 v n xs)
    (sv : Value) (l : List Int) (hx : a.eval x = sv) (hl : LngAt w sv l)
    (h63 : n + l.length ≤ maxLen) (hbytes : (n + l.length) * bytes ≤ 140737488355328)
    (h : ∀ v' w', w'.ownsRow 0 e 1 v' (n + l.length) (xs ++ l.map (Value.int .i64)) → Frm (fun k => v.ownBlock = some k) w w' → (v'.ownBlock = v.ownBlock ∨ ∀ g, v'.ownBlock = some g → w.heap.size ≤ g) → wpList P ops Q rest (a.put o.dst v') w') : wpList P ops Q (o :: rest) a w := by
  refine wpList_plain hgd fun _ hK => ?_
  obtain ⟨v', w', hr, h2, h3, h4⟩ := run_append_lngs (P := P) t o.type e i z bytes ht hi hz hsize hby hzs v n xs hown sv l hl h63 hbytes
  unfold Oper.wp execOp
  simp only [ho, resolve, invoke, builtin, Sem.run_bind, Sem.run_pure, Result.andThen_ok, List.map_toArray, List.map_cons, List.map_nil, hs, hx, hr]
  exact hK _ _ (h v' w' h2 h3 h4)
end

theorem nil_below {W w' : World} (hf : Frm (fun k => (Value.slice none 0 0).ownBlock = some k) W w') : Below W.heap.size W w' := hf.below (Nat.le_refl _) fun k hk => by simp [Value.ownBlock] at hk
theorem nil_low {W : World} {v : Value} (hv : v.ownBlock = (Value.slice none 0 0).ownBlock ∨ ∀ g, v.ownBlock = some g → W.heap.size ≤ g) : ∀ g, v.ownBlock = some g → W.heap.size ≤ g := by
  intro g hg
  rcases hv with hv | hv
  · rw [hv] at hg; simp [Value.ownBlock] at hg
  · exact hv g hg

theorem pub_app {X w w' : World} {T : TypeId} {v v' : Value} {n n' : Nat} {xs ys : List Value} {o : Obj} (h : Below X.heap.size X w ∧ w.ownsRow X.heap.size T 1 v n xs) (hown : w'.ownsRow 0 T 1 v' n' ys) (hf : Frm (fun k => v.ownBlock = some k) (w.alloc o) w') (hv : v'.ownBlock = v.ownBlock ∨ ∀ g, v'.ownBlock = some g → (w.alloc o).heap.size ≤ g) :
    Below X.heap.size X w' ∧ w'.ownsRow X.heap.size T 1 v' n' ys := by
  obtain ⟨h1, h2⟩ := h
  have hlow : ∀ g, v.ownBlock = some g → X.heap.size ≤ g := fun g hg => (h2.lt g hg).1
  refine ⟨(balloc h1 o).trans (hf.below (balloc h1 o).size fun k hk => hlow k hk), row_up hown fun g hg => ?_⟩
  rcases hv with hv | hv
  · exact hlow g (hv ▸ hg)
  · have := hv g hg
    have := h1.size
    simp at *
    omega
theorem pub_start {X w : World} {T : TypeId} {v : Value} {n : Nat} {ys : List Value} (hown : w.ownsRow 0 T 1 v n ys) (hf : Frm (fun k => (Value.slice none 0 0).ownBlock = some k) X w) (hv : v.ownBlock = (Value.slice none 0 0).ownBlock ∨ ∀ g, v.ownBlock = some g → X.heap.size ≤ g) :
    Below X.heap.size X w ∧ w.ownsRow X.heap.size T 1 v n ys := ⟨nil_below hf, row_up hown (nil_low hv)⟩
theorem built10b (N c sn : Int) (pg : Option Addr) (ng cg : Nat) (ps : Option Addr) (ns cs : Nat) : Try.prog.built 125 [(0, .agg #[.int .i64 N, .int .i64 c, .int .i64 c, .slice pg ng cg, .int .i64 sn, .int .i64 0]), (1, .slice ps ns cs)] = some (s10 N c (.slice pg ng cg) sn (.slice ps ns cs)) := by kernel_rfl
/-- What is wrong with a span that is to be published. -/
def badP (N c lo hi : Int) : Prop := lo < 0 ∨ hi < lo ∨ c < hi ∨ N ≤ hi - lo
set_option maxHeartbeats 2000000 in
set_option maxRecDepth 100000 in
theorem rpub10_ok {W : World} {sv : Value} {ss : List Int} (h : LngAt W sv ss) (hbig : ss.length ≤ 1000000) (N c sn lo hi : Int) (pg : Option Addr) (ng cg : Nat) (hN : 1 ≤ N ∧ N ≤ 1048576) (hc : -1 ≤ c ∧ c ≤ 4611686018427387904) (hlo : 0 ≤ lo) (hlh : lo ≤ hi) (hhc : hi ≤ c) (hd : hi - lo < N) (m : Nat) (hm : hi - lo + 1 = m) :
    Calls Try.prog 77 #[.agg (s10 N c (.slice pg ng cg) sn sv), .int .i64 lo, .int .i64 hi] W fun e w' => ∃ v', e = .returned (.tuple #[.agg (s10 N c (.slice pg ng cg) sn v'), .int .i64 0]) ∧ Below W.heap.size W w' ∧ w'.ownsRow W.heap.size 2 1 v' (ss.length + m) ((ss ++ spanS lo m).map (Value.int .i64)) := by
  have HG := Lib.hid h
  clear h
  have d1 : decide (lo < 0) = false := decide_eq_false (by omega)
  have d2 : decide (hi < lo) = false := decide_eq_false (by omega)
  have d3 : decide (c < hi) = false := decide_eq_false (by omega)
  have d4 : decide (N ≤ hi - lo) = false := decide_eq_false (by omega)
  obtain ⟨i0, ji, jz0, jz1, jz2⟩ := info_parts infoI64
  go_enter Try.func77, Try.ntmps77
  go_upto_region 1 with fail
  generalize hX : World.alloc (W.alloc (.cells _ 125)) (.cells _ 125) = X at *
  have HA0 : Hid (B10 X W.heap.size (s10 N c (.slice pg ng cg) sn sv)) := hX ▸ Lib.hid (obj_old _ (obj_new W _))
  have HZ0 : Hid (∃ z : Array Value, z.size = 7 ∧ X.heap[W.heap.size + 1]? = some (.cells z 125 (0, 0))) := hX ▸ Lib.hid ⟨_, rfl, by have := obj_new (W.alloc (.cells (s10 N c (.slice pg ng cg) sn sv) 125)) (.cells #[.int .i64 0, .int .i64 0, .int .i64 0, .slice none 0 0, .int .i64 0, .int .i64 0, .slice none 0 0] 125); simpa using this⟩
  have HB0 : Hid (Below W.heap.size W X) := hX ▸ Lib.hid (balloc (balloc (Below.refl _ _) _) _)
  obtain ⟨z, hz7, hz⟩ := HZ0.out
  have HZ := Lib.hid hz
  clear hX HZ0 hz
  obtain ⟨k0, k1, k2, k3, k4, k5⟩ := HA0.out.k
  have k6 : X.cell? ⟨W.heap.size, 6, none⟩ = some sv := (obj_cell HA0.out 6).trans rfl
  have hX0 : X.heap.size = W.heap.size + 2 ∨ W.heap.size + 2 ≤ X.heap.size := Or.inr (by have := lt_of_block HZ.out; omega)
  go_wp2_with (at_builtin; refine wpList_append_lngs rfl _ _ 46 rfl 2 i0 (.int .i64 0) 8 Try.underlying46 ji jz0 jz1 jz2 rfl (.slice none 0 0) 0 [] rfl (World.ownsRow_nil _ _ _ _) sv ss rfl (HG.out.keep HB0.out) (by unfold maxLen; omega) (by omega) ?_; intro v1 w1 hown hf hv; have HP0 := Lib.hid (pub_start hown hf hv); clear hown hf hv)
  have HP1 : Hid (Below X.heap.size X w1 ∧ w1.ownsRow X.heap.size 2 1 v1 (ss.length + 0) ((ss ++ spanS lo 0).map (Value.int .i64))) := Lib.hid (by
    have := HP0.out
    simpa [spanS] using this)
  clear HP0 k0 k1 k2 k3 k4 k5 k6
  go_loopw [8, 9] (fun lv i wl => ∃ j : Nat, j ≤ m ∧ i = .int .i64 (lo + j) ∧ Hid (Below X.heap.size X wl ∧ wl.ownsRow X.heap.size 2 1 lv (ss.length + j) ((ss ++ spanS lo j).map (Value.int .i64)))) (fun _ i _ => (lo + m - intOf i).toNat)
  case atStart => exact ⟨0, Nat.zero_le _, by simp, HP1⟩
  case round =>
    clear HP1
    obtain ⟨j, hj, rfl, HP⟩ := hrel
    obtain ⟨p8, c8, rfl, _⟩ := row_form HP.out.2
    by_cases hlt : j < m
    · have dj : decide (lo + (j : Int) ≤ hi) = true := decide_eq_true (by omega)
      have HSP : Hid ((ss ++ spanS lo (j + 1)).map (Value.int .i64) = (ss ++ spanS lo j).map (Value.int .i64) ++ [Value.int .i64 (lo + j)]) := Lib.hid (by rw [spanS_succ]; simp)
      go_wp2_with (at_builtin; refine wpList_append_row rfl _ _ 46 rfl 2 i0 (.int .i64 0) 1 8 Try.underlying46 ji jz0 jz1 jz2 rfl (by decide) (.slice p8 (ss.length + j) c8) (ss.length + j) _ rfl (row_base (HP.out.2.alloc _) (Nat.zero_le _)) ⟨wr.heap.size, 0, none⟩ 1 1 [.int .i64 (lo + j)] rfl rfl (one_cell _ _ _) (fun x hx => by simp at hx; subst hx; rfl) (by unfold maxLen; omega) (by omega) ?_; intro v' w5 hown hf hv; have HP5 := Lib.hid (pub_app HP.out hown hf hv); rw [← HSP.out] at HP5; clear hown hf hv)
      exact ⟨⟨j + 1, by omega, by go_num, HP5⟩, by simp [intOf]; omega⟩
    · obtain rfl : j = m := by omega
      have dj : decide (lo + (j : Int) ≤ hi) = false := decide_eq_false (by omega)
      have HA1 := Lib.hid (HA0.out.keep HP.out.1)
      have HZ1 := Lib.hid ((HP.out.1.block _ (lt_of_block HZ.out)).trans HZ.out)
      obtain ⟨k0, k1, k2, k3, k4, k5⟩ := HA1.out.k
      have HBU := Lib.hid (built10b N c sn pg ng cg p8 (ss.length + j) c8)
      have HI := Lib.hid (s10_info N c (.slice pg ng cg) sn (.slice p8 (ss.length + j) c8))
      have HE1 := Lib.hid (s10_one (N := N) (c := c) (sn := sn) (gv := .slice pg ng cg) (sv := .slice p8 (ss.length + j) c8) rfl rfl)
      have HS7 : Hid ((s10 N c (.slice pg ng cg) sn (.slice p8 (ss.length + j) c8)).size = 7) := rfl
      generalize hcs : s10 N c (.slice pg ng cg) sn (.slice p8 (ss.length + j) c8) = cs at *
      have HCS := Lib.hid hcs
      clear hcs
      go_wp2_with (first
        | (refine wpList_build2 rfl 125 0 1 (.tmp 49) (.tmp 50) rfl _ _ rfl rfl cs ?_ ?_; exact HBU.out)
        | (refine wpList_store_row rfl 125 (.tmp 6) (.tmp 51) rfl (W.heap.size + 1) cs rfl rfl 125 _ HZ1.out HI.out (by rw [HS7.out, hz7]) HE1.out ?_))
      refine bodyPost_ret (results_row_fault (p := 6) (u := 7) (by kernel_rfl) _ _ (W.heap.size + 1) 125 cs (0, 0) _ _ rfl rfl (setRow_heap _ _ _ _ _ _ HZ1.out) Try.underlying125 rfl HI.out) rfl ⟨.slice p8 (ss.length + j) c8, ?_, bsetRow (bthen HB0.out HP.out.1) (by omega) _, ?_⟩
      · rw [← HCS.out]
        rfl
      · have hr := HP.out.2
        have := ((Frm.refl (fun k => k = W.heap.size + 1) wr).setRow (cs := cs) rfl).row hr fun g hg e => by
          have := (hr.lt g hg).1
          omega
        exact row_up this fun g hg => by
          have := (hr.lt g hg).1
          omega
set_option maxHeartbeats 2000000 in
set_option maxRecDepth 100000 in
theorem rpub10_bad {W : World} (sv : Value) (N c sn lo hi : Int) (pg : Option Addr) (ng cg : Nat) (hN : 1 ≤ N ∧ N ≤ 1048576) (hc : -1 ≤ c ∧ c ≤ 4611686018427387904) (hs1 : sv.oneCell' = true) (hb : badP N c lo hi) :
    Calls Try.prog 77 #[.agg (s10 N c (.slice pg ng cg) sn sv), .int .i64 lo, .int .i64 hi] W fun e w' => e = .returned (.tuple #[.agg (s10 N c (.slice pg ng cg) sn sv), .int .i64 1]) ∧ Below W.heap.size W w' := by
  have HI := Lib.hid (s10_info N c (.slice pg ng cg) sn sv)
  have HE1 := Lib.hid (s10_one (N := N) (c := c) (sn := sn) (gv := .slice pg ng cg) rfl hs1)
  by_cases h1 : lo < 0
  · have d1 : decide (lo < 0) = true := decide_eq_true h1
    clear hb
    go_enter Try.func77, Try.ntmps77
    go_upto_region 1 with fail
    generalize hX : World.alloc (W.alloc (.cells _ 125)) (.cells _ 125) = X at *
    have HA0 : Hid (B10 X W.heap.size (s10 N c (.slice pg ng cg) sn sv)) := hX ▸ Lib.hid (obj_old _ (obj_new W _))
    have HZ0 : Hid (∃ z : Array Value, z.size = 7 ∧ X.heap[W.heap.size + 1]? = some (.cells z 125 (0, 0))) := hX ▸ Lib.hid ⟨_, rfl, by have := obj_new (W.alloc (.cells (s10 N c (.slice pg ng cg) sn sv) 125)) (.cells #[.int .i64 0, .int .i64 0, .int .i64 0, .slice none 0 0, .int .i64 0, .int .i64 0, .slice none 0 0] 125); simpa using this⟩
    have HB0 : Hid (Below W.heap.size W X) := hX ▸ Lib.hid (balloc (balloc (Below.refl _ _) _) _)
    obtain ⟨z, hz7, hz⟩ := HZ0.out
    have HZ := Lib.hid hz
    clear hX HZ0 hz
    obtain ⟨k0, k1, k2, k3, k4, k5⟩ := HA0.out.k
    have k6 : X.cell? ⟨W.heap.size, 6, none⟩ = some sv := (obj_cell HA0.out 6).trans rfl
    go_wp2_with (first
      | (refine wpList_load_row rfl 125 (.tmp 3) rfl W.heap.size rfl 125 (s10 N c (.slice pg ng cg) sn sv) (0, 0) _ HA0.out Try.underlying125 rfl HI.out ?_)
      | (refine wpList_store_row rfl 125 (.tmp 6) (.tmp 33) rfl (W.heap.size + 1) (s10 N c (.slice pg ng cg) sn sv) rfl rfl 125 _ HZ.out HI.out (by rw [hz7]; rfl) HE1.out ?_))
    exact bodyPost_ret (results_row_fault (p := 6) (u := 7) (by kernel_rfl) _ _ (W.heap.size + 1) 125 _ (0, 0) _ _ rfl rfl (setRow_heap _ _ _ _ _ _ HZ.out) Try.underlying125 rfl HI.out) rfl ⟨rfl, bsetRow HB0.out (by omega) _⟩
  · have d1 : decide (lo < 0) = false := decide_eq_false h1
    by_cases h2 : hi < lo
    · have d2 : decide (hi < lo) = true := decide_eq_true h2
      clear hb
      go_enter Try.func77, Try.ntmps77
      go_upto_region 1 with fail
      generalize hX : World.alloc (W.alloc (.cells _ 125)) (.cells _ 125) = X at *
      have HA0 : Hid (B10 X W.heap.size (s10 N c (.slice pg ng cg) sn sv)) := hX ▸ Lib.hid (obj_old _ (obj_new W _))
      have HZ0 : Hid (∃ z : Array Value, z.size = 7 ∧ X.heap[W.heap.size + 1]? = some (.cells z 125 (0, 0))) := hX ▸ Lib.hid ⟨_, rfl, by have := obj_new (W.alloc (.cells (s10 N c (.slice pg ng cg) sn sv) 125)) (.cells #[.int .i64 0, .int .i64 0, .int .i64 0, .slice none 0 0, .int .i64 0, .int .i64 0, .slice none 0 0] 125); simpa using this⟩
      have HB0 : Hid (Below W.heap.size W X) := hX ▸ Lib.hid (balloc (balloc (Below.refl _ _) _) _)
      obtain ⟨z, hz7, hz⟩ := HZ0.out
      have HZ := Lib.hid hz
      clear hX HZ0 hz
      obtain ⟨k0, k1, k2, k3, k4, k5⟩ := HA0.out.k
      have k6 : X.cell? ⟨W.heap.size, 6, none⟩ = some sv := (obj_cell HA0.out 6).trans rfl
      go_wp2_with (first
        | (refine wpList_load_row rfl 125 (.tmp 3) rfl W.heap.size rfl 125 (s10 N c (.slice pg ng cg) sn sv) (0, 0) _ HA0.out Try.underlying125 rfl HI.out ?_)
        | (refine wpList_store_row rfl 125 (.tmp 6) (.tmp 33) rfl (W.heap.size + 1) (s10 N c (.slice pg ng cg) sn sv) rfl rfl 125 _ HZ.out HI.out (by rw [hz7]; rfl) HE1.out ?_))
      exact bodyPost_ret (results_row_fault (p := 6) (u := 7) (by kernel_rfl) _ _ (W.heap.size + 1) 125 _ (0, 0) _ _ rfl rfl (setRow_heap _ _ _ _ _ _ HZ.out) Try.underlying125 rfl HI.out) rfl ⟨rfl, bsetRow HB0.out (by omega) _⟩
    · have d2 : decide (hi < lo) = false := decide_eq_false h2
      by_cases h3 : c < hi
      · have d3 : decide (c < hi) = true := decide_eq_true h3
        clear hb
        go_enter Try.func77, Try.ntmps77
        go_upto_region 1 with fail
        generalize hX : World.alloc (W.alloc (.cells _ 125)) (.cells _ 125) = X at *
        have HA0 : Hid (B10 X W.heap.size (s10 N c (.slice pg ng cg) sn sv)) := hX ▸ Lib.hid (obj_old _ (obj_new W _))
        have HZ0 : Hid (∃ z : Array Value, z.size = 7 ∧ X.heap[W.heap.size + 1]? = some (.cells z 125 (0, 0))) := hX ▸ Lib.hid ⟨_, rfl, by have := obj_new (W.alloc (.cells (s10 N c (.slice pg ng cg) sn sv) 125)) (.cells #[.int .i64 0, .int .i64 0, .int .i64 0, .slice none 0 0, .int .i64 0, .int .i64 0, .slice none 0 0] 125); simpa using this⟩
        have HB0 : Hid (Below W.heap.size W X) := hX ▸ Lib.hid (balloc (balloc (Below.refl _ _) _) _)
        obtain ⟨z, hz7, hz⟩ := HZ0.out
        have HZ := Lib.hid hz
        clear hX HZ0 hz
        obtain ⟨k0, k1, k2, k3, k4, k5⟩ := HA0.out.k
        have k6 : X.cell? ⟨W.heap.size, 6, none⟩ = some sv := (obj_cell HA0.out 6).trans rfl
        go_wp2_with (first
          | (refine wpList_load_row rfl 125 (.tmp 3) rfl W.heap.size rfl 125 (s10 N c (.slice pg ng cg) sn sv) (0, 0) _ HA0.out Try.underlying125 rfl HI.out ?_)
          | (refine wpList_store_row rfl 125 (.tmp 6) (.tmp 33) rfl (W.heap.size + 1) (s10 N c (.slice pg ng cg) sn sv) rfl rfl 125 _ HZ.out HI.out (by rw [hz7]; rfl) HE1.out ?_))
        exact bodyPost_ret (results_row_fault (p := 6) (u := 7) (by kernel_rfl) _ _ (W.heap.size + 1) 125 _ (0, 0) _ _ rfl rfl (setRow_heap _ _ _ _ _ _ HZ.out) Try.underlying125 rfl HI.out) rfl ⟨rfl, bsetRow HB0.out (by omega) _⟩
      · have d3 : decide (c < hi) = false := decide_eq_false h3
        have d4 : decide (N ≤ hi - lo) = true := decide_eq_true (by unfold badP at hb; omega)
        clear hb
        go_enter Try.func77, Try.ntmps77
        go_upto_region 1 with fail
        generalize hX : World.alloc (W.alloc (.cells _ 125)) (.cells _ 125) = X at *
        have HA0 : Hid (B10 X W.heap.size (s10 N c (.slice pg ng cg) sn sv)) := hX ▸ Lib.hid (obj_old _ (obj_new W _))
        have HZ0 : Hid (∃ z : Array Value, z.size = 7 ∧ X.heap[W.heap.size + 1]? = some (.cells z 125 (0, 0))) := hX ▸ Lib.hid ⟨_, rfl, by have := obj_new (W.alloc (.cells (s10 N c (.slice pg ng cg) sn sv) 125)) (.cells #[.int .i64 0, .int .i64 0, .int .i64 0, .slice none 0 0, .int .i64 0, .int .i64 0, .slice none 0 0] 125); simpa using this⟩
        have HB0 : Hid (Below W.heap.size W X) := hX ▸ Lib.hid (balloc (balloc (Below.refl _ _) _) _)
        obtain ⟨z, hz7, hz⟩ := HZ0.out
        have HZ := Lib.hid hz
        clear hX HZ0 hz
        obtain ⟨k0, k1, k2, k3, k4, k5⟩ := HA0.out.k
        have k6 : X.cell? ⟨W.heap.size, 6, none⟩ = some sv := (obj_cell HA0.out 6).trans rfl
        go_wp2_with (first
          | (refine wpList_load_row rfl 125 (.tmp 3) rfl W.heap.size rfl 125 (s10 N c (.slice pg ng cg) sn sv) (0, 0) _ HA0.out Try.underlying125 rfl HI.out ?_)
          | (refine wpList_store_row rfl 125 (.tmp 6) (.tmp 33) rfl (W.heap.size + 1) (s10 N c (.slice pg ng cg) sn sv) rfl rfl 125 _ HZ.out HI.out (by rw [hz7]; rfl) HE1.out ?_))
        exact bodyPost_ret (results_row_fault (p := 6) (u := 7) (by kernel_rfl) _ _ (W.heap.size + 1) 125 _ (0, 0) _ _ rfl rfl (setRow_heap _ _ _ _ _ _ HZ.out) Try.underlying125 rfl HI.out) rfl ⟨rfl, bsetRow HB0.out (by omega) _⟩
end Go.Proofs.Ytjadapjjilegnaa
