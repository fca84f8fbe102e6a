/-
  pow.Up and pow.Of, and the document's own answers for sizes: contracts, of any number of slots.
  New of package avail, by contract. Conditions: the arena was made by the call itself; it has room.
  Package gate's Scan by contract, of a group that lies anywhere in a block. Condition: at most 32 cells.
  A sequencer of package multi beside its arena and its buffer, and whatever else is known of blocks that aren't theirs. No condition but those that each theorem names.
-/
import Derived.Test.YtdfcfdcekdmcmaaGreatPk02
import Derived.Test.YtdfcfdcekdmcmaaGreatPk05
import Derived.Test.YtdfcfdcekdmcmaaGreatPk06
import Derived.Test.YtdfcfdcekdmcmaaGreatShelf
import Derived.Lib.ItoaNum
import Derived.Deep.MidRow
set_option linter.unusedVariables false
set_option linter.unusedSimpArgs false
namespace Go.Proofs.YtdfcfdcekdmcmaaGreat
open Go.RowKit
def Least (k : Nat) (n : Int) : Prop := n ≤ two k ∧ ∀ j, j < k → two j < n
theorem two_succ (k : Nat) : two (k + 1) = two k * 2 := by unfold two; rw [Int.pow_succ]
theorem two_mono {a b : Nat} (h : a ≤ b) : two a ≤ two b := by
  induction h with
  | refl => exact Int.le_refl _
  | step _ ih => rw [two_succ]; have := two_pos a; omega
theorem least_two (k : Nat) : Least k (two k) := by
  refine ⟨Int.le_refl _, fun j hj => ?_⟩
  have := two_mono (a := j + 1) (b := k) hj
  rw [two_succ] at this
  have := two_pos j
  omega
theorem least_exists (m : Nat) (n : Int) (h : n ≤ two m) : ∃ k, k ≤ m ∧ Least k n := by
  induction m with
  | zero => exact ⟨0, Nat.le_refl _, h, fun j hj => absurd hj (Nat.not_lt_zero _)⟩
  | succ m ih =>
    by_cases hm : n ≤ two m
    · obtain ⟨k, hk, hl⟩ := ih hm
      exact ⟨k, by omega, hl⟩
    · refine ⟨m + 1, Nat.le_refl _, h, fun j hj => ?_⟩
      have := two_mono (a := j) (b := m) (by omega)
      omega
theorem least_bits (k : Nat) (hk : k ≤ 20) (n : Int) (hn : 2 ≤ n) (h : Least k n) : Lib.bitLen (n - 1).toNat = k := by
  have h20 := two_le hk
  obtain ⟨h1, h2⟩ := h
  have hx : ∃ x : Nat, n = x + 1 ∧ 1 ≤ x := ⟨(n - 1).toNat, by omega, by omega⟩
  obtain ⟨x, rfl, hx1⟩ := hx
  have e : ((x : Int) + 1 - 1).toNat = x := by omega
  rw [e]
  obtain ⟨b1, b2, b3⟩ := Lib.bitLenAux_bounds 64 x (by omega) (by omega)
  have hL : Lib.bitLen x = Lib.bitLenAux 64 x := rfl
  rw [hL]
  have c1 : x < 2 ^ k := by
    have : (x : Int) + 1 ≤ ((2 ^ k : Nat) : Int) := by unfold two at h1; simpa using h1
    omega
  have hk0 : k ≠ 0 := by
    rintro rfl; simp at c1; omega
  have c2 : 2 ^ (k - 1) ≤ x := by
    have h := h2 (k - 1) (by omega)
    have : ((2 ^ (k - 1) : Nat) : Int) < (x : Int) + 1 := by unfold two at h; simpa using h
    omega
  have d1 : Lib.bitLenAux 64 x - 1 < k := (Nat.pow_lt_pow_iff_right (a := 2) (by decide)).1 (Nat.lt_of_le_of_lt b2 c1)
  have d2 : k - 1 < Lib.bitLenAux 64 x := (Nat.pow_lt_pow_iff_right (a := 2) (by decide)).1 (Nat.lt_of_le_of_lt c2 b3)
  omega
theorem up_yes (k : Nat) (hk : k ≤ 20) (n : Int) (hw : -9223372036854775808 ≤ n) (h : Least k n) (w : World) :
    Calls Tryz.prog 120 #[.int .i64 n] w fun e w' => e = .returned (.tuple #[.agg #[.int .u8 k], .nilIface]) ∧ w.alloc (.cells #[.int .u8 k] 100) = w' := by
  have h20 := two_le hk
  have hle := h.1
  have H := Lib.hid h
  by_cases hn : n < 2
  · have hk0 : k = 0 := by
      rcases Nat.eq_zero_or_pos k with h0 | h0
      · exact h0
      · have := h.2 0 h0; have e : two 0 = 1 := rfl; omega
    subst hk0
    clear h
    go_enter Tryz.func120, Tryz.ntmps120
    go_wp2
    go_returns
    exact ⟨rfl, rfl⟩
  · have hb : Lib.bitLen (n.toNat - 1) = k := by
      have := least_bits k hk n (by omega) h
      rw [show (n - 1).toNat = n.toNat - 1 by omega] at this
      exact this
    have hB := Lib.hid hb
    clear hb
    clear h
    go_enter Tryz.func120, Tryz.ntmps120
    go_wp2_with (go_at_call 146; refine (Tryz.bits_Len _ _ (by omega) (by omega)).mono ?_; rintro e w' ⟨rfl, rfl⟩)
    go_returns
    exact ⟨by rw [hB.out, show ((k : Int) % 256) = k by omega], by rw [hB.out, show ((k : Int) % 256) = k by omega]⟩
theorem up_no (n : Int) (h : 1048576 < n) (w : World) :
    Calls Tryz.prog 120 #[.int .i64 n] w fun e w' => ∃ op : ByteArray, e = .returned (.tuple #[.agg #[.int .u8 0], .iface 200 (.pointer (some ⟨w.heap.size + 1, 0, none⟩))]) ∧ (w.alloc (.cells #[.int .u8 0] 100)).alloc (.cells #[.string op, .int .i64 n, .iface 156 (.int .i64 7)] 202) = w' := by
  go_enter Tryz.func120, Tryz.ntmps120
  go_wp2_with (go_at_call 75; refine (wrap_iface _ _ _ _).mono ?_; rintro e w' ⟨rfl, rfl⟩)
  go_returns
  exact ⟨_, rfl, rfl⟩
theorem of_yes (k : Nat) (hk : k ≤ 20) (w : World) :
    Calls Tryz.prog 79 #[.int .i64 (two k)] w fun e w' => e = .returned (.tuple #[.agg #[.int .u8 k], .nilIface]) ∧ Below w.heap.size w w' := by
  have h20 := two_le hk
  have hpos := two_pos k
  go_enter Tryz.func79, Tryz.ntmps79
  go_wp2_with (first | (go_at_call 120; refine (up_yes k hk _ (by omega) (least_two k) _).mono ?_; rintro e w' ⟨rfl, rfl⟩) | (go_at_call 51; refine (slots_any k hk _).mono ?_; rintro e w'' ⟨rfl, rfl⟩))
  go_returns
  exact ⟨rfl, by go_grown⟩
theorem of_great (n : Int) (h : 1048576 < n) (w : World) :
    Calls Tryz.prog 79 #[.int .i64 n] w fun e w' => ∃ F, e = .returned (.tuple #[.agg #[.int .u8 0], F]) ∧ Chain w' F 1 7 ∧ Below w.heap.size w w' := by
  go_enter Tryz.func79, Tryz.ntmps79
  go_wp2_with (first | (go_at_call 120; refine (up_no n h _).mono ?_; rintro e w' ⟨op, rfl, rfl⟩) | (go_at_call 75; refine (wrap_iface _ _ _ _).mono ?_; rintro e w' ⟨rfl, rfl⟩))
  go_returns
  exact ⟨_, rfl, .fault _ _ _ _ 0 7 (heap_at _ _ _ (by simp)) (.num 7), by go_grown⟩
theorem of_other (n : Int) (hw : -9223372036854775808 ≤ n) (h : n ≤ 1048576) (hno : ∀ k, k ≤ 20 → n ≠ two k) (w : World) :
    Calls Tryz.prog 79 #[.int .i64 n] w fun e w' => ∃ F, e = .returned (.tuple #[.agg #[.int .u8 0], F]) ∧ Chain w' F 1 7 ∧ Below w.heap.size w w' := by
  obtain ⟨k, hk, hl⟩ := least_exists 20 n h
  have hL := Lib.hid hl
  have hne := hno k hk
  have hN : (two k == n) = false := by simpa using fun e => hne e.symm
  clear hl hno hne
  go_enter Tryz.func79, Tryz.ntmps79
  go_wp2_with (first | (go_at_call 120; refine (up_yes k hk _ hw hL.out _).mono ?_; rintro e w' ⟨rfl, rfl⟩) | (go_at_call 51; refine (slots_any k hk _).mono ?_; rintro e w'' ⟨rfl, rfl⟩) | (go_at_call 75; refine (wrap_iface _ _ _ _).mono ?_; rintro e w' ⟨rfl, rfl⟩))
  go_returns
  exact ⟨_, rfl, .fault _ _ _ _ 0 7 (heap_at _ _ _ (by simp)) (.num 7), by go_grown⟩
end Go.Proofs.YtdfcfdcekdmcmaaGreat
namespace Go.Proofs.YtdfcfdcekdmcmaaGreat
open Go.RowKit
theorem av_start {R : Rest} {W0 W : World} {b f k : Nat} {xs : List Int} {st : Int} (h : Mv R W0 W b xs st) (hk : k ≤ 20) (hf : (f : Int) ≤ 2097152) : Av R W0 (W.alloc (.cells #[.int .i64 f, .int .u8 k] 268)) b W.heap.size f k xs st := by
  have hb : Below W.heap.size W (W.alloc (.cells #[.int .i64 f, .int .u8 k] 268)) := (Below.refl _ W).alloc (Nat.le_refl _) _
  obtain ⟨v, h1, h2, h3, h4, h5⟩ := h.keep hb
  exact ⟨v, h1, ⟨obj_new _ _, hk, hf⟩, h2, h3, h4, h5⟩
set_option maxRecDepth 100000 in
set_option maxHeartbeats 2000000 in
theorem anew_ok {R : Rest} {W0 W : World} {b : Nat} {xs : List Int} {st : Int} (h : Mv R W0 W b xs st) (k n : Nat) (hk : k ≤ 20) (hn : (n : Int) = two k) (hl : (xs.length : Int) + n ≤ 2097152) :
    Calls Tryz.prog 147 #[.pointer (some ⟨b, 0, none⟩), .agg #[.int .u8 k]] W fun e w' => ∃ q, e = .returned (.tuple #[.pointer (some ⟨q, 0, none⟩), .nilIface]) ∧ Av R W0 w' b q xs.length k (xs ++ List.replicate n (-1)) st ∧ Held W w' := by
  have hb1 : Below W.heap.size W (W.alloc (.cells #[.int .u8 k] 100)) := (Below.refl _ W).alloc (Nat.le_refl _) _
  have HM1 := Lib.hid (h.keep hb1)
  have HH1 := Lib.hid (Held.of_below hb1)
  have n0 : ∀ x1 : Later (W.alloc (.cells #[.int .u8 k] 100)), x1.to.cell? ⟨W.heap.size, 0, none⟩ = some (.int .u8 k) := fun x1 => keepc x1.below ((obj_cell (obj_new W _) 0).trans rfl)
  have HO1 := Lib.hid (obj_new W (.cells #[.int .u8 k] 100))
  have HS1 : Hid (∀ x1 : Later (W.alloc (.cells #[.int .u8 k] 100)), Calls Tryz.prog 46 #[.pointer (some ⟨b, 0, none⟩)] x1.to fun e w'' => e = .returned (.int .i64 xs.length) ∧ ∃ y1 : Later (W.alloc (.cells #[.int .u8 k] 100)), w'' = y1.to) :=
    fun x1 => (len_mv ((h.keep hb1).keep x1.below)).mono fun e w h => ⟨h.1, x1, h.2.symm⟩
  have HN := Lib.hid hn
  have hnb : (n : Int) ≤ 1048576 := by have := two_le hk; omega
  clear h hb1 hn
  go_enter Tryz.func147, Tryz.ntmps147
  go_wp2_with fail
  generalize W.alloc (.cells #[.int .u8 k] 100) = w1 at *
  generalize W.heap.size = ob at *
  refine wp_region_later_tail 4 (by kernel_rfl) (by kernel_rfl) ?_
  simp only [List.take_succ_cons, List.take_zero, List.drop_succ_cons, List.drop_zero]
  repeat (go_big_quiet_step ((go_at_call 46; exact HS1.out _)))
  refine wpQuiet_nil ?_
  intro w2 hw'
  obtain ⟨⟨w2', hb2⟩, hw2⟩ := hw'
  obtain rfl : w2 = w2' := hw2
  have HA2 := Lib.hid (av_start (f := xs.length) (HM1.out.keep hb2) hk (by omega))
  have HO2 := Lib.hid ((hb2.block _ (lt_of_block HO1.out)).trans HO1.out)
  have HH2 := Lib.hid (HH1.out.then (Held.of_below (balloc hb2 (.cells #[.int .i64 xs.length, .int .u8 k] 268))))
  clear n0 hb2
  have d1 : decide ((2097152 : Int) < (xs.length : Int) + (n : Int)) = false := decide_eq_false (by omega)
  go_wp2_with (first
    | (go_at_call 164; refine (end_some _ _ _ k HA2.out.bf n HN.out).mono ?_; rintro e w3 ⟨rfl, hb⟩; have H3 := Lib.hid (HA2.out.keep hb); have o3 := (obj_cell ((balloc (Below.refl _ w2) (.cells #[.int .i64 xs.length, .int .u8 k] 268)).block _ (lt_of_block HO2.out) |>.trans HO2.out) 0); have o4 := keepc hb (o3.trans rfl); have HH3 := Lib.hid (HH2.out.then (Held.of_below hb)); clear hb o3)
    | (go_at_call 51; refine (slots_any k hk _).mono ?_; rintro e w4 ⟨rfl, hw⟩; have H4 := Lib.hid (H3.out.keep (slots_below hw)); have HH4 := Lib.hid (HH3.out.then (Held.of_below (slots_below hw))); clear hw))
  have hn1 : (n : Int) ≤ two k := by have := HN.out; omega
  have hn2 : two k ≤ (n : Int) := by have := HN.out; omega
  generalize w2.heap.size = q at *
  clear o4
  have HS : Hid (Av R W0 w4 b q xs.length k (xs ++ List.replicate 0 (-1)) st ∧ Held W w4) := Lib.hid ⟨by simpa using H4.out, HH4.out⟩
  go_loopw [29] (fun i wl => ∃ j : Nat, j ≤ n ∧ i = .int .i64 j ∧ Hid (Av R W0 wl b q xs.length k (xs ++ List.replicate j (-1)) st ∧ Held W wl)) (fun i _ => n - (intOf i).toNat)
  case atStart => exact ⟨0, Nat.zero_le _, rfl, HS⟩
  case round =>
    obtain ⟨j, hj, rfl, HJ⟩ := hrel
    by_cases hlt : j < n
    · have hjt : (j : Int) < two k := by omega
      go_wp2_with (go_at_call 34; refine (alloc_v HJ.out.1 (-1) (by simp; omega)).mono ?_; rintro e w5 ⟨rfl, hh, hd⟩; rw [List.append_assoc, ← List.replicate_succ'] at hh; have H5 := Lib.hid (show _ ∧ Held W w5 from ⟨hh, HJ.out.2.then hd⟩); clear hh hd)
      exact ⟨⟨j + 1, by omega, by go_num, H5⟩, by simp [intOf]; omega⟩
    · obtain rfl : j = n := by omega
      have hjt : ¬ (j : Int) < two k := by omega
      go_wp2
      go_ret2
      exact ⟨q, rfl, HJ.out⟩
end Go.Proofs.YtdfcfdcekdmcmaaGreat
namespace Go.Proofs.YtdfcfdcekdmcmaaGreat
open Go.RowKit
theorem cons_of {l : List Int} {n : Nat} (h : l.length = n + 1) : ∃ x t, l = x :: t ∧ t.length = n := by
  cases l with
  | nil => simp at h
  | cons x t => exact ⟨x, t, rfl, by simpa using h⟩
theorem built_scan (l0 : List Int) (h : l0.length = 33) (most : Int) :
    Tryz.prog.built 58 [(0, .agg (l0.map (Value.int .i64)).toArray), (2, .int .i64 most)] = some ((l0 ++ [0, most]).map (Value.int .i64)).toArray := by
  obtain ⟨x0, l1, rfl, h1⟩ := cons_of h
  obtain ⟨x1, l2, rfl, h2⟩ := cons_of h1
  obtain ⟨x2, l3, rfl, h3⟩ := cons_of h2
  obtain ⟨x3, l4, rfl, h4⟩ := cons_of h3
  obtain ⟨x4, l5, rfl, h5⟩ := cons_of h4
  obtain ⟨x5, l6, rfl, h6⟩ := cons_of h5
  obtain ⟨x6, l7, rfl, h7⟩ := cons_of h6
  obtain ⟨x7, l8, rfl, h8⟩ := cons_of h7
  obtain ⟨x8, l9, rfl, h9⟩ := cons_of h8
  obtain ⟨x9, l10, rfl, h10⟩ := cons_of h9
  obtain ⟨x10, l11, rfl, h11⟩ := cons_of h10
  obtain ⟨x11, l12, rfl, h12⟩ := cons_of h11
  obtain ⟨x12, l13, rfl, h13⟩ := cons_of h12
  obtain ⟨x13, l14, rfl, h14⟩ := cons_of h13
  obtain ⟨x14, l15, rfl, h15⟩ := cons_of h14
  obtain ⟨x15, l16, rfl, h16⟩ := cons_of h15
  obtain ⟨x16, l17, rfl, h17⟩ := cons_of h16
  obtain ⟨x17, l18, rfl, h18⟩ := cons_of h17
  obtain ⟨x18, l19, rfl, h19⟩ := cons_of h18
  obtain ⟨x19, l20, rfl, h20⟩ := cons_of h19
  obtain ⟨x20, l21, rfl, h21⟩ := cons_of h20
  obtain ⟨x21, l22, rfl, h22⟩ := cons_of h21
  obtain ⟨x22, l23, rfl, h23⟩ := cons_of h22
  obtain ⟨x23, l24, rfl, h24⟩ := cons_of h23
  obtain ⟨x24, l25, rfl, h25⟩ := cons_of h24
  obtain ⟨x25, l26, rfl, h26⟩ := cons_of h25
  obtain ⟨x26, l27, rfl, h27⟩ := cons_of h26
  obtain ⟨x27, l28, rfl, h28⟩ := cons_of h27
  obtain ⟨x28, l29, rfl, h29⟩ := cons_of h28
  obtain ⟨x29, l30, rfl, h30⟩ := cons_of h29
  obtain ⟨x30, l31, rfl, h31⟩ := cons_of h30
  obtain ⟨x31, l32, rfl, h32⟩ := cons_of h31
  obtain ⟨x32, l33, rfl, h33⟩ := cons_of h32
  obtain rfl : l33 = [] := List.eq_nil_of_length_eq_zero h33
  kernel_rfl
section
variable {P : Program} {ops : Array Oper} {rest : List Oper} {o : Oper} {a : Act} {w : World} {Q : Exit → Act → World → Prop}
theorem wpList_build1 (hg : o.guard = none) (t : TypeId) (i : Nat) (x : Operand) (ho : o.op = .build t #[(i, x)]) (v : Value) (hx : a.eval x = v) (cells : Array Value)
    (hb : P.built t [(i, v)] = some cells) (h : wpList P ops Q rest (a.put o.dst (.agg cells)) w) : wpList P ops Q (o :: rest) a w := by
  subst hx
  have e : P.built t ((#[(i, x)] : Array (Nat × Operand)).map fun (i, x) => (i, a.eval x)).toList = some cells := by simpa using hb
  exact wpList_build hg t _ ho (by rw [e]; rfl) (by rw [e]; exact h)
theorem wpList_build2 (hg : o.guard = none) (t : TypeId) (i j : Nat) (x y : Operand) (ho : o.op = .build t #[(i, x), (j, y)]) (u v : Value) (hx : a.eval x = u) (hy : a.eval y = v) (cells : Array Value)
    (hb : P.built t [(i, u), (j, v)] = some cells) (h : wpList P ops Q rest (a.put o.dst (.agg cells)) w) : wpList P ops Q (o :: rest) a w := by
  subst hx hy
  have e : P.built t ((#[(i, x), (j, y)] : Array (Nat × Operand)).map fun (i, x) => (i, a.eval x)).toList = some cells := by simpa using hb
  exact wpList_build hg t _ ho (by rw [e]; rfl) (by rw [e]; exact h)
end
theorem results_row {P : Program} {fn : Func} {p : Tmp} {ty : TypeId} (h : fn.results = #[.cell p ty]) (tmps : Array Value) (w : World) (g : Nat) (t : TypeId) (cs : Array Value) (d : TypeDesc)
    (hp : tmps.getD p undef = .pointer (some ⟨g, 0, none⟩)) (hg : w.heap[g]? = some (.cells cs t (0, 0)))
    (hu : P.underlying ty = some d) (hd : (match d with | .struct _ | .array _ _ => true | _ => false) = true) (hi : (P.info? ty).map (·.size) = some cs.size) :
    (results fn tmps).run P w = .ok (.agg cs) w := results_cell_row h tmps w g t cs (0, 0) d hp hg hu hd hi
theorem scC_info {ids : List Int} (h : ids.length ≤ 32) (k : Nat) (m : Int) : (Tryz.prog.info? 58).map (·.size) = some (scC ids k m).size := by
  rw [(sc_of h k m).size]
  kernel_rfl
def grL (ids : List Int) : List Value := (padI ids ++ [(ids.length : Int)]).map (Value.int .i64)
theorem grL_len {ids : List Int} (h : ids.length ≤ 32) : (grL ids).length = 33 := by simp [grL, padI_len h]
theorem Gq.range {W : World} {g o : Nat} {cs : Array Value} {T : TypeId} {ids : List Int} (hq : Gq cs o ids) (h : Blk W g cs T) : W.rangeAt g o (grL ids) := by
  intro j v hv
  have hl := padI_len hq.len
  have hj : j < 33 := by
    have := (List.getElem?_eq_some_iff.1 hv).1
    rwa [grL_len hq.len] at this
  by_cases h32 : j = 32
  · subst h32
    rw [hq.cN h]
    simp [grL, hl] at hv
    rw [hv]
  · rw [hq.cAt h j (by omega)]
    rw [← hv]
    simp [grL, List.getElem?_append_left (show j < ((padI ids).map (Value.int .i64)).length by simp; omega), List.getElem?_eq_getElem (show j < (padI ids).length by omega)]
theorem built_q {ids : List Int} (h : ids.length ≤ 32) (most : Int) : Tryz.prog.built 58 [(0, .agg (grL ids).toArray), (2, .int .i64 most)] = some (scC ids 0 most) := by
  have := built_scan (padI ids ++ [(ids.length : Int)]) (by simp [padI_len h]) most
  rw [List.append_assoc] at this
  exact this
set_option maxRecDepth 100000 in
theorem gscan_q {W : World} {g o : Nat} {cs0 : Array Value} {T : TypeId} {ids : List Int} (h : Blk W g cs0 T) (hq : Gq cs0 o ids) (most : Int) :
    Calls Tryz.prog 155 #[.pointer (some ⟨g, o, none⟩), .int .i64 most] W fun e w' => e = .returned (.agg (scC ids 0 most)) ∧ Below W.heap.size W w' := by
  have hb := built_q hq.len most
  have hS := sc_of hq.len 0 most
  have hi := scC_info hq.len 0 most
  have hig : (Tryz.prog.info? 56).map (·.size) = some (grL ids).length := by rw [grL_len hq.len]; kernel_rfl
  have HR : Hid (∀ ob : Obj, (W.alloc ob).rangeAt g o (grL ids)) := fun ob => World.rangeAt_alloc (hq.range h) ob
  clear h hq
  generalize scC ids 0 most = cs at *
  generalize grL ids = gs at *
  go_enter Tryz.func155, Tryz.ntmps155
  go_wp2_with (first
    | (refine wpList_build2 rfl 58 0 2 (.tmp 11) (.tmp 12) rfl _ _ rfl rfl cs hb ?_)
    | (refine wpList_load_mid rfl 56 (.tmp 10) rfl g o rfl gs _ (HR.out _) Tryz.underlying56 rfl hig ?_)
    | (refine wpList_store_row rfl 58 (.tmp 4) (.tmp 13) rfl W.heap.size cs rfl rfl 58 _ (obj_new _ _) hi (by rw [hS.size]; rfl) hS.one ?_))
  exact bodyPost_ret (results_row (p := 4) (by kernel_rfl) _ _ W.heap.size 58 cs _ rfl (setRow_heap _ _ _ _ _ _ (obj_new _ _)) Tryz.underlying58 rfl hi) rfl ⟨rfl, bsetRow (balloc (Below.refl _ _) _) (Nat.le_refl _) cs⟩
theorem stored_new {w X : World} {Z cs : Array Value} {T : TypeId} (h : (w.alloc (.cells Z T)).setRow w.heap.size cs = X) : X.heap[w.heap.size]? = some (.cells cs T (0, 0)) ∧ Below w.heap.size w X := by
  subst h
  exact ⟨setRow_heap _ _ _ _ _ _ (obj_new _ _), bsetRow (balloc (Below.refl _ _) _) (Nat.le_refl _) cs⟩
theorem wpList_load_row_g {P : Program} {ops : Array Oper} {rest : List Oper} {o : Oper} {a : Act} {w : World} {Q : Exit → Act → World → Prop} (hw : Region.wanted o (yielded ops a.tmps) = true) (ty : TypeId) (x : Operand) (ho : o.op = .load ty x)
    (g : Nat) (hx : a.eval x = .pointer (some ⟨g, 0, none⟩)) (t : TypeId) (cs : Array Value) (fr : Nat × Nat) (d : TypeDesc) (hg : w.heap[g]? = some (.cells cs t fr))
    (hu : P.underlying ty = some d) (hd : (match d with | .struct _ | .array _ _ => true | _ => false) = true) (hi : (P.info? ty).map (·.size) = some cs.size)
    (h : wpList P ops Q rest (a.put o.dst (.agg cs)) w) : wpList P ops Q (o :: rest) a w :=
  wpList_step fun K hK => by rw [if_pos hw]; exact wp_load_row ty x ho g hx t cs fr d hg hu hd hi (hK _ _ h)
theorem Sc.info {cs : Array Value} {ids : List Int} {seen : Nat} {least : Int} (h : Sc cs ids seen least) : (Tryz.prog.info? 58).map (·.size) = some cs.size := by
  rw [h.size]
  kernel_rfl
end Go.Proofs.YtdfcfdcekdmcmaaGreat
namespace Go.Proofs.YtdfcfdcekdmcmaaGreat
open Go.RowKit
structure Sh where
  p : Nat
  b : Nat
  q : Nat
  f : Nat
  k : Nat
  cur : Nat
  cch : Nat
structure SqF (cs : Array Value) (s : Sh) (ids : List Int) (sw : Int) : Prop where
  size : cs.size = 39
  c0 : cs[0]? = some (.pointer (some ⟨s.b, 0, none⟩))
  c1 : cs[1]? = some (.int .u8 s.k)
  c2 : cs[2]? = some (.int .i64 s.cur)
  c3 : cs[3]? = some (.int .i64 s.cch)
  c4 : cs[4]? = some (.pointer (some ⟨s.q, 0, none⟩))
  gr : Gq cs 5 ids
  c38 : cs[38]? = some (.int .i64 sw)
theorem SqF.swapped {cs : Array Value} {s : Sh} {ids : List Int} {sw : Int} (h : SqF cs s ids sw) (x : Int) : SqF (cs.setIfInBounds 38 (.int .i64 x)) s ids x := by
  have hs := h.size
  refine ⟨by simpa using hs, ?_, ?_, ?_, ?_, ?_, ⟨fun j hj => ?_, ?_, h.gr.len⟩, ?_⟩
  · rw [Array.getElem?_setIfInBounds_ne (by omega)]; exact h.c0
  · rw [Array.getElem?_setIfInBounds_ne (by omega)]; exact h.c1
  · rw [Array.getElem?_setIfInBounds_ne (by omega)]; exact h.c2
  · rw [Array.getElem?_setIfInBounds_ne (by omega)]; exact h.c3
  · rw [Array.getElem?_setIfInBounds_ne (by omega)]; exact h.c4
  · rw [Array.getElem?_setIfInBounds_ne (by omega)]; exact h.gr.nth j hj
  · rw [Array.getElem?_setIfInBounds_ne (by omega)]; exact h.gr.n
  · rw [Array.getElem?_setIfInBounds_self_of_lt (by omega)]
def Ms (R : Rest) (W0 W : World) (s : Sh) (ids : List Int) (sw : Int) (xs : List Int) (st : Int) : Prop :=
  ∃ cs, SqF cs s ids sw ∧ W0.heap.size ≤ s.p ∧ ¬ R.prot s.p ∧ Av (R.and s.p cs 219) W0 W s.b s.q s.f s.k xs st
section
variable {R : Rest} {W0 W w : World} {s : Sh} {ids xs : List Int} {sw st : Int}
theorem Ms.keep (h : Ms R W0 W s ids sw xs st) (hb : Below W.heap.size W w) : Ms R W0 w s ids sw xs st := by
  obtain ⟨cs, h1, h2, h3, h4⟩ := h
  exact ⟨cs, h1, h2, h3, h4.keep hb⟩
theorem Ms.below (h : Ms R W0 W s ids sw xs st) : Below W0.heap.size W0 W := by
  obtain ⟨cs, h1, h2, h3, h4⟩ := h
  exact h4.below
theorem Ms.inv (h : Ms R W0 W s ids sw xs st) : R.inv W := by
  obtain ⟨cs, h1, h2, h3, h4⟩ := h
  exact h4.inv.1
theorem Ms.bf (h : Ms R W0 W s ids sw xs st) : Bf W s.q s.f s.k := by
  obtain ⟨cs, h1, h2, h3, h4⟩ := h
  exact h4.bf
theorem Ms.blk (h : Ms R W0 W s ids sw xs st) : ∃ cs, SqF cs s ids sw ∧ Blk W s.p cs 219 := by
  obtain ⟨cs, h1, h2, h3, h4⟩ := h
  exact ⟨cs, h1, h4.inv.2⟩
structure MsC (W : World) (s : Sh) (sw : Int) : Prop where
  c0 : W.cell? ⟨s.p, 0, none⟩ = some (.pointer (some ⟨s.b, 0, none⟩))
  c1 : W.cell? ⟨s.p, 1, none⟩ = some (.int .u8 s.k)
  c2 : W.cell? ⟨s.p, 2, none⟩ = some (.int .i64 s.cur)
  c3 : W.cell? ⟨s.p, 3, none⟩ = some (.int .i64 s.cch)
  c4 : W.cell? ⟨s.p, 4, none⟩ = some (.pointer (some ⟨s.q, 0, none⟩))
  c38 : W.cell? ⟨s.p, 38, none⟩ = some (.int .i64 sw)
theorem Ms.c (h : Ms R W0 W s ids sw xs st) : MsC W s sw := by
  obtain ⟨cs, h1, h2⟩ := h.blk
  exact ⟨(obj_cell h2 _).trans h1.c0, (obj_cell h2 _).trans h1.c1, (obj_cell h2 _).trans h1.c2, (obj_cell h2 _).trans h1.c3, (obj_cell h2 _).trans h1.c4, (obj_cell h2 _).trans h1.c38⟩
theorem MsC.later (h : MsC W s sw) (hb : Below W.heap.size W w) : MsC w s sw := ⟨keepc hb h.c0, keepc hb h.c1, keepc hb h.c2, keepc hb h.c3, keepc hb h.c4, keepc hb h.c38⟩
theorem Ms.f (h : Ms R W0 W s ids sw xs st) (i : Nat) : W.frozen? ⟨s.p, i, none⟩ = false := by
  obtain ⟨cs, _, h2⟩ := h.blk
  exact obj_free h2 i
theorem Ms.k20 (h : Ms R W0 W s ids sw xs st) : s.k ≤ 20 := h.bf.2.1
theorem Ms.with (h : Ms R W0 W s ids sw xs st) {g : Nat} {gs : Array Value} {T : TypeId} (hg : Blk W g gs T) (t1 : T ≠ 171) (t2 : 2 ≠ T) (t3 : T ≠ 219) : Ms (R.and g gs T) W0 W s ids sw xs st := by
  obtain ⟨cs, h1, h2, h3, h4⟩ := h
  have hp := h4.inv.2
  refine ⟨cs, h1, h2, ?_, h4.turn (S := fun _ => False) (Frm.refl _ _) (fun _ _ _ h => h.elim) ?_ ⟨⟨h4.inv.1, hg⟩, hp⟩⟩
  · rintro (e | e)
    · exact h3 e
    · exact obj_ne hp hg (fun e => t3 e.symm) e
  · rintro k ((e | rfl) | e)
    · exact .inl (.inl e)
    · exact .inr ⟨_, _, _, hg, t1, t2⟩
    · exact .inl (.inr e)
theorem Ms.less {R' : Rest} (h : Ms R W0 W s ids sw xs st) (hp : ∀ g, R'.prot g → R.prot g) (hi : R'.inv W) : Ms R' W0 W s ids sw xs st := by
  obtain ⟨cs, h1, h2, h3, h4⟩ := h
  have hb := h4.inv.2
  exact ⟨cs, h1, h2, fun e => h3 (hp _ e), h4.turn (S := fun _ => False) (Frm.refl _ _) (fun _ _ _ h => h.elim) (fun k hk => .inl (hk.imp (hp k) id)) ⟨hi, hb⟩⟩
theorem Ms.drop {g : Nat} {gs : Array Value} {T : TypeId} (h : Ms (R.and g gs T) W0 W s ids sw xs st) : Ms R W0 W s ids sw xs st := h.less (fun _ h => .inl h) h.inv.1
theorem Ms.turn {R' : Rest} {S : Nat → Prop} (h : Ms R W0 W s ids sw xs st) (hf : Frm S W w) (hS : ∀ g o, W.heap[g]? = some o → S g → W0.heap.size ≤ g ∧ ∃ c T m, o = .cells c T m ∧ T ≠ 171 ∧ 2 ≠ T ∧ T ≠ 219 ∧ T ≠ 268)
    (hR : ∀ g, R'.prot g → R.prot g ∨ ∃ c T m, w.heap[g]? = some (.cells c T m) ∧ T ≠ 171 ∧ 2 ≠ T ∧ T ≠ 219) (hI : R'.inv w) : Ms R' W0 w s ids sw xs st := by
  obtain ⟨cs, h1, h2, h3, h4⟩ := h
  have hp := h4.inv.2
  have hn : ¬ S s.p := fun e => by
    obtain ⟨_, c, T, m, e2, _, _, e3, _⟩ := hS _ _ hp e
    cases e2
    exact e3 rfl
  have hp2 := hf.obj hp hn
  obtain ⟨v, ha, hq, _⟩ := id h4
  refine ⟨cs, h1, h2, ?_, h4.turn hf (fun g o ho hs => ?_) ?_ ⟨hI, hp2⟩⟩
  · intro e
    rcases hR _ e with e | ⟨c, T, m, hc, _, _, t3⟩
    · exact h3 e
    · exact obj_ne hp2 hc (fun e => t3 e.symm) rfl
  · obtain ⟨e1, c, T, m, rfl, t1, t2, t3, t4⟩ := hS g o ho hs
    refine ⟨e1, obj_ne ho ha.1 t1, obj_ne ho hq.1 t4, fun c2 e => ?_⟩
    cases e
    exact t2 rfl
  · rintro g (e | e)
    · rcases hR g e with e | ⟨c, T, m, hc, t1, t2, _⟩
      · exact .inl (.inl e)
      · exact .inr ⟨c, T, m, hc, t1, t2⟩
    · exact .inl (.inr e)
theorem Ms.own {cs' : Array Value} {ids' : List Int} {sw' : Int} (h : Ms R W0 W s ids sw xs st) (hf : Frm (fun k => k = s.p) W w) (hb : Blk w s.p cs' 219) (hs : SqF cs' s ids' sw') : Ms R W0 w s ids' sw' xs st := by
  obtain ⟨cs, h1, h2, h3, h4⟩ := h
  have hp := h4.inv.2
  obtain ⟨v, ha, hq, _, _, _, hR⟩ := id h4
  refine ⟨cs', hs, h2, h3, h4.turn hf (fun g o ho e => ?_) (fun g hg => ?_) ⟨?_, hb⟩⟩
  · subst e
    rw [hp] at ho
    cases ho
    exact ⟨h2, obj_ne hp ha.1 (by decide), obj_ne hp hq.1 (by decide), fun c e => by injection e with _ e2 _; exact absurd e2 (by decide)⟩
  · exact .inl hg
  · exact R.ok _ _ h4.inv.1 fun g hg => hf.block g (hR.1 g (.inl hg)).1 fun e => h3 (e ▸ hg)
theorem load_s (h : Ms R W0 W s ids sw xs st) (i : Nat) (x : Int) (hx : xs[i]? = some x) (h0 : 0 ≤ st) (h1 : st < 4611686018427387904) :
    Calls Tryz.prog 35 #[.pointer (some ⟨s.b, 0, none⟩), .int .i64 i] W fun e w' => e = .returned (.tuple #[.int .i64 x, .nilIface]) ∧ Ms R W0 w' s ids sw xs (st + 1) := by
  obtain ⟨cs, k1, k2, k3, k4⟩ := h
  exact (load_v k4 i x hx h0 h1).mono fun _ _ ⟨he, ha⟩ => ⟨he, cs, k1, k2, k3, ha⟩
theorem store_s (h : Ms R W0 W s ids sw xs st) (i : Nat) (y : Int) (hi : i < xs.length) (h0 : 0 ≤ st) (h1 : st < 4611686018427387904) :
    Calls Tryz.prog 167 #[.pointer (some ⟨s.b, 0, none⟩), .int .i64 i, .int .i64 y] W fun e w' => e = .returned .nilIface ∧ Ms R W0 w' s ids sw (xs.set i y) (st + 1) := by
  obtain ⟨cs, k1, k2, k3, k4⟩ := h
  exact (store_v k4 i y hi h0 h1).mono fun _ _ ⟨he, ha⟩ => ⟨he, cs, k1, k2, k3, ha⟩
theorem swapy_s (h : Ms R W0 W s ids sw xs st) (i : Nat) (x y : Int) (hx : xs[i]? = some x) (h0 : 0 ≤ st) (h1 : st < 4611686018427387904) :
    Calls Tryz.prog 168 #[.pointer (some ⟨s.b, 0, none⟩), .int .i64 i, .int .i64 x, .int .i64 y] W fun e w' => e = .returned (.tuple #[.bool true, .nilIface]) ∧ Ms R W0 w' s ids sw (xs.set i y) (st + 1) := by
  obtain ⟨cs, k1, k2, k3, k4⟩ := h
  exact (swapy_v k4 i x y hx h0 h1).mono fun _ _ ⟨he, ha⟩ => ⟨he, cs, k1, k2, k3, ha⟩
theorem swapn_s (h : Ms R W0 W s ids sw xs st) (i : Nat) (o x y : Int) (hx : xs[i]? = some x) (ho : (x == o) = false) (h0 : 0 ≤ st) (h1 : st < 4611686018427387904) :
    Calls Tryz.prog 168 #[.pointer (some ⟨s.b, 0, none⟩), .int .i64 i, .int .i64 o, .int .i64 y] W fun e w' => e = .returned (.tuple #[.bool false, .nilIface]) ∧ Ms R W0 w' s ids sw xs (st + 1) := by
  obtain ⟨cs, k1, k2, k3, k4⟩ := h
  exact (swapn_v k4 i o x y hx ho h0 h1).mono fun _ _ ⟨he, ha⟩ => ⟨he, cs, k1, k2, k3, ha⟩
end
section
variable {R : Rest} {W0 W w : World} {s : Sh} {ids xs : List Int} {sw st : Int}
theorem menough (hc : MsC W s sw) (hk : s.k ≤ 20) (least last : Int) (h0 : -4611686018427387905 ≤ last) (h1 : last ≤ 4611686018427387904) :
    Calls Tryz.prog 165 #[.pointer (some ⟨s.p, 0, none⟩), .int .i64 least, .int .i64 last] W fun e w' => e = .returned (.bool (decide (last - two s.k ≤ least))) ∧ Below W.heap.size W w' := by
  have c := hc.c1
  have t1 := two_le hk
  have t2 := two_pos s.k
  clear hc
  go_enter Tryz.func165, Tryz.ntmps165
  go_wp2_with (go_at_call 51; refine (slots_any s.k hk _).mono ?_; rintro e w3 ⟨rfl, hw⟩; have HB := Lib.hid (slots_below hw); clear hw)
  go_ret
  exact ⟨rfl, HB.out⟩
end
end Go.Proofs.YtdfcfdcekdmcmaaGreat
