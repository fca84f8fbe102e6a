/-
  A sequencer of package single beside its arena and whatever else is known of blocks that aren't theirs: what its cells are, how it is made, what it tells, how it publishes, by contract. No condition but those that each theorem names.
  A new sequencer of package single, by contract. Conditions: its size is a power of two up to 2^20; the arena has room for one cell more.
  How a claim of package single that is done step by step begins and ends, by contract. No condition but those that each theorem names.
  How a claim of package single that is done step by step begins, and how it reads, by contract. No condition but those that each theorem names.
-/
import Derived.Test.YtdfcfdcekdmcmaaGreatPk14
import Derived.Test.YtdfcfdcekdmcmaaGreatPk16
set_option linter.unusedVariables false
set_option linter.unusedSimpArgs false
set_option linter.unusedSimpArgs false
namespace Go.Proofs.YtdfcfdcekdmcmaaGreat
open Go.RowKit
set_option linter.unusedVariables false
structure SgF (cs : Array Value) (a k cur : Nat) (ids : List Int) (cl pub sn sc : Int) : Prop where
  size : cs.size = 40
  c0 : cs[0]? = some (.pointer (some ⟨a, 0, none⟩))
  c1 : cs[1]? = some (.int .u8 k)
  c2 : cs[2]? = some (.int .i64 cur)
  gr : Gq cs 3 ids
  c36 : cs[36]? = some (.int .i64 cl)
  c37 : cs[37]? = some (.int .i64 pub)
  c38 : cs[38]? = some (.int .i64 sn)
  c39 : cs[39]? = some (.int .i64 sc)
section
variable {cs : Array Value} {a k cur : Nat} {ids : List Int} {cl pub sn sc : Int}
theorem SgF.claimed (h : SgF cs a k cur ids cl pub sn sc) (x : Int) : SgF (cs.setIfInBounds 36 (.int .i64 x)) a k cur ids x pub sn sc := by
  have hs := h.size
  have e : ∀ i, i ≠ 36 → (cs.setIfInBounds 36 (.int .i64 x))[i]? = cs[i]? := fun i hi => Array.getElem?_setIfInBounds_ne (Ne.symm hi)
  exact ⟨by simpa using hs, (e 0 (by omega)).trans h.c0, (e 1 (by omega)).trans h.c1, (e 2 (by omega)).trans h.c2, ⟨fun j hj => (e _ (by omega)).trans (h.gr.nth j hj), (e _ (by omega)).trans h.gr.n, h.gr.len⟩, Array.getElem?_setIfInBounds_self_of_lt (by omega), (e 37 (by omega)).trans h.c37, (e 38 (by omega)).trans h.c38, (e 39 (by omega)).trans h.c39⟩
theorem SgF.published (h : SgF cs a k cur ids cl pub sn sc) (x : Int) : SgF (cs.setIfInBounds 37 (.int .i64 x)) a k cur ids cl x sn sc := by
  have hs := h.size
  have e : ∀ i, i ≠ 37 → (cs.setIfInBounds 37 (.int .i64 x))[i]? = cs[i]? := fun i hi => Array.getElem?_setIfInBounds_ne (Ne.symm hi)
  exact ⟨by simpa using hs, (e 0 (by omega)).trans h.c0, (e 1 (by omega)).trans h.c1, (e 2 (by omega)).trans h.c2, ⟨fun j hj => (e _ (by omega)).trans (h.gr.nth j hj), (e _ (by omega)).trans h.gr.n, h.gr.len⟩, (e 36 (by omega)).trans h.c36, Array.getElem?_setIfInBounds_self_of_lt (by omega), (e 38 (by omega)).trans h.c38, (e 39 (by omega)).trans h.c39⟩
theorem SgF.seen (h : SgF cs a k cur ids cl pub sn sc) (x : Int) : SgF (cs.setIfInBounds 38 (.int .i64 x)) a k cur ids cl pub x sc := by
  have hs := h.size
  have e : ∀ i, i ≠ 38 → (cs.setIfInBounds 38 (.int .i64 x))[i]? = cs[i]? := fun i hi => Array.getElem?_setIfInBounds_ne (Ne.symm hi)
  exact ⟨by simpa using hs, (e 0 (by omega)).trans h.c0, (e 1 (by omega)).trans h.c1, (e 2 (by omega)).trans h.c2, ⟨fun j hj => (e _ (by omega)).trans (h.gr.nth j hj), (e _ (by omega)).trans h.gr.n, h.gr.len⟩, (e 36 (by omega)).trans h.c36, (e 37 (by omega)).trans h.c37, Array.getElem?_setIfInBounds_self_of_lt (by omega), (e 39 (by omega)).trans h.c39⟩
theorem SgF.scans (h : SgF cs a k cur ids cl pub sn sc) (x : Int) : SgF (cs.setIfInBounds 39 (.int .i64 x)) a k cur ids cl pub sn x := by
  have hs := h.size
  have e : ∀ i, i ≠ 39 → (cs.setIfInBounds 39 (.int .i64 x))[i]? = cs[i]? := fun i hi => Array.getElem?_setIfInBounds_ne (Ne.symm hi)
  exact ⟨by simpa using hs, (e 0 (by omega)).trans h.c0, (e 1 (by omega)).trans h.c1, (e 2 (by omega)).trans h.c2, ⟨fun j hj => (e _ (by omega)).trans (h.gr.nth j hj), (e _ (by omega)).trans h.gr.n, h.gr.len⟩, (e 36 (by omega)).trans h.c36, (e 37 (by omega)).trans h.c37, (e 38 (by omega)).trans h.c38, Array.getElem?_setIfInBounds_self_of_lt (by omega)⟩
end
def sg0 (a k cur : Nat) : Array Value := (([.pointer (some ⟨a, 0, none⟩), .int .u8 k, .int .i64 cur] : List Value) ++ grL [] ++ ([.int .i64 (-1), .int .i64 (-1), .int .i64 (-1), .int .i64 0] : List Value)).toArray
theorem built_sg0 (a k cur : Nat) : Tryz.prog.built 223 [(0, .pointer (some ⟨a, 0, none⟩)), (1, .agg #[.int .u8 k]), (2, .int .i64 cur), (4, .int .i64 (-1)), (5, .int .i64 (-1)), (6, .int .i64 (-1))] = some (sg0 a k cur) := by kernel_rfl
theorem sg0_size (a k cur : Nat) : (sg0 a k cur).size = 40 := by simp [sg0, grL_len]
theorem sg0_f (a k cur : Nat) : SgF (sg0 a k cur) a k cur [] (-1) (-1) (-1) 0 := by
  have hl := grL_len (ids := []) (by simp)
  have hp := padI_len (ids := []) (by simp)
  have mid : ∀ j, j < 33 → (sg0 a k cur)[3 + j]? = (grL [])[j]? := fun j hj => by
    simp only [sg0, List.getElem?_toArray]
    rw [List.getElem?_append_left (by simp [hl]; omega), List.getElem?_append_right (by simp)]
    simp
  have hi : ∀ j, (sg0 a k cur)[36 + j]? = ([.int .i64 (-1), .int .i64 (-1), .int .i64 (-1), .int .i64 0] : List Value)[j]? := fun j => by
    simp only [sg0, List.getElem?_toArray]
    rw [List.getElem?_append_right (by simp [hl])]
    simp [hl, show 36 + j - 36 = j by omega]
  refine ⟨sg0_size a k cur, rfl, rfl, rfl, ⟨fun j hj => ?_, ?_, by simp⟩, hi 0, hi 1, hi 2, hi 3⟩
  · rw [mid j (by omega)]
    simp [grL, List.getElem?_append_left (show j < ((padI []).map (Value.int .i64)).length by simp [hp]; omega), List.getElem?_eq_getElem (show j < (padI []).length by omega)]
  · rw [mid 32 (by omega)]
    simp [grL, hp]
def Sg (R : Rest) (W0 W : World) (p a k cur : Nat) (ids : List Int) (cl pub sn sc : Int) (xs : List Int) (st : Int) : Prop :=
  ∃ cs, SgF cs a k cur ids cl pub sn sc ∧ Mv (R.box W0.heap.size p cs 223) W0 W a xs st
section
variable {R : Rest} {W0 W w : World} {p a k cur : Nat} {ids xs : List Int} {cl pub sn sc st : Int}
theorem Sg.keep (h : Sg R W0 W p a k cur ids cl pub sn sc xs st) (hb : Below W.heap.size W w) : Sg R W0 w p a k cur ids cl pub sn sc xs st := by
  obtain ⟨cs, h1, h2⟩ := h
  exact ⟨cs, h1, h2.keep hb⟩
theorem Sg.below (h : Sg R W0 W p a k cur ids cl pub sn sc xs st) : Below W0.heap.size W0 W := by
  obtain ⟨cs, h1, h2⟩ := h
  exact h2.below
theorem Sg.inv (h : Sg R W0 W p a k cur ids cl pub sn sc xs st) : R.inv W := by
  obtain ⟨cs, h1, h2⟩ := h
  exact h2.inv.1
theorem Sg.k20 (h : Sg R W0 W p a k cur ids cl pub sn sc xs st) : ∃ cs, SgF cs a k cur ids cl pub sn sc ∧ Blk W p cs 223 := by
  obtain ⟨cs, h1, h2⟩ := h
  exact ⟨cs, h1, h2.boxIs⟩
structure SgC (W : World) (p a k cur : Nat) (cl pub sn sc : Int) : Prop where
  c0 : W.cell? ⟨p, 0, none⟩ = some (.pointer (some ⟨a, 0, none⟩))
  c1 : W.cell? ⟨p, 1, none⟩ = some (.int .u8 k)
  c2 : W.cell? ⟨p, 2, none⟩ = some (.int .i64 cur)
  c36 : W.cell? ⟨p, 36, none⟩ = some (.int .i64 cl)
  c37 : W.cell? ⟨p, 37, none⟩ = some (.int .i64 pub)
  c38 : W.cell? ⟨p, 38, none⟩ = some (.int .i64 sn)
  c39 : W.cell? ⟨p, 39, none⟩ = some (.int .i64 sc)
theorem Sg.c (h : Sg R W0 W p a k cur ids cl pub sn sc xs st) : SgC W p a k cur cl pub sn sc := by
  obtain ⟨cs, h1, h2⟩ := h.k20
  exact ⟨(obj_cell h2 _).trans h1.c0, (obj_cell h2 _).trans h1.c1, (obj_cell h2 _).trans h1.c2, (obj_cell h2 _).trans h1.c36, (obj_cell h2 _).trans h1.c37, (obj_cell h2 _).trans h1.c38, (obj_cell h2 _).trans h1.c39⟩
theorem SgC.later (h : SgC W p a k cur cl pub sn sc) (hb : Below W.heap.size W w) : SgC w p a k cur cl pub sn sc := ⟨keepc hb h.c0, keepc hb h.c1, keepc hb h.c2, keepc hb h.c36, keepc hb h.c37, keepc hb h.c38, keepc hb h.c39⟩
theorem Sg.f (h : Sg R W0 W p a k cur ids cl pub sn sc xs st) (i : Nat) : W.frozen? ⟨p, i, none⟩ = false := by
  obtain ⟨cs, _, h2⟩ := h.k20
  exact obj_free h2 i
theorem Sg.claimed (h : Sg R W0 W p a k cur ids cl pub sn sc xs st) (x : Int) : Sg R W0 (W.setCell ⟨p, 36, none⟩ (.int .i64 x)) p a k cur ids x pub sn sc xs st := by
  obtain ⟨cs, h1, h2⟩ := h
  exact ⟨_, h1.claimed x, h2.boxSet 36 _⟩
theorem Sg.published (h : Sg R W0 W p a k cur ids cl pub sn sc xs st) (x : Int) : Sg R W0 (W.setCell ⟨p, 37, none⟩ (.int .i64 x)) p a k cur ids cl x sn sc xs st := by
  obtain ⟨cs, h1, h2⟩ := h
  exact ⟨_, h1.published x, h2.boxSet 37 _⟩
theorem Sg.seen (h : Sg R W0 W p a k cur ids cl pub sn sc xs st) (x : Int) : Sg R W0 (W.setCell ⟨p, 38, none⟩ (.int .i64 x)) p a k cur ids cl pub x sc xs st := by
  obtain ⟨cs, h1, h2⟩ := h
  exact ⟨_, h1.seen x, h2.boxSet 38 _⟩
theorem Sg.scans (h : Sg R W0 W p a k cur ids cl pub sn sc xs st) (x : Int) : Sg R W0 (W.setCell ⟨p, 39, none⟩ (.int .i64 x)) p a k cur ids cl pub sn x xs st := by
  obtain ⟨cs, h1, h2⟩ := h
  exact ⟨_, h1.scans x, h2.boxSet 39 _⟩
theorem load_g (h : Sg R W0 W p a k cur ids cl pub sn sc xs st) (i : Nat) (x : Int) (hx : xs[i]? = some x) (h0 : 0 ≤ st) (h1 : st < 4611686018427387904) :
    Calls Tryz.prog 35 #[.pointer (some ⟨a, 0, none⟩), .int .i64 i] W fun e w' => e = .returned (.tuple #[.int .i64 x, .nilIface]) ∧ Sg R W0 w' p a k cur ids cl pub sn sc xs (st + 1) := by
  obtain ⟨cs, k1, k2⟩ := h
  exact (load_mv k2 i x hx h0 h1).mono fun _ _ ⟨he, ha⟩ => ⟨he, cs, k1, ha⟩
theorem store_g (h : Sg R W0 W p a k cur ids cl pub sn sc xs st) (i : Nat) (y : Int) (hi : i < xs.length) (h0 : 0 ≤ st) (h1 : st < 4611686018427387904) :
    Calls Tryz.prog 167 #[.pointer (some ⟨a, 0, none⟩), .int .i64 i, .int .i64 y] W fun e w' => e = .returned .nilIface ∧ Sg R W0 w' p a k cur ids cl pub sn sc (xs.set i y) (st + 1) := by
  obtain ⟨cs, k1, v, ha, h3, h4, h5, h6⟩ := h
  exact (store_some i y W a v xs st xs[i] ha (List.getElem?_eq_getElem hi) h0 h1).mono fun _ _ ⟨he, hs⟩ => ⟨he, cs, k1, Mv.step ha h3 h4 h5 h6 hs⟩
end
section
variable {R : Rest} {W0 W w : World} {p a k cur : Nat} {ids xs : List Int} {cl pub sn sc st : Int}
theorem scursor_some (h : SgC W p a k cur cl pub sn sc) : Calls Tryz.prog 195 #[.pointer (some ⟨p, 0, none⟩)] W fun e w' => e = .returned (.int .i64 cur) ∧ W = w' := by
  have c := h.c2
  clear h
  go_enter Tryz.func195, Tryz.ntmps195
  go_wp2
  go_ret
  exact ⟨rfl, rfl⟩
theorem spublished_some (h : SgC W p a k cur cl pub sn sc) : Calls Tryz.prog 135 #[.pointer (some ⟨p, 0, none⟩)] W fun e w' => e = .returned (.int .i64 pub) ∧ W = w' := by
  have c := h.c37
  clear h
  go_enter Tryz.func135, Tryz.ntmps135
  go_wp2
  go_ret
  exact ⟨rfl, rfl⟩
theorem senough (h : SgC W p a k cur cl pub sn sc) (hk : k ≤ 20) (last : Int) (h0 : -4611686018427387905 ≤ last) (h1 : last ≤ 4611686018427387904) :
    Calls Tryz.prog 126 #[.pointer (some ⟨p, 0, none⟩), .int .i64 last] W fun e w' => e = .returned (.bool (decide (last - two k ≤ sn))) ∧ Below W.heap.size W w' := by
  have n1 : ∀ x : Later W, x.to.cell? ⟨p, 1, none⟩ = some (.int .u8 k) := fun x => (h.later x.below).c1
  have n38 : ∀ x : Later W, x.to.cell? ⟨p, 38, none⟩ = some (.int .i64 sn) := fun x => (h.later x.below).c38
  have t1 := two_le hk
  have t2 := two_pos k
  have HSL : Hid (∀ x : Later W, Calls Tryz.prog 51 #[.agg #[.int .u8 k]] x.to fun e w'' => e = .returned (.int .i64 (two k)) ∧ ∃ y : Later W, w'' = y.to) := fun x => (slots_any k hk _).mono fun e w h => ⟨h.1, ⟨w, bthen x.below (slots_below h.2)⟩, rfl⟩
  clear h
  go_enter Tryz.func126, Tryz.ntmps126
  go_wp2
  refine wp_region_later (by kernel_rfl) (by kernel_rfl) ?_
  repeat (go_big_quiet_step ((go_at_call 51; exact HSL.out _)))
  refine wpQuiet_nil ?_
  intro w2 hw'
  obtain ⟨⟨w2', hb2⟩, hw2⟩ := hw'
  obtain rfl : w2 = w2' := hw2
  go_wp2
  go_ret
  exact ⟨rfl, hb2⟩
theorem snext (h : SgC W p a k cur cl pub sn sc) (hk : k ≤ 20) (op : ByteArray) (n : Int) (h1 : 1 ≤ n) (h2 : n ≤ two k) (h3 : -1 ≤ cl) (h4 : cl ≤ 4611686018427387904 - n) :
    Calls Tryz.prog 125 #[.pointer (some ⟨p, 0, none⟩), .string op, .int .i64 n] W fun e w' => e = .returned (.tuple #[.int .i64 (cl + n), .nilIface]) ∧ Below W.heap.size W w' := by
  have HC := Lib.hid h
  have c1 := h.c1
  have t1 := two_le hk
  have t2 := two_pos k
  have d1 : decide (n < 1) = false := decide_eq_false (by omega)
  have d2 : decide (two k < n) = false := decide_eq_false (by omega)
  have H1 := Lib.hid h1
  have H2 := Lib.hid h2
  clear h h1 h2
  go_enter Tryz.func125, Tryz.ntmps125
  go_wp2_with (first
    | (go_at_call 51; refine (slots_any k hk _).mono ?_; rintro e w3 ⟨rfl, hw⟩; have HB := Lib.hid (slots_below hw); have c36 := (HC.out.later HB.out).c36; clear hw)
    | (go_at_call 148; refine (next_yes cl n H1.out (by have := H2.out; omega) h3 h4 _).mono ?_; rintro e w4 ⟨rfl, rfl⟩))
  go_ret2
  exact ⟨rfl, HB.out⟩
theorem spublish_ok (h : Sg R W0 W p a k cur ids cl pub sn sc xs st) (hi : Int) (h1 : pub < hi) (h2 : hi ≤ cl) (hc : cur < xs.length) (h0 : 0 ≤ st) (hs : st < 4611686018427387904) :
    Calls Tryz.prog 133 #[.pointer (some ⟨p, 0, none⟩), .int .i64 hi] W fun e w' => e = .returned .nilIface ∧ Sg R W0 w' p a k cur ids cl hi sn sc (xs.set cur hi) (st + 1) := by
  have HS : Hid (∀ op : ByteArray, Calls Tryz.prog 158 #[.pointer (some ⟨p, 0, none⟩), .string op, .int .i64 hi] W fun e w' => e = .returned .nilIface ∧ Sg R W0 w' p a k cur ids cl hi sn sc (xs.set cur hi) (st + 1)) := Lib.hid fun op => by
    have c0 := h.c.c0
    have c2 := h.c.c2
    have HH := Lib.hid h
    clear h h1 h2
    go_enter Tryz.func158, Tryz.ntmps158
    go_wp2
    go_region_held3 (fun w' => w'.cell? ⟨p, 0, none⟩ = some (.pointer (some ⟨a, 0, none⟩)) ∧ w'.cell? ⟨p, 2, none⟩ = some (.int .i64 cur)) (first
      | exact ⟨by assumption, by assumption⟩
      | exact ⟨by go_simp, by go_simp⟩) (first
      | (go_at_call 167; refine (store_g (HH.out.keep (Below.drew (Below.refl _ _))) cur hi hc h0 hs).mono ?_; rintro e w3 ⟨rfl, hg⟩; have HG := Lib.hid hg; have j0 := hg.c.c0; have j2 := hg.c.c2; clear hg))
    have k37 := HG.out.c.c37
    have f37 := HG.out.f 37
    clear c0 c2 j0 j2
    go_wp2
    go_ret
    exact ⟨rfl, HG.out.published hi⟩
  have c36 := h.c.c36
  have c37 := h.c.c37
  have d1 : decide (hi ≤ pub) = false := decide_eq_false (by omega)
  have d2 : decide (cl < hi) = false := decide_eq_false (by omega)
  clear h h1 h2 hc h0 hs
  go_enter Tryz.func133, Tryz.ntmps133
  go_wp2_with (go_at_call 158; refine (HS.out _).mono ?_; rintro e w3 ⟨rfl, hg⟩; have HG := Lib.hid hg; clear hg)
  go_ret
  exact ⟨rfl, HG.out⟩
end
end Go.Proofs.YtdfcfdcekdmcmaaGreat
namespace Go.Proofs.YtdfcfdcekdmcmaaGreat
open Go.RowKit
set_option linter.unusedVariables false
theorem wpList_build6 {P : Program} {ops : Array Oper} {rest : List Oper} {o : Oper} {a : Act} {w : World} {Q : Exit → Act → World → Prop} (hg : o.guard = none) (t : TypeId) (i1 i2 i3 i4 i5 i6 : Nat) (x1 x2 x3 x4 x5 x6 : Operand) (ho : o.op = .build t #[(i1, x1), (i2, x2), (i3, x3), (i4, x4), (i5, x5), (i6, x6)]) (v1 v2 v3 v4 v5 v6 : Value) (h1 : a.eval x1 = v1) (h2 : a.eval x2 = v2) (h3 : a.eval x3 = v3) (h4 : a.eval x4 = v4) (h5 : a.eval x5 = v5) (h6 : a.eval x6 = v6) (cells : Array Value)
    (hb : P.built t [(i1, v1), (i2, v2), (i3, v3), (i4, v4), (i5, v5), (i6, v6)] = some cells) (h : wpList P ops Q rest (a.put o.dst (.agg cells)) w) : wpList P ops Q (o :: rest) a w := by
  subst h1 h2 h3 h4 h5 h6
  have e : P.built t ((#[(i1, x1), (i2, x2), (i3, x3), (i4, x4), (i5, x5), (i6, x6)] : Array (Nat × Operand)).map fun (i, x) => (i, a.eval x)).toList = some cells := by simpa using hb
  exact wpList_build hg t _ ho (by rw [e]; rfl) (by rw [e]; exact h)
set_option maxHeartbeats 1000000 in
set_option maxRecDepth 100000 in
theorem snew_ok {R : Rest} {W0 W : World} {a : Nat} {xs : List Int} {st : Int} (h : Mv R W0 W a xs st) (k : Nat) (hk : k ≤ 20) (hl : (xs.length : Int) < 2097152) :
    Calls Tryz.prog 122 #[.pointer (some ⟨a, 0, none⟩), .int .i64 (two k)] W fun e w' => ∃ p, e = .returned (.tuple #[.pointer (some ⟨p, 0, none⟩), .nilIface]) ∧ Sg R W0 w' p a k xs.length [] (-1) (-1) (-1) 0 (xs ++ [-1]) st := by
  have HM := Lib.hid h
  have HBU := Lib.hid (built_sg0 a k xs.length)
  have HQF := Lib.hid (sg0_f a k xs.length)
  have HA : Hid (∀ (R : Rest) w, Mv R W0 w a xs st → Calls Tryz.prog 34 #[.pointer (some ⟨a, 0, none⟩), .int .i64 (-1)] w fun e w' => e = .returned (.tuple #[.int .i64 xs.length, .nilIface]) ∧ Mv R W0 w' a (xs ++ [-1]) st) := fun R w h => alloc_mv (-1) h hl
  clear h
  generalize sg0 a k xs.length = cs at *
  go_enter Tryz.func122, Tryz.ntmps122
  go_wp2_with (first
    | (go_at_call 79; refine (of_yes k hk _).mono ?_; rintro e w1 ⟨rfl, hb⟩; have HM1 := Lib.hid ((HM.out.keep hb).boxNew #[.int .u8 k] 100); clear hb)
    | (go_at_call 34; refine (HA.out _ _ HM1.out).mono ?_; rintro e w2 ⟨rfl, hm⟩; have HM2 := Lib.hid hm; have cz := (obj_cell hm.boxIs 0); generalize w1.heap.size = sb at *; clear hm)
    | (refine wpList_build6 rfl 223 0 1 2 4 5 6 (.tmp 34) (.tmp 35) (.tmp 36) (.const (.int .i64 (-1))) (.const (.int .i64 (-1))) (.const (.int .i64 (-1))) rfl _ _ _ _ _ _ rfl rfl rfl rfl rfl rfl cs ?_ ?_; exact HBU.out))
  go_ret2
  exact ⟨_, rfl, cs, HQF.out, HM2.out.boxDrop.boxNew cs _⟩
structure TsF (ts : Array Value) (p : Nat) (bh last : Int) (rd : Bool) (ids : List Int) (seen : Nat) (least : Int) : Prop where
  size : ts.size = 41
  one : ts.all (·.oneCell') = true
  c0 : ts[0]? = some (.pointer (some ⟨p, 0, none⟩))
  c1 : ts[1]? = some (.int .i64 bh)
  c2 : ts[2]? = some (.int .i64 last)
  c3 : ts[3]? = some (.bool rd)
  sc : Sc (ts.extract 4 39) ids seen least
  c39 : ts[39]? = some (.bool false)
  c40 : ts[40]? = some (.bool false)
structure TsD (ts : Array Value) (last : Int) (got full : Bool) : Prop where
  size : ts.size = 41
  one : ts.all (·.oneCell') = true
  c0 : ts[0]? = some (.pointer none)
  c2 : ts[2]? = some (.int .i64 last)
  c39 : ts[39]? = some (.bool got)
  c40 : ts[40]? = some (.bool full)
theorem TsF.info {ts : Array Value} {p : Nat} {bh last least : Int} {rd : Bool} {ids : List Int} {seen : Nat} (h : TsF ts p bh last rd ids seen least) : (Tryz.prog.info? 60).map (·.size) = some ts.size := by
  rw [h.size]
  kernel_rfl
theorem TsD.info {ts : Array Value} {last : Int} {got full : Bool} (h : TsD ts last got full) : (Tryz.prog.info? 60).map (·.size) = some ts.size := by
  rw [h.size]
  kernel_rfl
section
variable {ts : Array Value}
theorem gdone_no {p : Nat} (c0 : ts[0]? = some (.pointer (some ⟨p, 0, none⟩))) (W : World) :
    Calls Tryz.prog 84 #[.agg ts] W fun e w' => e = .returned (.bool false) ∧ Below W.heap.size W w' := by
  go_enter Tryz.func84, Tryz.ntmps84
  go_wp2
  go_ret
  exact ⟨rfl, (Below.refl _ _).alloc (Nat.le_refl _) _⟩
theorem gdone_yes (c0 : ts[0]? = some (.pointer none)) (W : World) :
    Calls Tryz.prog 84 #[.agg ts] W fun e w' => e = .returned (.bool true) ∧ Below W.heap.size W w' := by
  go_enter Tryz.func84, Tryz.ntmps84
  go_wp2
  go_ret
  exact ⟨rfl, (Below.refl _ _).alloc (Nat.le_refl _) _⟩
theorem gfull {b : Bool} (c40 : ts[40]? = some (.bool b)) (W : World) :
    Calls Tryz.prog 88 #[.agg ts] W fun e w' => e = .returned (.bool b) ∧ Below W.heap.size W w' := by
  go_enter Tryz.func88, Tryz.ntmps88
  go_wp2
  go_ret
  exact ⟨rfl, (Below.refl _ _).alloc (Nat.le_refl _) _⟩
theorem glast_yes {y : Int} (c2 : ts[2]? = some (.int .i64 y)) (c39 : ts[39]? = some (.bool true)) (W : World) :
    Calls Tryz.prog 90 #[.agg ts] W fun e w' => e = .returned (.int .i64 y) ∧ Below W.heap.size W w' := by
  go_enter Tryz.func90, Tryz.ntmps90
  go_wp2
  go_ret
  exact ⟨rfl, (Below.refl _ _).alloc (Nat.le_refl _) _⟩
theorem glast_no (c39 : ts[39]? = some (.bool false)) (W : World) :
    Calls Tryz.prog 90 #[.agg ts] W fun e w' => e = .returned (.int .i64 (-1)) ∧ Below W.heap.size W w' := by
  go_enter Tryz.func90, Tryz.ntmps90
  go_wp2
  go_ret
  exact ⟨rfl, (Below.refl _ _).alloc (Nat.le_refl _) _⟩
end
theorem ts_one {l1 l2 : List Value} {cs : Array Value} (h1 : l1.all (·.oneCell') = true) (h2 : l2.all (·.oneCell') = true) (hc : cs.all (·.oneCell') = true) : ((l1 ++ cs.toList ++ l2).toArray).all (·.oneCell') = true := by
  rw [Array.all_eq_true_iff_forall_mem] at hc ⊢
  intro y hy
  simp only [List.mem_toArray, List.mem_append] at hy
  rcases hy with (hy | hy) | hy
  · exact List.all_eq_true.1 h1 y hy
  · exact hc y (by simpa using hy)
  · exact List.all_eq_true.1 h2 y hy
def tsA (u : Value) (bh last : Int) (rd : Bool) (cs : Array Value) (got full : Bool) : Array Value := (([u, .int .i64 bh, .int .i64 last, .bool rd] : List Value) ++ cs.toList ++ ([.bool got, .bool full] : List Value)).toArray
section
variable {u : Value} {bh last : Int} {rd got full : Bool} {cs : Array Value}
theorem tsA_size (h : cs.size = 35) : (tsA u bh last rd cs got full).size = 41 := by simp [tsA]; omega
theorem tsA_hi (h : cs.size = 35) (j : Nat) : (tsA u bh last rd cs got full)[39 + j]? = ([.bool got, .bool full] : List Value)[j]? := by
  simp only [tsA, List.getElem?_toArray]
  rw [List.getElem?_append_right (by simp; omega)]
  congr 1
  simp
  omega
theorem tsA_mid (h : cs.size = 35) : (tsA u bh last rd cs got full).extract 4 39 = cs := by
  apply Array.ext_getElem?
  intro j
  simp only [Array.getElem?_extract, tsA, List.getElem?_toArray, List.size_toArray, List.length_append, List.length_cons, List.length_nil, Array.length_toList, h]
  by_cases hj : j < 35
  · rw [if_pos (by omega), List.getElem?_append_left (by simp; omega), List.getElem?_append_right (by simp)]
    simp
  · rw [if_neg (by omega), Array.getElem?_eq_none (by omega)]
theorem tsA_one (hu : u.oneCell' = true) (hc : cs.all (·.oneCell') = true) : (tsA u bh last rd cs got full).all (·.oneCell') = true :=
  ts_one (by simp only [List.all_cons, hu, List.all_nil, Bool.and_true, Bool.true_and]; rfl) rfl hc
theorem tsA_f {p : Nat} {ids : List Int} {seen : Nat} {least : Int} (hc : Sc cs ids seen least) : TsF (tsA (.pointer (some ⟨p, 0, none⟩)) bh last rd cs false false) p bh last rd ids seen least :=
  ⟨tsA_size hc.size, tsA_one rfl hc.one, rfl, rfl, rfl, rfl, by rw [tsA_mid hc.size]; exact hc, tsA_hi hc.size 0, tsA_hi hc.size 1⟩
theorem tsA_d {ids : List Int} {seen : Nat} {least : Int} (hc : Sc cs ids seen least) : TsD (tsA (.pointer none) bh last rd cs got full) last got full :=
  ⟨tsA_size hc.size, tsA_one rfl hc.one, rfl, rfl, tsA_hi hc.size 0, tsA_hi hc.size 1⟩
end
theorem built_tsz : Tryz.prog.built 60 [] = some (tsA (.pointer none) 0 0 false (scC [] 0 0) false false) := by kernel_rfl
theorem built_tsf : Tryz.prog.built 60 [(6, .bool true)] = some (tsA (.pointer none) 0 0 false (scC [] 0 0) false true) := by kernel_rfl
theorem built_tsg (x : Int) : Tryz.prog.built 60 [(2, .int .i64 x), (5, .bool true)] = some (tsA (.pointer none) 0 x false (scC [] 0 0) true false) := by kernel_rfl
theorem built_tsn (p : Nat) (x y : Int) : Tryz.prog.built 60 [(0, .pointer (some ⟨p, 0, none⟩)), (1, .int .i64 x), (2, .int .i64 y)] = some (tsA (.pointer (some ⟨p, 0, none⟩)) x y false (scC [] 0 0) false false) := by kernel_rfl
theorem sc_nil : Sc (scC [] 0 0) [] 0 0 := sc_of (ids := []) (by simp) 0 0
end Go.Proofs.YtdfcfdcekdmcmaaGreat
namespace Go.Proofs.YtdfcfdcekdmcmaaGreat
open Go.RowKit
set_option linter.unusedVariables false
theorem run_alloc_ts (w : World) : (Instr.alloc 60 true (.tuple #[])).run Tryz.prog w = .ok (.pointer (some ⟨w.heap.size, 0, none⟩)) (w.alloc (.cells (tsA (.pointer none) 0 0 false (scC [] 0 0) false false) 60)) := by kernel_rfl
theorem wpList_alloc_ts {ops : Array Oper} {rest : List Oper} {o : Oper} {a : Act} {w : World} {Q : Exit → Act → World → Prop} (hg : o.guard = none) (ho : o.op = .alloc 60)
    (h : ∀ zs : Array Value, zs.size = 41 → wpList Tryz.prog ops Q rest (a.put o.dst (.pointer (some ⟨w.heap.size, 0, none⟩))) (w.alloc (.cells zs 60))) : wpList Tryz.prog ops Q (o :: rest) a w := by
  refine Great.wpList_runTo hg o.dst rfl _ _ ?_ (h (tsA (.pointer none) 0 0 false (scC [] 0 0) false false) (tsA_size sc_nil.size))
  unfold execOp
  simp only [ho, Sem.run_bind, run_alloc_ts, Result.andThen_ok, Sem.run_pure]
structure G2 (W w : World) (b : Nat) (ts zs : Array Value) : Prop where
  t : w.heap[b]? = some (.cells ts 60 (0, 0))
  r : w.heap[b + 1]? = some (.cells zs 60 (0, 0))
  z : zs.size = 41
  low : Below W.heap.size W w
  le : W.heap.size ≤ b
section
variable {W w w' : World} {b : Nat} {ts zs : Array Value}
theorem G2.keep (h : G2 W w b ts zs) (hb : Below w.heap.size w w') : G2 W w' b ts zs := ⟨(hb.block _ (lt_of_block h.t)).trans h.t, (hb.block _ (lt_of_block h.r)).trans h.r, h.z, bthen h.low hb, h.le⟩
theorem G2.start (W : World) (ts zs : Array Value) (hz : zs.size = 41) : G2 W ((W.alloc (.cells ts 60)).alloc (.cells zs 60)) W.heap.size ts zs := by
  refine ⟨obj_old _ (obj_new _ _), ?_, hz, balloc (balloc (Below.refl _ _) _) _, Nat.le_refl _⟩
  have := obj_new (W.alloc (.cells ts 60)) (.cells zs 60)
  simpa using this
theorem G2.cell (h : G2 W w b ts zs) (i : Nat) : w.cell? ⟨b, i, none⟩ = ts[i]? := obj_cell h.t i
theorem G2.out (h : G2 W w b ts zs) (cs : Array Value) : (w.setRow (b + 1) cs).heap[b + 1]? = some (.cells cs 60 (0, 0)) ∧ Below W.heap.size W (w.setRow (b + 1) cs) :=
  ⟨setRow_heap _ _ _ _ _ _ h.r, bsetRow h.low (by have := h.le; omega) cs⟩
end
section
variable {R : Rest} {W0 W w : World} {p a k cur : Nat} {ids xs l : List Int} {cl pub sn sc st last least : Int} {ts : Array Value} {rd : Bool} {seen : Nat}
set_option maxHeartbeats 1000000 in
set_option maxRecDepth 100000 in
theorem gend_full {bh : Int} (h : TsF ts p bh last rd l seen least) (hbh : cl = bh) (hc : SgC W p a k cur cl pub sn sc) (hk : k ≤ 20) (hl : ¬ last - two k ≤ sn) (h0 : -4611686018427387905 ≤ last) (h1 : last ≤ 4611686018427387904) :
    Calls Tryz.prog 127 #[.agg ts] W fun e w' => ∃ ts', e = .returned (.agg ts') ∧ TsD ts' 0 false true ∧ Below W.heap.size W w' := by
  have hD : TsD (tsA (.pointer none) 0 0 false (scC [] 0 0) false true) 0 false true := tsA_d sc_nil
  have hbu := built_tsf
  generalize tsA (.pointer none) 0 0 false (scC [] 0 0) false true = cs at *
  have HD := Lib.hid hD
  have HBU := Lib.hid hbu
  have HI := Lib.hid hD.info
  have HT := Lib.hid h
  have HC := Lib.hid hc
  have dl : decide (last - two k ≤ sn) = false := decide_eq_false hl
  have db : (cl != bh) = false := by simpa using hbh
  clear h hc hl hD hbu hbh
  have e1 : (W.alloc (.cells ts 60)).heap.size = W.heap.size + 1 := by simp
  go_enter Tryz.func127, Tryz.ntmps127
  go_wp2_with (refine wpList_alloc_ts rfl rfl ?_; intro zs hz; have H1 := Lib.hid (G2.start W ts zs hz); rw [e1]; generalize (W.alloc (.cells ts 60)).alloc (.cells zs 60) = w1 at *)
  clear e1
  simp only [Act.put, List.setIfInBounds_toArray, List.set_cons_zero, List.set_cons_succ]
  have n0 : ∀ x : Later w1, x.to.cell? ⟨W.heap.size, 0, none⟩ = some (.pointer (some ⟨p, 0, none⟩)) := fun x => ((H1.out.keep x.below).cell 0).trans HT.out.c0
  have n1 : ∀ x : Later w1, x.to.cell? ⟨W.heap.size, 1, none⟩ = some (.int .i64 bh) := fun x => ((H1.out.keep x.below).cell 1).trans HT.out.c1
  have n2 : ∀ x : Later w1, x.to.cell? ⟨W.heap.size, 2, none⟩ = some (.int .i64 last) := fun x => ((H1.out.keep x.below).cell 2).trans HT.out.c2
  have m36 : ∀ x : Later w1, x.to.cell? ⟨p, 36, none⟩ = some (.int .i64 cl) := fun x => (HC.out.later (bthen H1.out.low x.below)).c36
  have HEN : Hid (∀ x : Later w1, Calls Tryz.prog 126 #[.pointer (some ⟨p, 0, none⟩), .int .i64 last] x.to fun e w'' => e = .returned (.bool false) ∧ ∃ y : Later w1, w'' = y.to) := fun x => (senough (HC.out.later (bthen H1.out.low x.below)) hk last h0 h1).mono fun e w h => ⟨by rw [h.1, dl], ⟨w, bthen x.below h.2⟩, rfl⟩
  clear dl h0 h1
  refine wp_region_later (by kernel_rfl) (by kernel_rfl) ?_
  repeat (go_big_quiet_step ((go_at_call 126; exact HEN.out _)))
  refine wpQuiet_nil ?_
  intro w2 hw'
  obtain ⟨⟨w2', hb2⟩, hw2⟩ := hw'
  obtain rfl : w2 = w2' := hw2
  have H2 := Lib.hid (H1.out.keep hb2)
  clear n0 n1 n2 m36 hb2
  go_wp2_with (first
    | (refine wpList_build1 rfl 60 6 (.const (.bool true)) rfl _ rfl cs ?_ ?_; exact HBU.out)
    | (refine wpList_store_row rfl 60 (.tmp 2) (.tmp 19) rfl (W.heap.size + 1) cs rfl rfl 60 _ H2.out.r HI.out (by rw [HD.out.size]; exact H2.out.z) HD.out.one ?_))
  exact bodyPost_ret (results_row (p := 2) (by kernel_rfl) _ _ (W.heap.size + 1) 60 cs _ rfl (H2.out.out cs).1 Tryz.underlying60 rfl HI.out) rfl ⟨cs, rfl, HD.out, (H2.out.out cs).2⟩
end
section
variable {R : Rest} {W0 W w : World} {a p q B : Nat} {xs : List Int} {st : Int} {x y : Array Value} {U V : TypeId}
theorem Mv.swap2 (h : Mv ((R.box B p x U).box B q y V) W0 W a xs st) : Mv ((R.box B q y V).box B p x U) W0 W a xs st := by
  obtain ⟨⟨i1, i2, i3, i4⟩, i5, i6, i7⟩ := h.inv
  refine h.less (fun g hg => ?_) ⟨⟨i1, i5, fun e => i6 (.inl e), i7⟩, i2, ?_, i4⟩
  · rcases hg with (e | e) | e
    · exact .inl (.inl e)
    · exact .inr e
    · exact .inl (.inr e)
  · rintro (e | e)
    · exact i3 e
    · exact i6 (.inr e.symm)
end
section
variable {R : Rest} {W0 W w : World} {p a k cur g : Nat} {ids xs : List Int} {cl pub sn sc st : Int} {zs : Array Value} {T : TypeId}
theorem Sg.boxNew (h : Sg R W0 W p a k cur ids cl pub sn sc xs st) (bx : Array Value) (U : TypeId) : Sg (R.box W0.heap.size W.heap.size bx U) W0 (W.alloc (.cells bx U)) p a k cur ids cl pub sn sc xs st := by
  obtain ⟨cs, h1, h2⟩ := h
  exact ⟨cs, h1, (h2.boxNew bx U).swap2⟩
theorem Sg.boxIs (h : Sg (R.box W0.heap.size g zs T) W0 W p a k cur ids cl pub sn sc xs st) : W.heap[g]? = some (.cells zs T (0, 0)) := h.inv.2.1
theorem Sg.boxDrop (h : Sg (R.box W0.heap.size g zs T) W0 W p a k cur ids cl pub sn sc xs st) : Sg R W0 W p a k cur ids cl pub sn sc xs st := by
  obtain ⟨cs, h1, h2⟩ := h
  exact ⟨cs, h1, h2.swap2.boxDrop⟩
theorem Sg.boxRow (h : Sg (R.box W0.heap.size g zs T) W0 W p a k cur ids cl pub sn sc xs st) (bx : Array Value) : Sg (R.box W0.heap.size g bx T) W0 (W.setRow g bx) p a k cur ids cl pub sn sc xs st := by
  obtain ⟨cs, h1, h2⟩ := h
  exact ⟨cs, h1, (h2.swap2.boxRow bx).swap2⟩
theorem Sg.boxSet (h : Sg (R.box W0.heap.size g zs T) W0 W p a k cur ids cl pub sn sc xs st) (i : Nat) (u : Value) : Sg (R.box W0.heap.size g (zs.setIfInBounds i u) T) W0 (W.setCell ⟨g, i, none⟩ u) p a k cur ids cl pub sn sc xs st := by
  obtain ⟨cs, h1, h2⟩ := h
  exact ⟨cs, h1, (h2.swap2.boxSet i u).swap2⟩
theorem Sg.boxIn (h : Sg (R.box W0.heap.size g zs T) W0 W p a k cur ids cl pub sn sc xs st) (i : Nat) : W.cell? ⟨g, i, none⟩ = zs[i]? := obj_cell h.boxIs i
end
section
variable {R : Rest} {W0 W w : World} {p a k cur : Nat} {ids xs l : List Int} {cl pub sn sc st last least : Int} {ts : Array Value} {rd : Bool} {seen : Nat}
set_option maxHeartbeats 1000000 in
set_option maxRecDepth 100000 in
theorem gend_got {bh : Int} (h : TsF ts p bh last rd l seen least) (hbh : cl = bh) (hm : Sg R W0 W p a k cur ids cl pub sn sc xs st) (hk : k ≤ 20) (hl : last - two k ≤ sn) (h0 : -4611686018427387905 ≤ last) (h1 : last ≤ 4611686018427387904) :
    Calls Tryz.prog 127 #[.agg ts] W fun e w' => ∃ ts', e = .returned (.agg ts') ∧ TsD ts' last true false ∧ Sg R W0 w' p a k cur ids last pub sn sc xs st := by
  have hD : TsD (tsA (.pointer none) 0 last false (scC [] 0 0) true false) last true false := tsA_d sc_nil
  have hbu := built_tsg last
  generalize tsA (.pointer none) 0 last false (scC [] 0 0) true false = cs at *
  have HD := Lib.hid hD
  have HBU := Lib.hid hbu
  have HI := Lib.hid hD.info
  have HT := Lib.hid h
  have HM := Lib.hid hm
  have dl : decide (last - two k ≤ sn) = true := decide_eq_true hl
  have db : (cl != bh) = false := by simpa using hbh
  clear h hm hl hD hbu hbh
  have e1 : (W.alloc (.cells ts 60)).heap.size = W.heap.size + 1 := by simp
  go_enter Tryz.func127, Tryz.ntmps127
  go_wp2_with (refine wpList_alloc_ts rfl rfl ?_; intro zs hz; have HZ := Lib.hid hz; have hg := (HM.out.boxNew ts 60).boxNew zs 60; rw [e1] at hg; have H1 := Lib.hid hg; rw [e1]; generalize (W.alloc (.cells ts 60)).alloc (.cells zs 60) = w1 at *; generalize W.heap.size = b at *; clear hg hz)
  clear e1
  simp only [Act.put, List.setIfInBounds_toArray, List.set_cons_zero, List.set_cons_succ]
  have n0 : ∀ x : Later w1, x.to.cell? ⟨b, 0, none⟩ = some (.pointer (some ⟨p, 0, none⟩)) := fun x => ((H1.out.keep x.below).boxDrop.boxIn 0).trans HT.out.c0
  have n1 : ∀ x : Later w1, x.to.cell? ⟨b, 1, none⟩ = some (.int .i64 bh) := fun x => ((H1.out.keep x.below).boxDrop.boxIn 1).trans HT.out.c1
  have n2 : ∀ x : Later w1, x.to.cell? ⟨b, 2, none⟩ = some (.int .i64 last) := fun x => ((H1.out.keep x.below).boxDrop.boxIn 2).trans HT.out.c2
  have m36 : ∀ x : Later w1, x.to.cell? ⟨p, 36, none⟩ = some (.int .i64 cl) := fun x => (H1.out.keep x.below).c.c36
  have HEN : Hid (∀ x : Later w1, Calls Tryz.prog 126 #[.pointer (some ⟨p, 0, none⟩), .int .i64 last] x.to fun e w'' => e = .returned (.bool true) ∧ ∃ y : Later w1, w'' = y.to) := fun x => (senough (H1.out.keep x.below).c hk last h0 h1).mono fun e w h => ⟨by rw [h.1, dl], ⟨w, bthen x.below h.2⟩, rfl⟩
  clear dl h0 h1
  refine wp_region_later (by kernel_rfl) (by kernel_rfl) ?_
  repeat (go_big_quiet_step ((go_at_call 126; exact HEN.out _)))
  refine wpQuiet_nil ?_
  intro w2 hw'
  obtain ⟨⟨w2', hb2⟩, hw2⟩ := hw'
  obtain rfl : w2 = w2' := hw2
  have H2 := Lib.hid (H1.out.keep hb2)
  clear n0 n1 n2 m36 hb2
  have c0 := (H2.out.boxDrop.boxIn 0).trans HT.out.c0
  have c2 := (H2.out.boxDrop.boxIn 2).trans HT.out.c2
  have c36 := H2.out.c.c36
  have f36 := H2.out.f 36
  have H3 := Lib.hid (H2.out.claimed last)
  have k2 := (H3.out.boxDrop.boxIn 2).trans HT.out.c2
  go_wp2_with (first
    | (refine wpList_build2 rfl 60 2 5 (.tmp 27) (.const (.bool true)) rfl _ _ rfl rfl cs ?_ ?_; exact HBU.out)
    | (refine wpList_store_row rfl 60 (.tmp 2) (.tmp 28) rfl (b + 1) cs rfl rfl 60 _ H3.out.boxIs HI.out (by rw [HD.out.size]; exact HZ.out) HD.out.one ?_))
  exact bodyPost_ret (results_row (p := 2) (by kernel_rfl) _ _ (b + 1) 60 cs _ rfl (H3.out.boxRow cs).boxIs Tryz.underlying60 rfl HI.out) rfl ⟨cs, rfl, HD.out, (H3.out.boxRow cs).boxDrop.boxDrop⟩
end
end Go.Proofs.YtdfcfdcekdmcmaaGreat
namespace Go.Proofs.YtdfcfdcekdmcmaaGreat
open Go.RowKit
set_option linter.unusedVariables false
section
variable {R : Rest} {W0 W w : World} {p a k cur : Nat} {ids xs l : List Int} {cl pub sn sc st last least : Int} {ts : Array Value} {rd : Bool} {seen : Nat}
set_option maxHeartbeats 1000000 in
set_option maxRecDepth 100000 in
theorem gtry_got (h : Sg R W0 W p a k cur ids cl pub sn sc xs st) (hk : k ≤ 20) (n : Int) (h1 : 1 ≤ n) (h2 : n ≤ two k) (h3 : -1 ≤ cl) (h4 : cl ≤ 4611686018427387904 - n) (hl : cl + n - two k ≤ sn) :
    Calls Tryz.prog 82 #[.pointer (some ⟨p, 0, none⟩), .int .i64 n] W fun e w' => ∃ ts', e = .returned (.tuple #[.agg ts', .nilIface]) ∧ TsD ts' (cl + n) true false ∧ Sg R W0 w' p a k cur ids (cl + n) pub sn sc xs st := by
  have t1 := two_le hk
  have t2 := two_pos k
  have dl : decide (cl + n - two k ≤ sn) = true := decide_eq_true hl
  have HM := Lib.hid h
  have HNX : Hid (∀ (op : ByteArray) (w : World), SgC w p a k cur cl pub sn sc → Calls Tryz.prog 125 #[.pointer (some ⟨p, 0, none⟩), .string op, .int .i64 n] w fun e w' => e = .returned (.tuple #[.int .i64 (cl + n), .nilIface]) ∧ Below w.heap.size w w') := Lib.hid fun op w hw => snext hw hk op n h1 h2 h3 h4
  have HEN : Hid (∀ w : World, SgC w p a k cur cl pub sn sc → Calls Tryz.prog 126 #[.pointer (some ⟨p, 0, none⟩), .int .i64 (cl + n)] w fun e w' => e = .returned (.bool true) ∧ Below w.heap.size w w') := Lib.hid fun w hw => (senough hw hk (cl + n) (by omega) (by omega)).mono fun e w h => ⟨by rw [h.1, dl], h.2⟩
  have HT : TsF (tsA (.pointer (some ⟨p, 0, none⟩)) cl (cl + n) false (scC [] 0 0) false false) p cl (cl + n) false [] 0 0 := tsA_f sc_nil
  have hbu := built_tsn p cl (cl + n)
  generalize tsA (.pointer (some ⟨p, 0, none⟩)) cl (cl + n) false (scC [] 0 0) false false = ts at *
  have HTF := Lib.hid HT
  have HI := Lib.hid HT.info
  have HBU := Lib.hid hbu
  have HEND : Hid (∀ (R : Rest) (w : World), Sg R W0 w p a k cur ids cl pub sn sc xs st → Calls Tryz.prog 127 #[.agg ts] w fun e w' => ∃ ts', e = .returned (.agg ts') ∧ TsD ts' (cl + n) true false ∧ Sg R W0 w' p a k cur ids (cl + n) pub sn sc xs st) := Lib.hid fun R w hm => gend_got HTF.out rfl hm hk hl (by omega) (by omega)
  clear h hl dl HT hbu h1 h2 h3 h4
  go_enter Tryz.func82, Tryz.ntmps82
  go_wp2_with (first
    | (refine wpList_alloc_ts rfl rfl ?_; intro zs2 hz2; have HZ2 := Lib.hid hz2; have H3 := Lib.hid (H2.out.boxNew zs2 60); have H4 := Lib.hid (H3.out.boxRow ts); generalize w2.alloc (.cells zs2 60) = w3 at *; generalize w2.heap.size = g2 at *; clear hz2)
    | (refine wpList_alloc_ts rfl rfl ?_; intro zs hz; have HZ := Lib.hid hz; have H1 := Lib.hid (HM.out.boxNew zs 60); generalize W.alloc (.cells zs 60) = w1 at *; generalize W.heap.size = b at *; clear hz)
    | (go_at_call 125; refine (HNX.out _ _ H1.out.c).mono ?_; rintro e w2 ⟨rfl, hb⟩; have H2 := Lib.hid (H1.out.keep hb); have c36 := H2.out.c.c36; clear hb)
    | (refine wpList_build3 rfl 60 0 1 2 (.tmp 19) (.tmp 23) (.tmp 24) rfl _ _ _ rfl rfl rfl ts ?_ ?_; exact HBU.out)
    | (refine wpList_store_row rfl 60 (.tmp 8) (.tmp 25) rfl g2 ts rfl rfl 60 _ H3.out.boxIs HI.out (by rw [HTF.out.size]; exact HZ2.out) HTF.out.one ?_)
    | (go_at_call 126; refine (HEN.out _ H4.out.c).mono ?_; rintro e w5 ⟨rfl, hb⟩; have H5 := Lib.hid (H4.out.keep hb); have c39 := H5.out.c.c39; have f39 := H5.out.f 39; clear hb)
    | (refine wpList_load_row rfl 60 (.tmp 8) rfl g2 rfl 60 ts (0, 0) _ H5.out.boxIs Tryz.underlying60 rfl HI.out ?_)
    | (go_at_call 127; refine (HEND.out _ _ H5.out).mono ?_; rintro e w6 ⟨ts', rfl, hd, hg⟩; have HD := Lib.hid hd; have HDI := Lib.hid hd.info; have H6 := Lib.hid hg.boxDrop; clear hd hg)
    | (refine wpList_store_row rfl 60 (.tmp 4) (.tmp 30) rfl b ts' rfl rfl 60 _ H6.out.boxIs HDI.out (by rw [HD.out.size]; exact HZ.out) HD.out.one ?_))
  exact bodyPost_ret (results_row_fault (p := 4) (u := 5) (by kernel_rfl) _ _ b 60 ts' (0, 0) _ _ rfl rfl (H6.out.boxRow ts').boxIs Tryz.underlying60 rfl HDI.out) rfl ⟨ts', rfl, HD.out, (H6.out.boxRow ts').boxDrop⟩
set_option maxHeartbeats 1000000 in
set_option maxRecDepth 100000 in
theorem gtry_scan (h : Sg R W0 W p a k cur ids cl pub sn sc xs st) (hk : k ≤ 20) (n : Int) (h1 : 1 ≤ n) (h2 : n ≤ two k) (h3 : -1 ≤ cl) (h4 : cl ≤ 4611686018427387904 - n) (hl : ¬ cl + n - two k ≤ sn) (hs : 0 ≤ sc) (hs2 : sc < 4611686018427387904) :
    Calls Tryz.prog 82 #[.pointer (some ⟨p, 0, none⟩), .int .i64 n] W fun e w' => ∃ ts', e = .returned (.tuple #[.agg ts', .nilIface]) ∧ TsF ts' p cl (cl + n) false [] 0 0 ∧ Sg R W0 w' p a k cur ids cl pub sn (sc + 1) xs st := by
  have t1 := two_le hk
  have t2 := two_pos k
  have dl : decide (cl + n - two k ≤ sn) = false := decide_eq_false hl
  have HM := Lib.hid h
  have HNX : Hid (∀ (op : ByteArray) (w : World), SgC w p a k cur cl pub sn sc → Calls Tryz.prog 125 #[.pointer (some ⟨p, 0, none⟩), .string op, .int .i64 n] w fun e w' => e = .returned (.tuple #[.int .i64 (cl + n), .nilIface]) ∧ Below w.heap.size w w') := Lib.hid fun op w hw => snext hw hk op n h1 h2 h3 h4
  have HEN : Hid (∀ w : World, SgC w p a k cur cl pub sn sc → Calls Tryz.prog 126 #[.pointer (some ⟨p, 0, none⟩), .int .i64 (cl + n)] w fun e w' => e = .returned (.bool false) ∧ Below w.heap.size w w') := Lib.hid fun w hw => (senough hw hk (cl + n) (by omega) (by omega)).mono fun e w h => ⟨by rw [h.1, dl], h.2⟩
  have HT : TsF (tsA (.pointer (some ⟨p, 0, none⟩)) cl (cl + n) false (scC [] 0 0) false false) p cl (cl + n) false [] 0 0 := tsA_f sc_nil
  have hbu := built_tsn p cl (cl + n)
  generalize tsA (.pointer (some ⟨p, 0, none⟩)) cl (cl + n) false (scC [] 0 0) false false = ts at *
  have HTF := Lib.hid HT
  have HI := Lib.hid HT.info
  have HBU := Lib.hid hbu
  clear h hl dl HT hbu h1 h2 h3 h4
  go_enter Tryz.func82, Tryz.ntmps82
  go_wp2_with (first
    | (refine wpList_alloc_ts rfl rfl ?_; intro zs2 hz2; have HZ2 := Lib.hid hz2; have H3 := Lib.hid (H2.out.boxNew zs2 60); have H4 := Lib.hid (H3.out.boxRow ts); generalize w2.alloc (.cells zs2 60) = w3 at *; generalize w2.heap.size = g2 at *; clear hz2)
    | (refine wpList_alloc_ts rfl rfl ?_; intro zs hz; have HZ := Lib.hid hz; have H1 := Lib.hid (HM.out.boxNew zs 60); generalize W.alloc (.cells zs 60) = w1 at *; generalize W.heap.size = b at *; clear hz)
    | (go_at_call 125; refine (HNX.out _ _ H1.out.c).mono ?_; rintro e w2 ⟨rfl, hb⟩; have H2 := Lib.hid (H1.out.keep hb); have c36 := H2.out.c.c36; clear hb)
    | (refine wpList_build3 rfl 60 0 1 2 (.tmp 19) (.tmp 23) (.tmp 24) rfl _ _ _ rfl rfl rfl ts ?_ ?_; exact HBU.out)
    | (refine wpList_store_row rfl 60 (.tmp 8) (.tmp 25) rfl g2 ts rfl rfl 60 _ H3.out.boxIs HI.out (by rw [HTF.out.size]; exact HZ2.out) HTF.out.one ?_)
    | (go_at_call 126; refine (HEN.out _ H4.out.c).mono ?_; rintro e w5 ⟨rfl, hb⟩; have H5 := Lib.hid (H4.out.keep hb); have c39 := H5.out.c.c39; have f39 := H5.out.f 39; clear hb)
    | (refine wpList_load_row rfl 60 (.tmp 8) rfl g2 rfl 60 ts (0, 0) _ (H5.out.scans (sc + 1)).boxIs Tryz.underlying60 rfl HI.out ?_)
    | (refine wpList_store_row rfl 60 (.tmp 4) (.tmp 38) rfl b ts rfl rfl 60 _ (H5.out.scans (sc + 1)).boxDrop.boxIs HI.out (by rw [HTF.out.size]; exact HZ.out) HTF.out.one ?_))
  exact bodyPost_ret (results_row_fault (p := 4) (u := 5) (by kernel_rfl) _ _ b 60 ts (0, 0) _ _ rfl rfl ((H5.out.scans (sc + 1)).boxDrop.boxRow ts).boxIs Tryz.underlying60 rfl HI.out) rfl ⟨ts, rfl, HTF.out, ((H5.out.scans (sc + 1)).boxDrop.boxRow ts).boxDrop⟩
end
end Go.Proofs.YtdfcfdcekdmcmaaGreat
