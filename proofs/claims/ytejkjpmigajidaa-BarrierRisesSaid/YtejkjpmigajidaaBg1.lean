/-
  What the statements about barriers begin with: an arena beside what was there, a buffer's cells behind others, what is left of what was shown. No condition but those that each theorem names.
  What the statements about barriers begin with: a plan without a buffer. Condition: the input is read as data.
  What the statements about barriers begin with: what is no plan. Condition: the input is read as data.
  What the statements about barriers begin with: a plan with a buffer. Condition: the input is read as data.
-/
import Derived.Test.YtejkjpmigajidaaBn1
import Derived.Test.YtejkjpmigajidaaOpsPl
import Derived.Test.YtejkjpmigajidaaAP0
import Derived.Test.YtejkjpmigajidaaLst
namespace Go.Proofs.Ytejkjpmigajidaa
open Go.RowKit
set_option linter.unusedVariables false

/-- An arena that was made behind another world, in which a block was new. -/
theorem Mv.older {W W1 w : World} {b pb : Nat} {xs : List Int} {st : Int} {cs : Array Value} {T : TypeId} (h : Mv R0 W1 w b xs st) (hb : Below W.heap.size W W1) (hp : W1.heap[pb]? = some (.cells cs T (0, 0))) (hle : W.heap.size ≤ pb) : Mv (R0.box W.heap.size pb cs T) W w b xs st := by
  obtain ⟨v, h1, h3, h4, h5, h6⟩ := h
  have hs := hb.size
  have hlt := lt_of_block hp
  have hlw := h3.size
  refine ⟨v, h1, bthen hb h3, by omega, fun g hg => by have := h5 g hg; omega, ?_, trivial, (h3.block _ hlt).trans hp, id, hle⟩
  rintro k (hk | rfl)
  · exact hk.elim
  · refine ⟨by omega, by omega, fun e => ?_⟩
    have := h5 k e
    omega
theorem store_mv {R : Rest} {W0 W : World} {b : Nat} {xs : List Int} {st : Int} (h : Mv R W0 W b xs st) (i : Nat) (y : Int) (hi : i < xs.length) (h0 : 0 ≤ st) (h1 : st < 4611686018427387904) :
    Calls Try.prog 31 #[.pointer (some ⟨b, 0, none⟩), .int .i64 i, .int .i64 y] W fun e w' => e = .returned .nilIface ∧ Mv R W0 w' b (xs.set i y) (st + 1) := by
  obtain ⟨v, ha, h3, h4, h5, h6⟩ := h
  exact (store_some i y W b v xs st xs[i] ha (List.getElem?_eq_getElem hi) h0 h1).mono fun _ _ ⟨he, hs⟩ => ⟨he, Mv.step ha h3 h4 h5 h6 hs⟩
/-- A buffer's cells stand behind others, and have what was shown. -/
def Bgx (pre : List Int) (k : Nat) (ss xs : List Int) : Prop :=
  (∀ (s : Int) (i : Nat), s % two k = i → xs[pre.length + i]? = some (cellOf (two k) (lastS ss (two k) s))) ∧ (∀ i, i < pre.length → xs[i]? = pre[i]?) ∧ (xs.length : Int) = pre.length + two k
theorem Bgx.start (pre : List Int) (k n : Nat) (hn : (n : Int) = two k) : Bgx pre k [] (pre ++ List.replicate n (-1)) := by
  refine ⟨fun s i hi => ?_, fun i hi => ?_, by simp; omega⟩
  · have h0 := two_pos k
    have h2 := Int.emod_lt_of_pos s h0
    rw [List.getElem?_append_right (by omega), List.getElem?_replicate, if_pos (by omega)]
    rfl
  · rw [List.getElem?_append_left hi]
theorem Bgx.show {pre : List Int} {k : Nat} {ss xs : List Int} (h : Bgx pre k ss xs) (s : Int) : Bgx pre k (ss ++ [s]) (showN xs pre.length k s 1) := by
  obtain ⟨h1, h2, h3⟩ := h
  obtain ⟨i, hi, hil⟩ := mod_nat k s
  have e : showN xs pre.length k s 1 = xs.set (pre.length + i) (s / two k) := by
    show xs.set (pre.length + ((s + ((0 : Nat) : Int)) % two k).toNat) ((s + ((0 : Nat) : Int)) / two k) = _
    rw [show s + ((0 : Nat) : Int) = s by omega, hi]
    rfl
  rw [e]
  refine ⟨fun t j hj => ?_, fun j hj => ?_, by rw [List.length_set]; exact h3⟩
  · rw [lastS_snoc]
    by_cases e : i = j
    · subst e
      rw [if_pos (by omega), List.getElem?_set_self (by omega)]
      rfl
    · rw [if_neg (by omega), List.getElem?_set_ne (by omega)]
      exact h1 t j hj
  · rw [List.getElem?_set_ne (by omega)]
    exact h2 j hj
/-- What the code asks of the cells is what the document asks of what was shown. -/
theorem Bgx.eq {pre : List Int} {k : Nat} {ss xs ys : List Int} (h : Bgx pre k ss xs) (hy : ∀ i, i < xs.length → ys[i]? = xs[i]?) (s : Int) (h0 : 0 ≤ s) : shownB ys pre.length k s = isL ss (two k) s := by
  have hk := two_pos k
  obtain ⟨i, hi, hil⟩ := mod_nat k s
  have h3 := h.2.2
  have hc := (hy (pre.length + i) (by omega)).trans (h.1 s i hi)
  have e : shownB ys pre.length k s = (cellOf (two k) (lastS ss (two k) s) == s / two k) := by
    unfold shownB
    rw [hi]
    simp [List.getD, hc]
  rw [e]
  unfold isL
  cases hl : lastS ss (two k) s with
  | none =>
    have := Int.ediv_nonneg h0 (show 0 ≤ two k by omega)
    simp only [cellOf]
    rw [beq_eq_false_iff_ne.2 (by omega)]
    rfl
  | some t =>
    obtain ⟨hm, _⟩ := lastS_mod hl
    simp only [cellOf]
    rw [Bool.eq_iff_iff]
    simp only [beq_iff_eq, Option.some.injEq]
    constructor
    · intro e
      have e1 := Int.emod_add_mul_ediv t (two k)
      have e2 := Int.emod_add_mul_ediv s (two k)
      rw [hm, e] at e1
      omega
    · intro e; rw [e]
theorem isL_mem {ss : List Int} {n s : Int} (h : isL ss n s = true) : s ∈ ss := by
  unfold isL at h
  rw [beq_iff_eq] at h
  exact (lastS_mod h).2
/-- What is left of what was shown. -/
def leftL (ss : List Int) (n : Int) : List Int := ss.filter fun s => isL ss n s
theorem leftL_mem {ss : List Int} {n s : Int} : isL ss n s = true ↔ s ∈ leftL ss n := by
  unfold leftL
  rw [List.mem_filter]
  exact ⟨fun h => ⟨isL_mem h, h⟩, fun h => h.2⟩
/-- The cells of those ahead. -/
def idsB (n : Nat) : List Int := (List.range n).map fun i => ((i + 1 : Nat) : Int)
theorem idsB_len (n : Nat) : (idsB n).length = n := by simp [idsB]
theorem idsB_succ (n : Nat) : idsB (n + 1) = idsB n ++ [((n + 1 : Nat) : Int)] := by
  unfold idsB
  rw [List.range_succ, List.map_append, List.map_singleton]
theorem idsB_nodup (n : Nat) : (idsB n).Nodup := by
  unfold idsB
  rw [List.nodup_iff_pairwise_ne, List.pairwise_map]
  exact List.nodup_range.imp fun h e => h (by omega)
theorem idsB_at {n j : Nat} (h : j < n) : (idsB n).getD j 0 = ((j + 1 : Nat) : Int) := by
  simp [idsB, List.getD_eq_getElem?_getD, h]
theorem idsB_in {n : Nat} {x : Int} (h : x ∈ idsB n) : 1 ≤ x ∧ x ≤ n := by
  unfold idsB at h
  rw [List.mem_map] at h
  obtain ⟨i, hi, rfl⟩ := h
  rw [List.mem_range] at hi
  omega
/-- The first so many numbers. -/
def zsB (z : Nat → Int) (n : Nat) : List Int := (List.range n).map z
theorem zsB_len (z : Nat → Int) (n : Nat) : (zsB z n).length = n := by simp [zsB]
theorem zsB_succ (z : Nat → Int) (n : Nat) : zsB z (n + 1) = zsB z n ++ [z n] := by
  unfold zsB
  rw [List.range_succ, List.map_append, List.map_singleton]
theorem zsB_at (z : Nat → Int) {n j : Nat} (h : j < n) : (zsB z n)[j]? = some (z j) := by simp [zsB, h]
theorem vals_pre {z : Nat → Int} {n : Nat} {cu : Int} {xs : List Int} (h : ∀ i, i < n + 1 → xs[i]? = (cu :: zsB z n)[i]?) : valsOf xs (idsB n) = zsB z n := by
  unfold valsOf idsB zsB
  rw [List.map_map]
  refine List.map_congr_left fun i hi => ?_
  rw [List.mem_range] at hi
  have h1 := h (i + 1) (by omega)
  rw [List.getElem?_cons_succ, zsB_at z hi] at h1
  simp [List.getD, h1]
end Go.Proofs.Ytejkjpmigajidaa
namespace Go.Proofs.Ytejkjpmigajidaa
open Go.RowKit
set_option linter.unusedVariables false

/-- When a plan is one. -/
structure PlanOk (cu al : Int) (n m : Nat) (z : Nat → Int) : Prop where
  cu : -1 ≤ cu ∧ cu ≤ 1000
  n8 : n ≤ 8
  m60 : m ≤ 60
  al : 0 ≤ al ∧ al ≤ 2
  z : ∀ j, j < n → -1 ≤ z j ∧ z j ≤ 1000
/-- What a plan's beginning leaves. -/
structure BgF (R : Rest) (W w : World) (a bb : Nat) (cs : Array Value) (xs : List Int) (alc : Nat) (sh : Sho) (st : Int) (left : List Int) (vl : Value) (cu al : Int) (n : Nat) (z : Nat → Int) (bf : Bool) : Prop where
  mv : Mv R W w a xs st
  bw : Bw R bb cs 0 alc sh (idsB n)
  inb : InB xs 0 alc sh (idsB n)
  st0 : 0 ≤ st ∧ st ≤ 1000
  len : xs.length = alc + 1
  pre : ∀ i, i < n + 1 → xs[i]? = (cu :: zsB z n)[i]?
  al : yOf xs alc = al
  isb : sh.isSome = bf
  sf : ∀ f, sbOf xs sh = some f → ∀ s, 0 ≤ s → (f s = true ↔ s ∈ left)
  lng : ∀ w, R.inv w → LngAt w vl left
  l60 : left.length ≤ 60
  big : xs.length ≤ 200
  lo : n < alc
theorem results_tmp4 {fn : Func} {t u v x : Tmp} (h : fn.results = #[.tmp t, .tmp u, .tmp v, .tmp x]) (tmps : Array Value) (P : Program) (w : World) :
    (results fn tmps).run P w = .ok (.tuple #[tmps.getD t undef, tmps.getD u undef, tmps.getD v undef, tmps.getD x undef]) w := by
  simp [results, h]
/-- The alert's cell is set behind all others. -/
theorem set_last {xs : List Int} {y : Int} : (xs ++ [0]).set xs.length y = xs ++ [y] := by
  rw [List.set_append_right _ _ (Nat.le_refl _)]
  simp
theorem balert {R : Rest} {bb : Nat} {cs : Array Value} {cur al : Nat} {sh : Sho} {ids : List Int} {w : World} (hw : Bw R bb cs cur al sh ids) (hi : R.inv w) :
    Calls Try.prog 84 #[.pointer (some ⟨bb, 0, none⟩)] w fun e w' => e = .returned (.int .i64 al) ∧ w = w' := by
  have c35 : w.cell? ⟨bb, 35, none⟩ = some (.int .i64 al) := (obj_cell (hw.blk _ hi) 35).trans hw.f.c35
  go_enter Try.func84, Try.ntmps84
  go_wp2
  go_ret
  exact ⟨rfl, rfl⟩
section
variable {W : World} {cu al sf : Int} {n m ca cb : Nat} {pa ps : Option Addr} {z y : Nat → Int}
set_option maxHeartbeats 4000000 in
set_option maxRecDepth 100000 in
theorem begun_no (ha : LongsAt W (.slice pa n ca) n z) (hs : ByteRow W (.slice ps m cb) m y) (hg : PlanOk cu al n m z) :
    Calls Try.prog 74 #[.agg #[.int .i64 cu, .slice pa n ca, .bool false, .slice ps m cb, .int .i64 al, .int .u8 sf]] W fun e w' => ∃ R a bb cs xs alc sh st left vl, e = .returned (.tuple #[.pointer (some ⟨a, 0, none⟩), .pointer (some ⟨bb, 0, none⟩), vl, .bool true]) ∧ BgF R W w' a bb cs xs alc sh st left vl cu al n z false := by
  obtain ⟨pa', ca', he, hnm, hca⟩ := ha
  obtain ⟨e1, e2⟩ : pa = pa' ∧ ca = ca' := by cases he; exact ⟨rfl, rfl⟩
  subst e1 e2
  have HA := Lib.hid hca
  have HS := Lib.hid hs
  obtain ⟨i0, ji, jz0, jz1, jz2⟩ := info_parts infoIb
  clear hca hs he
  have HG := Lib.hid hg
  have d1 : decide (cu < -1) = false := decide_eq_false (by have := hg.cu; omega)
  have d2 : decide (1000 < cu) = false := decide_eq_false (by have := hg.cu; omega)
  have d3 : decide ((8 : Int) < (n : Int)) = false := decide_eq_false (by have := hg.n8; omega)
  have d3' : decide (8 < n) = false := decide_eq_false (by have := hg.n8; omega)
  have d4 : decide ((60 : Int) < (m : Int)) = false := decide_eq_false (by have := hg.m60; omega)
  have d4' : decide (60 < m) = false := decide_eq_false (by have := hg.m60; omega)
  have d5 : decide (al < 0) = false := decide_eq_false (by have := hg.al; omega)
  have d6 : decide (2 < al) = false := decide_eq_false (by have := hg.al; omega)
  have hn8 := hg.n8
  have hm60 := hg.m60
  clear hg hnm
  go_enter Try.func74, Try.ntmps74
  go_upto_region 3 with fail
  have HB1 := Lib.hid (balloc (Below.refl _ W) (.cells #[.int .i64 cu, .slice pa n ca, .bool false, .slice ps m cb, .int .i64 al, .int .u8 sf] 125))
  have HP1 := Lib.hid (obj_new W (.cells #[.int .i64 cu, .slice pa n ca, .bool false, .slice ps m cb, .int .i64 al, .int .u8 sf] 125))
  generalize W.alloc (.cells #[.int .i64 cu, .slice pa n ca, .bool false, .slice ps m cb, .int .i64 al, .int .u8 sf] 125) = w1 at *
  clear d1 d2 d3 d3' d4 d4' d5 d6
  go_upto_region 4 with (go_at_call 25; refine (new_m _).mono ?_; rintro e w2 ⟨rfl, hm⟩; have HM := Lib.hid ((Mv.of_mine hm).older HB1.out HP1.out (Nat.le_refl _)); clear hm; generalize w1.heap.size = a at *)
  have k0 : w2.cell? ⟨W.heap.size, 0, none⟩ = some (.int .i64 cu) := (obj_cell HM.out.boxIs 0).trans rfl
  go_upto_region 5 with (go_at_call 32; refine (alloc_mv cu HM.out (by decide)).mono ?_; rintro e w3 ⟨rfl, hm⟩; have HM3 := Lib.hid (hm.nil 3 1); clear hm)
  clear k0 HM
  have k1 : w3.cell? ⟨W.heap.size, 1, none⟩ = some (.slice pa n ca) := (obj_cell HM3.out.rowDrop.boxIs 1).trans rfl
  have H0 : Hid (Mv ((R0.box W.heap.size W.heap.size #[.int .i64 cu, .slice pa n ca, .bool false, .slice ps m cb, .int .i64 al, .int .u8 sf] 125).row W.heap.size 3 1 (.slice none 0 0) 0 ((idsB 0).map (Value.int .i64))) W w3 a (cu :: zsB z 0) 0) := HM3
  clear HM3
  go_upto_region 7 with fail
  clear k1
  go_loopw [9, 65] (fun v9 i wl => ∃ j : Nat, j ≤ n ∧ i = .int .i64 j ∧ Hid (Mv ((R0.box W.heap.size W.heap.size #[.int .i64 cu, .slice pa n ca, .bool false, .slice ps m cb, .int .i64 al, .int .u8 sf] 125).row W.heap.size 3 1 v9 j ((idsB j).map (Value.int .i64))) W wl a (cu :: zsB z j) 0)) (fun _ i _ => n - (intOf i).toNat)
  case atStart => exact ⟨0, Nat.zero_le _, rfl, H0⟩
  case round =>
    clear H0
    obtain ⟨j, hj, rfl, HJ⟩ := hrel
    by_cases hlt : j < n
    · as_aux_lemma =>
      obtain ⟨p9, c9, rfl, -⟩ := row_form HJ.out.rowIs
      obtain ⟨b, off, rfl, hcc⟩ := HA.out.resolve_left (by omega)
      obtain ⟨cj, zw⟩ := hcc j hlt
      have cz := keepc HJ.out.below cj
      clear hcc cj
      have hz := HG.out.z j hlt
      have e1 : decide (z j < -1) = false := decide_eq_false (by omega)
      have e2 : decide (1000 < z j) = false := decide_eq_false (by omega)
      have HAL : Hid (Calls Try.prog 32 #[.pointer (some ⟨a, 0, none⟩), .int .i64 (z j)] wr fun e w' => e = .returned (.tuple #[.int .i64 ((j : Int) + 1), .nilIface]) ∧ Mv ((R0.box W.heap.size W.heap.size #[.int .i64 cu, .slice (some ⟨b, off, none⟩) n ca, .bool false, .slice ps m cb, .int .i64 al, .int .u8 sf] 125).row W.heap.size 3 1 (.slice p9 j c9) j ((idsB j).map (Value.int .i64))) W w' a (cu :: zsB z (j + 1)) 0) := Lib.hid ((alloc_mv (z j) HJ.out (by rw [List.length_cons, zsB_len]; omega)).mono fun e w' h => by
        obtain ⟨h1, h2⟩ := h
        refine ⟨?_, ?_⟩
        · rw [h1, List.length_cons, zsB_len, show ((j + 1 : Nat) : Int) = (j : Int) + 1 by omega]
        · rw [zsB_succ]; exact h2)
      generalize z j = zj at *
      go_wp2_with (first
        | (go_at_call 32; refine HAL.out.mono ?_; rintro e w4 ⟨rfl, hm⟩; have H4 := Lib.hid hm; clear hm)
        | (at_builtin; refine wpList_append_row rfl _ _ 68 rfl 3 i0 (.int .i64 0) 1 8 Try.underlying68 ji jz0 jz1 jz2 rfl (by decide) (.slice p9 j c9) j _ rfl (row_base (H4.out.rowIs.alloc _) (Nat.zero_le _)) ⟨w4.heap.size, 0, none⟩ 1 1 [.int .i64 ((j : Int) + 1)] rfl rfl (one_cell _ _ _) (fun x hx => by simp at hx; subst hx; rfl) (by unfold maxLen; omega) (by omega) ?_; intro v' w5 hown hf hv; have H5 := Lib.hid ((H4.out.keep (balloc (Below.refl _ _) _)).app hown hf hv); obtain ⟨p5, c5, rfl, -⟩ := row_form hown; clear hown hf hv))
      have H6 : Hid (Mv ((R0.box W.heap.size W.heap.size #[.int .i64 cu, .slice (some ⟨b, off, none⟩) n ca, .bool false, .slice ps m cb, .int .i64 al, .int .u8 sf] 125).row W.heap.size 3 1 (.slice p5 (j + 1) c5) (j + 1) ((idsB (j + 1)).map (Value.int .i64))) W w5 a (cu :: zsB z (j + 1)) 0) := Lib.hid (by
        have := H5.out
        rw [idsB_succ, List.map_append]
        exact this)
      exact ⟨⟨j + 1, by omega, by go_num, H6⟩, by simp [intOf]; omega⟩
    · as_aux_lemma =>
      obtain rfl : n = j := by omega
      clear hlt hj
      have k2 : wr.cell? ⟨W.heap.size, 2, none⟩ = some (.bool false) := (obj_cell HJ.out.rowDrop.boxIs 2).trans rfl
      have HLN : Hid ((cu :: zsB z n).length = n + 1) := Lib.hid (by rw [List.length_cons, zsB_len])
      have HNW : Hid (Calls Try.prog 86 #[.pointer (some ⟨a, 0, none⟩), .int .i64 0, .pointer none, u9] wr fun e w' => ∃ R' bb cs, e = .returned (.tuple #[.pointer (some ⟨bb, 0, none⟩), .nilIface]) ∧ R'.le ((R0.box W.heap.size W.heap.size #[.int .i64 cu, .slice pa n ca, .bool false, .slice ps m cb, .int .i64 al, .int .u8 sf] 125).row W.heap.size 3 1 u9 n ((idsB n).map (Value.int .i64))) ∧ Bw R' bb cs 0 (cu :: zsB z n).length none (idsB n) ∧ Mv R' W w' a ((cu :: zsB z n) ++ [0]) 0) :=
        Lib.hid (bnew_none (cur := 0) HJ.out (by rw [HLN.out]; omega) (LngAt.of_row HJ.out.rowIs) (idsB_nodup n) (fun x hx => by have := idsB_in hx; have := HLN.out; omega) (by rw [idsB_len]; omega) (by have := HLN.out; omega))
      go_upto_region 31 with (go_at_call 86; refine HNW.out.mono ?_; rintro e w4 ⟨R', bb, cs, rfl, hle, hb, hm⟩; have HLE := Lib.hid hle; have HB := Lib.hid hb; have H4 := Lib.hid hm; clear hle hb hm)
      have k4 : w4.cell? ⟨W.heap.size, 4, none⟩ = some (.int .i64 al) := (obj_cell (HLE.out.2 _ H4.out.inv).1.2.1 4).trans rfl
      have HL2 : Hid ((cu :: zsB z n).length < ((cu :: zsB z n) ++ [0]).length) := Lib.hid (by simp)
      clear k2 HNW HJ
      go_region_held3 (fun w' => w'.cell? ⟨W.heap.size, 4, none⟩ = some (.int .i64 al)) (first
          | assumption
          | go_simp) (first
          | (go_at_call 84; refine (balert HB.out (H4.out.keep (Below.drew (Below.refl _ _))).inv).mono ?_; rintro e w5 ⟨rfl, rfl⟩)
          | (go_at_call 31; refine (store_mv (H4.out.keep (Below.drew (Below.refl _ _))) (cu :: zsB z n).length al HL2.out (by omega) (by omega)).mono ?_; rintro e w6 ⟨rfl, hm⟩; rw [set_last] at hm; have H6 := Lib.hid hm; have j4 : w6.cell? ⟨W.heap.size, 4, none⟩ = some (.int .i64 al) := (obj_cell (HLE.out.2 _ H6.out.inv).1.2.1 4).trans rfl; clear hm))
      clear k4 j4
      go_wp2_with fail
      go_loopw [21, 160] (fun v21 i wl => v21 = .slice none 0 0 ∧ i = .int .i64 0 ∧ wl = w6) (fun _ _ _ => 0)
      case atStart => exact ⟨rfl, rfl, rfl⟩
      case round =>
        obtain ⟨rfl, rfl, rfl⟩ := hrel
        go_wp2_with fail
        (try simp only [Exit.inBlock, Exit.then]); refine bodyPost_ret (results_tmp4 rfl _ _ _) rfl ?_
        refine ⟨R', a, bb, cs, cu :: zsB z n ++ [al], (cu :: zsB z n).length, none, _, [], .slice none 0 0, rfl, H6.out, HB.out, ⟨by simp, by simp, fun i hi => ?_, fun q f k h => (by cases h)⟩, by omega, by simp, fun i hi => ?_, ?_, rfl, fun f h => (by cases h), fun w hw => ⟨none, 0, rfl, .inl rfl⟩, by simp, by have := HLN.out; simp [zsB_len]; omega, by rw [HLN.out]; omega⟩
        · have hi' : i < n := by rw [idsB_len] at hi; exact hi
          rw [idsB_at hi']
          simp [zsB_len]
          omega
        · rw [List.getElem?_append_left (by rw [HLN.out]; exact hi)]
        · unfold yOf
          simp [List.getD_eq_getElem?_getD]
end
end Go.Proofs.Ytejkjpmigajidaa
namespace Go.Proofs.Ytejkjpmigajidaa
open Go.RowKit
set_option linter.unusedVariables false

section
variable {W : World} {bf : Bool} {cu al sf : Int} {n m ca cb : Nat} {pa ps : Option Addr} {z y : Nat → Int}
set_option maxRecDepth 100000 in
theorem begun_bad0 (h0 : (cu < -1)) :
    Calls Try.prog 74 #[.agg #[.int .i64 cu, .slice pa n ca, .bool bf, .slice ps m cb, .int .i64 al, .int .u8 sf]] W fun e w' => e = .returned (.tuple #[.pointer none, .pointer none, .slice none 0 0, .bool false]) ∧ Below W.heap.size W w' := by
  have d0 : decide (cu < -1) = true := decide_eq_true (by omega)
  clear h0
  go_enter Try.func74, Try.ntmps74
  go_wp2
  (try simp only [Exit.inBlock, Exit.then]); refine bodyPost_ret (results_tmp4 rfl _ _ _) rfl ?_
  exact ⟨rfl, balloc (Below.refl _ W) _⟩
set_option maxRecDepth 100000 in
theorem begun_bad1 (h0 : ¬ (cu < -1)) (h1 : (1000 < cu)) :
    Calls Try.prog 74 #[.agg #[.int .i64 cu, .slice pa n ca, .bool bf, .slice ps m cb, .int .i64 al, .int .u8 sf]] W fun e w' => e = .returned (.tuple #[.pointer none, .pointer none, .slice none 0 0, .bool false]) ∧ Below W.heap.size W w' := by
  have d0 : decide (cu < -1) = false := decide_eq_false (by omega)
  have d1 : decide (1000 < cu) = true := decide_eq_true (by omega)
  clear h0 h1
  go_enter Try.func74, Try.ntmps74
  go_wp2
  (try simp only [Exit.inBlock, Exit.then]); refine bodyPost_ret (results_tmp4 rfl _ _ _) rfl ?_
  exact ⟨rfl, balloc (Below.refl _ W) _⟩
set_option maxRecDepth 100000 in
theorem begun_bad2 (h0 : ¬ (cu < -1)) (h1 : ¬ (1000 < cu)) (h2 : (8 < n)) :
    Calls Try.prog 74 #[.agg #[.int .i64 cu, .slice pa n ca, .bool bf, .slice ps m cb, .int .i64 al, .int .u8 sf]] W fun e w' => e = .returned (.tuple #[.pointer none, .pointer none, .slice none 0 0, .bool false]) ∧ Below W.heap.size W w' := by
  have d0 : decide (cu < -1) = false := decide_eq_false (by omega)
  have d1 : decide (1000 < cu) = false := decide_eq_false (by omega)
  have d2 : decide ((8 : Int) < (n : Int)) = true := decide_eq_true (by omega)
  have d3 : decide (8 < n) = true := decide_eq_true (by omega)
  clear h0 h1 h2
  go_enter Try.func74, Try.ntmps74
  go_wp2
  (try simp only [Exit.inBlock, Exit.then]); refine bodyPost_ret (results_tmp4 rfl _ _ _) rfl ?_
  exact ⟨rfl, balloc (Below.refl _ W) _⟩
set_option maxRecDepth 100000 in
theorem begun_bad3 (h0 : ¬ (cu < -1)) (h1 : ¬ (1000 < cu)) (h2 : ¬ (8 < n)) (h3 : (60 < m)) :
    Calls Try.prog 74 #[.agg #[.int .i64 cu, .slice pa n ca, .bool bf, .slice ps m cb, .int .i64 al, .int .u8 sf]] W fun e w' => e = .returned (.tuple #[.pointer none, .pointer none, .slice none 0 0, .bool false]) ∧ Below W.heap.size W w' := by
  have d0 : decide (cu < -1) = false := decide_eq_false (by omega)
  have d1 : decide (1000 < cu) = false := decide_eq_false (by omega)
  have d2 : decide ((8 : Int) < (n : Int)) = false := decide_eq_false (by omega)
  have d3 : decide (8 < n) = false := decide_eq_false (by omega)
  have d4 : decide ((60 : Int) < (m : Int)) = true := decide_eq_true (by omega)
  have d5 : decide (60 < m) = true := decide_eq_true (by omega)
  clear h0 h1 h2 h3
  go_enter Try.func74, Try.ntmps74
  go_wp2
  (try simp only [Exit.inBlock, Exit.then]); refine bodyPost_ret (results_tmp4 rfl _ _ _) rfl ?_
  exact ⟨rfl, balloc (Below.refl _ W) _⟩
set_option maxRecDepth 100000 in
theorem begun_bad4 (h0 : ¬ (cu < -1)) (h1 : ¬ (1000 < cu)) (h2 : ¬ (8 < n)) (h3 : ¬ (60 < m)) (h4 : (al < 0)) :
    Calls Try.prog 74 #[.agg #[.int .i64 cu, .slice pa n ca, .bool bf, .slice ps m cb, .int .i64 al, .int .u8 sf]] W fun e w' => e = .returned (.tuple #[.pointer none, .pointer none, .slice none 0 0, .bool false]) ∧ Below W.heap.size W w' := by
  have d0 : decide (cu < -1) = false := decide_eq_false (by omega)
  have d1 : decide (1000 < cu) = false := decide_eq_false (by omega)
  have d2 : decide ((8 : Int) < (n : Int)) = false := decide_eq_false (by omega)
  have d3 : decide (8 < n) = false := decide_eq_false (by omega)
  have d4 : decide ((60 : Int) < (m : Int)) = false := decide_eq_false (by omega)
  have d5 : decide (60 < m) = false := decide_eq_false (by omega)
  have d6 : decide (al < 0) = true := decide_eq_true (by omega)
  clear h0 h1 h2 h3 h4
  go_enter Try.func74, Try.ntmps74
  go_wp2
  (try simp only [Exit.inBlock, Exit.then]); refine bodyPost_ret (results_tmp4 rfl _ _ _) rfl ?_
  exact ⟨rfl, balloc (Below.refl _ W) _⟩
set_option maxRecDepth 100000 in
theorem begun_bad5 (h0 : ¬ (cu < -1)) (h1 : ¬ (1000 < cu)) (h2 : ¬ (8 < n)) (h3 : ¬ (60 < m)) (h4 : ¬ (al < 0)) (h5 : (2 < al)) :
    Calls Try.prog 74 #[.agg #[.int .i64 cu, .slice pa n ca, .bool bf, .slice ps m cb, .int .i64 al, .int .u8 sf]] W fun e w' => e = .returned (.tuple #[.pointer none, .pointer none, .slice none 0 0, .bool false]) ∧ Below W.heap.size W w' := by
  have d0 : decide (cu < -1) = false := decide_eq_false (by omega)
  have d1 : decide (1000 < cu) = false := decide_eq_false (by omega)
  have d2 : decide ((8 : Int) < (n : Int)) = false := decide_eq_false (by omega)
  have d3 : decide (8 < n) = false := decide_eq_false (by omega)
  have d4 : decide ((60 : Int) < (m : Int)) = false := decide_eq_false (by omega)
  have d5 : decide (60 < m) = false := decide_eq_false (by omega)
  have d6 : decide (al < 0) = false := decide_eq_false (by omega)
  have d7 : decide (2 < al) = true := decide_eq_true (by omega)
  clear h0 h1 h2 h3 h4 h5
  go_enter Try.func74, Try.ntmps74
  go_wp2
  (try simp only [Exit.inBlock, Exit.then]); refine bodyPost_ret (results_tmp4 rfl _ _ _) rfl ?_
  exact ⟨rfl, balloc (Below.refl _ W) _⟩
set_option maxHeartbeats 4000000 in
set_option maxRecDepth 100000 in
theorem begun_badz (ha : LongsAt W (.slice pa n ca) n z) (hs : ByteRow W (.slice ps m cb) m y) (hc1 : ¬ (cu < -1)) (hc2 : ¬ (1000 < cu)) (hn8 : n ≤ 8) (hm60 : m ≤ 60) (ha1 : ¬ (al < 0)) (ha2 : ¬ (2 < al)) (hbad : ¬ ∀ j, j < n → -1 ≤ z j ∧ z j ≤ 1000) :
    Calls Try.prog 74 #[.agg #[.int .i64 cu, .slice pa n ca, .bool bf, .slice ps m cb, .int .i64 al, .int .u8 sf]] W fun e w' => e = .returned (.tuple #[.pointer none, .pointer none, .slice none 0 0, .bool false]) ∧ Below W.heap.size W w' := by
  have HBD := Lib.hid hbad
  clear hbad
  obtain ⟨pa', ca', he, hnm, hca⟩ := ha
  obtain ⟨e1, e2⟩ : pa = pa' ∧ ca = ca' := by cases he; exact ⟨rfl, rfl⟩
  subst e1 e2
  have HA := Lib.hid hca
  have HS := Lib.hid hs
  obtain ⟨i0, ji, jz0, jz1, jz2⟩ := info_parts infoIb
  clear hca hs he
  have d1 : decide (cu < -1) = false := decide_eq_false (by omega)
  have d2 : decide (1000 < cu) = false := decide_eq_false (by omega)
  have d3 : decide ((8 : Int) < (n : Int)) = false := decide_eq_false (by omega)
  have d3' : decide (8 < n) = false := decide_eq_false (by omega)
  have d4 : decide ((60 : Int) < (m : Int)) = false := decide_eq_false (by omega)
  have d4' : decide (60 < m) = false := decide_eq_false (by omega)
  have d5 : decide (al < 0) = false := decide_eq_false (by omega)
  have d6 : decide (2 < al) = false := decide_eq_false (by omega)
  clear hnm
  go_enter Try.func74, Try.ntmps74
  go_upto_region 3 with fail
  have HB1 := Lib.hid (balloc (Below.refl _ W) (.cells #[.int .i64 cu, .slice pa n ca, .bool bf, .slice ps m cb, .int .i64 al, .int .u8 sf] 125))
  have HP1 := Lib.hid (obj_new W (.cells #[.int .i64 cu, .slice pa n ca, .bool bf, .slice ps m cb, .int .i64 al, .int .u8 sf] 125))
  generalize W.alloc (.cells #[.int .i64 cu, .slice pa n ca, .bool bf, .slice ps m cb, .int .i64 al, .int .u8 sf] 125) = w1 at *
  clear hc1 hc2 ha1 ha2 d1 d2 d3 d3' d4 d4' d5 d6
  go_upto_region 4 with (go_at_call 25; refine (new_m _).mono ?_; rintro e w2 ⟨rfl, hm⟩; have HM := Lib.hid ((Mv.of_mine hm).older HB1.out HP1.out (Nat.le_refl _)); clear hm; generalize w1.heap.size = a at *)
  have k0 : w2.cell? ⟨W.heap.size, 0, none⟩ = some (.int .i64 cu) := (obj_cell HM.out.boxIs 0).trans rfl
  go_upto_region 5 with (go_at_call 32; refine (alloc_mv cu HM.out (by decide)).mono ?_; rintro e w3 ⟨rfl, hm⟩; have HM3 := Lib.hid (hm.nil 3 1); clear hm)
  clear k0 HM
  have k1 : w3.cell? ⟨W.heap.size, 1, none⟩ = some (.slice pa n ca) := (obj_cell HM3.out.rowDrop.boxIs 1).trans rfl
  have H0 : Hid (Mv ((R0.box W.heap.size W.heap.size #[.int .i64 cu, .slice pa n ca, .bool bf, .slice ps m cb, .int .i64 al, .int .u8 sf] 125).row W.heap.size 3 1 (.slice none 0 0) 0 ((idsB 0).map (Value.int .i64))) W w3 a (cu :: zsB z 0) 0) := HM3
  clear HM3
  go_upto_region 7 with fail
  clear k1
  go_loopw [9, 65] (fun v9 i wl => ∃ j : Nat, j ≤ n ∧ i = .int .i64 j ∧ Hid (Mv ((R0.box W.heap.size W.heap.size #[.int .i64 cu, .slice pa n ca, .bool bf, .slice ps m cb, .int .i64 al, .int .u8 sf] 125).row W.heap.size 3 1 v9 j ((idsB j).map (Value.int .i64))) W wl a (cu :: zsB z j) 0) ∧ Hid (∀ i, i < j → -1 ≤ z i ∧ z i ≤ 1000)) (fun _ i _ => n - (intOf i).toNat)
  case atStart => exact ⟨0, Nat.zero_le _, rfl, H0, Lib.hid fun i hi => absurd hi (by omega)⟩
  case round =>
    clear H0
    obtain ⟨j, hj, rfl, HJ, HZ⟩ := hrel
    by_cases hlt : j < n
    · as_aux_lemma =>
      obtain ⟨p9, c9, rfl, -⟩ := row_form HJ.out.rowIs
      obtain ⟨b, off, rfl, hcc⟩ := HA.out.resolve_left (by omega)
      obtain ⟨cj, zw⟩ := hcc j hlt
      have cz := keepc HJ.out.below cj
      clear hcc cj
      by_cases hz : -1 ≤ z j ∧ z j ≤ 1000
      · have HZ2 : Hid (∀ i, i < j + 1 → -1 ≤ z i ∧ z i ≤ 1000) := Lib.hid fun i hi => by
          by_cases e : i = j
          · subst e; exact hz
          · exact HZ.out i (by omega)
        have e1 : decide (z j < -1) = false := decide_eq_false (by omega)
        have e2 : decide (1000 < z j) = false := decide_eq_false (by omega)
        have HAL : Hid (Calls Try.prog 32 #[.pointer (some ⟨a, 0, none⟩), .int .i64 (z j)] wr fun e w' => e = .returned (.tuple #[.int .i64 ((j : Int) + 1), .nilIface]) ∧ Mv ((R0.box W.heap.size W.heap.size #[.int .i64 cu, .slice (some ⟨b, off, none⟩) n ca, .bool bf, .slice ps m cb, .int .i64 al, .int .u8 sf] 125).row W.heap.size 3 1 (.slice p9 j c9) j ((idsB j).map (Value.int .i64))) W w' a (cu :: zsB z (j + 1)) 0) := Lib.hid ((alloc_mv (z j) HJ.out (by rw [List.length_cons, zsB_len]; omega)).mono fun e w' h => by
          obtain ⟨h1, h2⟩ := h
          refine ⟨?_, ?_⟩
          · rw [h1, List.length_cons, zsB_len, show ((j + 1 : Nat) : Int) = (j : Int) + 1 by omega]
          · rw [zsB_succ]; exact h2)
        generalize z j = zj at *
        go_wp2_with (first
          | (go_at_call 32; refine HAL.out.mono ?_; rintro e w4 ⟨rfl, hm⟩; have H4 := Lib.hid hm; clear hm)
          | (at_builtin; refine wpList_append_row rfl _ _ 68 rfl 3 i0 (.int .i64 0) 1 8 Try.underlying68 ji jz0 jz1 jz2 rfl (by decide) (.slice p9 j c9) j _ rfl (row_base (H4.out.rowIs.alloc _) (Nat.zero_le _)) ⟨w4.heap.size, 0, none⟩ 1 1 [.int .i64 ((j : Int) + 1)] rfl rfl (one_cell _ _ _) (fun x hx => by simp at hx; subst hx; rfl) (by unfold maxLen; omega) (by omega) ?_; intro v' w5 hown hf hv; have H5 := Lib.hid ((H4.out.keep (balloc (Below.refl _ _) _)).app hown hf hv); obtain ⟨p5, c5, rfl, -⟩ := row_form hown; clear hown hf hv))
        have H6 : Hid (Mv ((R0.box W.heap.size W.heap.size #[.int .i64 cu, .slice (some ⟨b, off, none⟩) n ca, .bool bf, .slice ps m cb, .int .i64 al, .int .u8 sf] 125).row W.heap.size 3 1 (.slice p5 (j + 1) c5) (j + 1) ((idsB (j + 1)).map (Value.int .i64))) W w5 a (cu :: zsB z (j + 1)) 0) := Lib.hid (by
          have := H5.out
          rw [idsB_succ, List.map_append]
          exact this)
        exact ⟨⟨j + 1, by omega, by go_num, H6, HZ2⟩, by simp [intOf]; omega⟩
      · have HBE := Lib.hid HJ.out.below
        clear HJ HZ
        by_cases hz1 : z j < -1
        · have e1 : decide (z j < -1) = true := decide_eq_true hz1
          generalize z j = zj at *
          clear hz1 hz
          go_wp2
          (try simp only [Exit.inBlock, Exit.then]); refine bodyPost_ret (results_tmp4 rfl _ _ _) rfl ?_
          exact ⟨rfl, HBE.out⟩
        · have e1 : decide (z j < -1) = false := decide_eq_false hz1
          have e2 : decide (1000 < z j) = true := decide_eq_true (by omega)
          generalize z j = zj at *
          clear hz1 hz
          go_wp2
          (try simp only [Exit.inBlock, Exit.then]); refine bodyPost_ret (results_tmp4 rfl _ _ _) rfl ?_
          exact ⟨rfl, HBE.out⟩
    · obtain rfl : n = j := by omega
      exact absurd HZ.out HBD.out
/-- What is no plan. -/
theorem begun_bad (ha : LongsAt W (.slice pa n ca) n z) (hs : ByteRow W (.slice ps m cb) m y) (hg : ¬ PlanOk cu al n m z) :
    Calls Try.prog 74 #[.agg #[.int .i64 cu, .slice pa n ca, .bool bf, .slice ps m cb, .int .i64 al, .int .u8 sf]] W fun e w' => e = .returned (.tuple #[.pointer none, .pointer none, .slice none 0 0, .bool false]) ∧ Below W.heap.size W w' := by
  by_cases h0 : cu < -1
  · exact begun_bad0 h0
  by_cases h1 : 1000 < cu
  · exact begun_bad1 h0 h1
  by_cases h2 : 8 < n
  · exact begun_bad2 h0 h1 h2
  by_cases h3 : 60 < m
  · exact begun_bad3 h0 h1 h2 h3
  by_cases h4 : al < 0
  · exact begun_bad4 h0 h1 h2 h3 h4
  by_cases h5 : 2 < al
  · exact begun_bad5 h0 h1 h2 h3 h4 h5
  exact begun_badz ha hs h0 h1 (by omega) (by omega) h4 h5 fun hz => hg ⟨by omega, by omega, by omega, by omega, hz⟩
end
end Go.Proofs.Ytejkjpmigajidaa
namespace Go.Proofs.Ytejkjpmigajidaa
open Go.RowKit
set_option linter.unusedVariables false

section
variable {W : World} {cu al sf : Int} {n m ca cb : Nat} {pa ps : Option Addr} {z y : Nat → Int}
set_option maxHeartbeats 8000000 in
set_option maxRecDepth 100000 in
theorem begun_yes (ha : LongsAt W (.slice pa n ca) n z) (hs : ByteRow W (.slice ps m cb) m y) (hg : PlanOk cu al n m z) (hsf : 0 ≤ sf) (k : Nat) (hk7 : sf % 7 = k) (hk : k < 7) :
    Calls Try.prog 74 #[.agg #[.int .i64 cu, .slice pa n ca, .bool true, .slice ps m cb, .int .i64 al, .int .u8 sf]] W fun e w' => ∃ R a bb cs xs alc sh st left vl, e = .returned (.tuple #[.pointer (some ⟨a, 0, none⟩), .pointer (some ⟨bb, 0, none⟩), vl, .bool true]) ∧ BgF R W w' a bb cs xs alc sh st left vl cu al n z true := by
  have ht : sf.tmod 7 = (k : Int) := by rw [Int.tmod_eq_emod_of_nonneg hsf]; exact hk7
  have HT := Lib.hid ht
  have HWT := Lib.hid (wrap_two k (by omega))
  have HTP := Lib.hid (two_pos k)
  have HT64 := Lib.hid (two64 hk)
  have HK := Lib.hid hk
  have HMN : Hid (min k 64 = k) := Lib.hid (by omega)
  obtain ⟨N, hN⟩ : ∃ N : Nat, (N : Int) = two k := ⟨(two k).toNat, by have := two_pos k; omega⟩
  have HN := Lib.hid hN
  obtain ⟨i8, gi, gz0, gz1, gz2⟩ := info_parts infoI64
  clear ht hk7 hsf hN hk
  obtain ⟨pa', ca', he, hnm, hca⟩ := ha
  obtain ⟨e1, e2⟩ : pa = pa' ∧ ca = ca' := by cases he; exact ⟨rfl, rfl⟩
  subst e1 e2
  have HA := Lib.hid hca
  have HS := Lib.hid hs
  obtain ⟨i0, ji, jz0, jz1, jz2⟩ := info_parts infoIb
  clear hca hs he
  have HG := Lib.hid hg
  have d1 : decide (cu < -1) = false := decide_eq_false (by have := hg.cu; omega)
  have d2 : decide (1000 < cu) = false := decide_eq_false (by have := hg.cu; omega)
  have d3 : decide ((8 : Int) < (n : Int)) = false := decide_eq_false (by have := hg.n8; omega)
  have d3' : decide (8 < n) = false := decide_eq_false (by have := hg.n8; omega)
  have d4 : decide ((60 : Int) < (m : Int)) = false := decide_eq_false (by have := hg.m60; omega)
  have d4' : decide (60 < m) = false := decide_eq_false (by have := hg.m60; omega)
  have d5 : decide (al < 0) = false := decide_eq_false (by have := hg.al; omega)
  have d6 : decide (2 < al) = false := decide_eq_false (by have := hg.al; omega)
  have hn8 := hg.n8
  have hm60 := hg.m60
  clear hg hnm
  go_enter Try.func74, Try.ntmps74
  go_upto_region 3 with fail
  have HB1 := Lib.hid (balloc (Below.refl _ W) (.cells #[.int .i64 cu, .slice pa n ca, .bool true, .slice ps m cb, .int .i64 al, .int .u8 sf] 125))
  have HP1 := Lib.hid (obj_new W (.cells #[.int .i64 cu, .slice pa n ca, .bool true, .slice ps m cb, .int .i64 al, .int .u8 sf] 125))
  generalize W.alloc (.cells #[.int .i64 cu, .slice pa n ca, .bool true, .slice ps m cb, .int .i64 al, .int .u8 sf] 125) = w1 at *
  clear d1 d2 d3 d3' d4 d4' d5 d6
  go_upto_region 4 with (go_at_call 25; refine (new_m _).mono ?_; rintro e w2 ⟨rfl, hm⟩; have HM := Lib.hid ((Mv.of_mine hm).older HB1.out HP1.out (Nat.le_refl _)); clear hm; generalize w1.heap.size = a at *)
  have k0 : w2.cell? ⟨W.heap.size, 0, none⟩ = some (.int .i64 cu) := (obj_cell HM.out.boxIs 0).trans rfl
  go_upto_region 5 with (go_at_call 32; refine (alloc_mv cu HM.out (by decide)).mono ?_; rintro e w3 ⟨rfl, hm⟩; have HM3 := Lib.hid (hm.nil 3 1); clear hm)
  clear k0 HM
  have k1 : w3.cell? ⟨W.heap.size, 1, none⟩ = some (.slice pa n ca) := (obj_cell HM3.out.rowDrop.boxIs 1).trans rfl
  have H0 : Hid (Mv ((R0.box W.heap.size W.heap.size #[.int .i64 cu, .slice pa n ca, .bool true, .slice ps m cb, .int .i64 al, .int .u8 sf] 125).row W.heap.size 3 1 (.slice none 0 0) 0 ((idsB 0).map (Value.int .i64))) W w3 a (cu :: zsB z 0) 0) := HM3
  clear HM3
  go_upto_region 7 with fail
  clear k1
  go_loopw [9, 65] (fun v9 i wl => ∃ j : Nat, j ≤ n ∧ i = .int .i64 j ∧ Hid (Mv ((R0.box W.heap.size W.heap.size #[.int .i64 cu, .slice pa n ca, .bool true, .slice ps m cb, .int .i64 al, .int .u8 sf] 125).row W.heap.size 3 1 v9 j ((idsB j).map (Value.int .i64))) W wl a (cu :: zsB z j) 0)) (fun _ i _ => n - (intOf i).toNat)
  case atStart => exact ⟨0, Nat.zero_le _, rfl, H0⟩
  case round =>
    clear H0
    obtain ⟨j, hj, rfl, HJ⟩ := hrel
    by_cases hlt : j < n
    · as_aux_lemma =>
      obtain ⟨p9, c9, rfl, -⟩ := row_form HJ.out.rowIs
      obtain ⟨b, off, rfl, hcc⟩ := HA.out.resolve_left (by omega)
      obtain ⟨cj, zw⟩ := hcc j hlt
      have cz := keepc HJ.out.below cj
      clear hcc cj
      have hz := HG.out.z j hlt
      have e1 : decide (z j < -1) = false := decide_eq_false (by omega)
      have e2 : decide (1000 < z j) = false := decide_eq_false (by omega)
      have HAL : Hid (Calls Try.prog 32 #[.pointer (some ⟨a, 0, none⟩), .int .i64 (z j)] wr fun e w' => e = .returned (.tuple #[.int .i64 ((j : Int) + 1), .nilIface]) ∧ Mv ((R0.box W.heap.size W.heap.size #[.int .i64 cu, .slice (some ⟨b, off, none⟩) n ca, .bool true, .slice ps m cb, .int .i64 al, .int .u8 sf] 125).row W.heap.size 3 1 (.slice p9 j c9) j ((idsB j).map (Value.int .i64))) W w' a (cu :: zsB z (j + 1)) 0) := Lib.hid ((alloc_mv (z j) HJ.out (by rw [List.length_cons, zsB_len]; omega)).mono fun e w' h => by
        obtain ⟨h1, h2⟩ := h
        refine ⟨?_, ?_⟩
        · rw [h1, List.length_cons, zsB_len, show ((j + 1 : Nat) : Int) = (j : Int) + 1 by omega]
        · rw [zsB_succ]; exact h2)
      generalize z j = zj at *
      go_wp2_with (first
        | (go_at_call 32; refine HAL.out.mono ?_; rintro e w4 ⟨rfl, hm⟩; have H4 := Lib.hid hm; clear hm)
        | (at_builtin; refine wpList_append_row rfl _ _ 68 rfl 3 i0 (.int .i64 0) 1 8 Try.underlying68 ji jz0 jz1 jz2 rfl (by decide) (.slice p9 j c9) j _ rfl (row_base (H4.out.rowIs.alloc _) (Nat.zero_le _)) ⟨w4.heap.size, 0, none⟩ 1 1 [.int .i64 ((j : Int) + 1)] rfl rfl (one_cell _ _ _) (fun x hx => by simp at hx; subst hx; rfl) (by unfold maxLen; omega) (by omega) ?_; intro v' w5 hown hf hv; have H5 := Lib.hid ((H4.out.keep (balloc (Below.refl _ _) _)).app hown hf hv); obtain ⟨p5, c5, rfl, -⟩ := row_form hown; clear hown hf hv))
      have H6 : Hid (Mv ((R0.box W.heap.size W.heap.size #[.int .i64 cu, .slice (some ⟨b, off, none⟩) n ca, .bool true, .slice ps m cb, .int .i64 al, .int .u8 sf] 125).row W.heap.size 3 1 (.slice p5 (j + 1) c5) (j + 1) ((idsB (j + 1)).map (Value.int .i64))) W w5 a (cu :: zsB z (j + 1)) 0) := Lib.hid (by
        have := H5.out
        rw [idsB_succ, List.map_append]
        exact this)
      exact ⟨⟨j + 1, by omega, by go_num, H6⟩, by simp [intOf]; omega⟩
    · as_aux_lemma =>
      obtain rfl : n = j := by omega
      clear hlt hj ji jz0 jz1 jz2
      have k2 : wr.cell? ⟨W.heap.size, 2, none⟩ = some (.bool true) := (obj_cell HJ.out.rowDrop.boxIs 2).trans rfl
      have k5 : wr.cell? ⟨W.heap.size, 5, none⟩ = some (.int .u8 sf) := (obj_cell HJ.out.rowDrop.boxIs 5).trans rfl
      have HPL : Hid ((cu :: zsB z n).length = n + 1) := Lib.hid (by rw [List.length_cons, zsB_len])
      have ht := HT.out
      go_upto_region 20 with (go_at_call 15; rw [HMN.out, HWT.out]; refine (of_yes k (by have := HK.out; omega) _).mono ?_; rintro e w4 ⟨rfl, hb⟩; have H4 := Lib.hid (HJ.out.keep hb); clear hb)
      have H5 := Lib.hid (H4.out.keep (balloc (Below.refl _ _) (.cells #[.int .u8 k] 23)))
      have kS : (w4.alloc (.cells #[.int .u8 k] 23)).cell? ⟨w4.heap.size, 0, none⟩ = some (.int .u8 k) := (obj_cell (obj_new _ _) 0).trans rfl
      generalize w4.alloc (.cells #[.int .u8 k] 23) = w5 at *
      clear k2 k5 HJ H4 ht
      go_upto_region 23 with (go_at_call 35; refine (anew_ok H5.out k N (by have := HK.out; omega) HN.out (by have := HN.out; have := HT64.out; have := HPL.out; omega)).mono ?_; rintro e w6 ⟨q, rfl, ha, -⟩; have HAV := Lib.hid ha; clear ha)
      clear kS H5
      obtain ⟨F, hF⟩ : ∃ F, (cu :: zsB z n).length = F := ⟨_, rfl⟩
      have HF := Lib.hid hF
      have HXS := Lib.hid (Bgx.start (cu :: zsB z n) k N HN.out)
      have H6 : Hid (Mv ((((R0.box W.heap.size W.heap.size #[.int .i64 cu, .slice pa n ca, .bool true, .slice ps m cb, .int .i64 al, .int .u8 sf] 125).row W.heap.size 3 1 u9 n ((idsB n).map (Value.int .i64))).and q #[.int .i64 F, .int .u8 k] 157).row W.heap.size 2 1 (.slice none 0 0) 0 ((zsB y 0).map (Value.int .i64))) W w6 a (cu :: zsB z n ++ List.replicate N (-1)) 0) := Lib.hid (by
        have h := HAV.out
        rw [HF.out] at h
        exact (h.mv.with h.bf.1 (by decide) (by decide)).nil 2 1)
      have HBF : Hid (k ≤ 20 ∧ (F : Int) ≤ 2097152) := Lib.hid (by have h := HAV.out.bf.2; rw [HF.out] at h; exact h)
      have k3 : w6.cell? ⟨W.heap.size, 3, none⟩ = some (.slice ps m cb) := (obj_cell H6.out.inv.1.1.1.2.1 3).trans rfl
      have HX0 : Hid (∃ xs, Bgx (cu :: zsB z n) k (zsB y 0) xs ∧ Mv ((((R0.box W.heap.size W.heap.size #[.int .i64 cu, .slice pa n ca, .bool true, .slice ps m cb, .int .i64 al, .int .u8 sf] 125).row W.heap.size 3 1 u9 n ((idsB n).map (Value.int .i64))).and q #[.int .i64 F, .int .u8 k] 157).row W.heap.size 2 1 (.slice none 0 0) 0 ((zsB y 0).map (Value.int .i64))) W w6 a xs ((0 : Nat) : Int)) := Lib.hid ⟨_, HXS.out, H6.out⟩
      clear HAV hF HXS H6
      go_upto_region 24 with fail
      clear k3
      go_loopw [15, 117] (fun v15 i wl => ∃ j : Nat, j ≤ m ∧ i = .int .i64 j ∧ Hid (∃ xs, Bgx (cu :: zsB z n) k (zsB y j) xs ∧ Mv ((((R0.box W.heap.size W.heap.size #[.int .i64 cu, .slice pa n ca, .bool true, .slice ps m cb, .int .i64 al, .int .u8 sf] 125).row W.heap.size 3 1 u9 n ((idsB n).map (Value.int .i64))).and q #[.int .i64 F, .int .u8 k] 157).row W.heap.size 2 1 v15 j ((zsB y j).map (Value.int .i64))) W wl a xs (j : Int))) (fun _ i _ => m - (intOf i).toNat)
      case atStart => exact ⟨0, Nat.zero_le _, rfl, HX0⟩
      case round =>
        clear HX0
        obtain ⟨j, hj, rfl, HJ⟩ := hrel
        by_cases hlt : j < m
        · as_aux_lemma =>
          obtain ⟨xs, hbx, hmv⟩ := HJ.out
          have HM := Lib.hid hmv
          have HBX := Lib.hid hbx
          obtain ⟨p15, c15, rfl, -⟩ := row_form hmv.rowIs
          obtain ⟨ps', cb', he, _, hcs⟩ := HS.out
          obtain ⟨b, off, hps, hcc⟩ := hcs.resolve_left (by omega)
          obtain ⟨cj, y0, y1⟩ := hcc j hlt
          have cy := keepc hmv.below cj
          have hps2 : ps = some ⟨b, off, none⟩ := by cases he; exact hps
          subst hps2
          have HSH : Hid (Calls Try.prog 36 #[.pointer (some ⟨q, 0, none⟩), .pointer (some ⟨a, 0, none⟩), .int .i64 (y j), .int .i64 (y j)] wr fun e w' => e = .returned .nilIface ∧ ∃ xs', Bgx (cu :: zsB z n) k (zsB y (j + 1)) xs' ∧ Mv ((((R0.box W.heap.size W.heap.size #[.int .i64 cu, .slice pa n ca, .bool true, .slice (some ⟨b, off, none⟩) m cb, .int .i64 al, .int .u8 sf] 125).row W.heap.size 3 1 u9 n ((idsB n).map (Value.int .i64))).and q #[.int .i64 F, .int .u8 k] 157).row W.heap.size 2 1 (.slice p15 j c15) j ((zsB y j).map (Value.int .i64))) W w' a xs' ((j : Int) + 1)) := Lib.hid (by
            have h := show_ok (hmv.av ⟨hmv.inv.1.2, HBF.out⟩) (y j) (y j) y0 (Int.le_refl _) (by omega) (by have := HTP.out; omega) 1 (by omega) (by have h3 := hbx.2.2; have := HF.out; omega) (by omega) (by omega)
            refine h.mono ?_
            rintro e w' ⟨rfl, hv⟩
            refine ⟨rfl, _, ?_, hv.mv⟩
            rw [zsB_succ]
            have h2 := hbx.show (y j)
            rw [HF.out] at h2
            exact h2)
          clear hbx hmv hcs hcc cj hps he HJ
          have HYJ : Hid (zsB y (j + 1) = zsB y j ++ [y j]) := Lib.hid (zsB_succ y j)
          generalize y j = yj at *
          go_wp2_with (first
            | (go_at_call 36; refine HSH.out.mono ?_; rintro e w7 ⟨rfl, xs', hb', hm'⟩; have HB7 := Lib.hid hb'; have H7 := Lib.hid hm'; clear hb' hm')
            | (at_builtin; refine wpList_append_row rfl _ _ 38 rfl 2 i8 (.int .i64 0) 1 8 Try.underlying38 gi gz0 gz1 gz2 rfl (by decide) (.slice p15 j c15) j _ rfl (row_base (H7.out.rowIs.alloc _) (Nat.zero_le _)) ⟨w7.heap.size, 0, none⟩ 1 1 [.int .i64 yj] rfl rfl (one_cell _ _ _) (fun x hx => by simp at hx; subst hx; rfl) (by unfold maxLen; omega) (by omega) ?_; intro v' w8 hown hf hv; have H8 := Lib.hid ((H7.out.keep (balloc (Below.refl _ _) _)).app hown hf hv); obtain ⟨p5, c5, rfl, -⟩ := row_form hown; clear hown hf hv))
          have H9 : Hid (∃ xs, Bgx (cu :: zsB z n) k (zsB y (j + 1)) xs ∧ Mv ((((R0.box W.heap.size W.heap.size #[.int .i64 cu, .slice pa n ca, .bool true, .slice (some ⟨b, off, none⟩) m cb, .int .i64 al, .int .u8 sf] 125).row W.heap.size 3 1 u9 n ((idsB n).map (Value.int .i64))).and q #[.int .i64 F, .int .u8 k] 157).row W.heap.size 2 1 (.slice p5 (j + 1) c5) (j + 1) ((zsB y (j + 1)).map (Value.int .i64))) W w8 a xs ((j + 1 : Nat) : Int)) := Lib.hid ⟨_, HB7.out, by
            have h := H8.out
            rw [HYJ.out, List.map_append]
            exact h⟩
          exact ⟨⟨j + 1, by omega, by go_num, H9⟩, by simp [intOf]; omega⟩
        · as_aux_lemma =>
          obtain rfl : m = j := by omega
          clear hlt hj
          obtain ⟨xs, hbx, hmv⟩ := HJ.out
          have HM := Lib.hid hmv
          have HBX := Lib.hid hbx
          obtain ⟨p15, c15, rfl, -⟩ := row_form hmv.rowIs
          have HXL : Hid ((xs.length : Int) = (n : Int) + 1 + two k) := Lib.hid (by have h3 := hbx.2.2; have := HPL.out; omega)
          have HNW : Hid (Calls Try.prog 86 #[.pointer (some ⟨a, 0, none⟩), .int .i64 0, .pointer (some ⟨q, 0, none⟩), u9] wr fun e w' => ∃ R' bb q' cs, e = .returned (.tuple #[.pointer (some ⟨bb, 0, none⟩), .nilIface]) ∧ R'.le ((((R0.box W.heap.size W.heap.size #[.int .i64 cu, .slice pa n ca, .bool true, .slice ps m cb, .int .i64 al, .int .u8 sf] 125).row W.heap.size 3 1 u9 n ((idsB n).map (Value.int .i64))).and q #[.int .i64 F, .int .u8 k] 157).row W.heap.size 2 1 (.slice p15 m c15) m ((zsB y m).map (Value.int .i64))) ∧ Bw R' bb cs 0 xs.length (some (q', F, k)) (idsB n) ∧ Mv R' W w' a (xs ++ [0]) m) :=
            Lib.hid (bnew_some (cur := 0) (f := F) (k := k) (fun w h => ⟨h.1.2, HBF.out⟩) HM.out (by have := HXL.out; have := HTP.out; omega) (LngAt.of_row HM.out.inv.1.1.2.1) (idsB_nodup n) (fun x hx => by have := idsB_in hx; have := HXL.out; have := HTP.out; omega) (by rw [idsB_len]; omega) (by have := HXL.out; have := HT64.out; omega))
          clear hbx hmv HJ
          go_upto_region 31 with (go_at_call 86; refine HNW.out.mono ?_; rintro e w9 ⟨R', bb, q', cs, rfl, hle, hb, hm⟩; have HLE := Lib.hid hle; have HB := Lib.hid hb; have H9 := Lib.hid hm; clear hle hb hm)
          have k4 : w9.cell? ⟨W.heap.size, 4, none⟩ = some (.int .i64 al) := (obj_cell (HLE.out.2 _ H9.out.inv).1.1.1.2.1 4).trans rfl
          have HL2 : Hid (xs.length < (xs ++ [0]).length) := Lib.hid (by simp)
          clear HNW HM
          go_region_held3 (fun w' => w'.cell? ⟨W.heap.size, 4, none⟩ = some (.int .i64 al)) (first
              | assumption
              | go_simp) (first
              | (go_at_call 84; refine (balert HB.out (H9.out.keep (Below.drew (Below.refl _ _))).inv).mono ?_; rintro e w5 ⟨rfl, rfl⟩)
              | (go_at_call 31; refine (store_mv (H9.out.keep (Below.drew (Below.refl _ _))) xs.length al HL2.out (by omega) (by omega)).mono ?_; rintro e wA ⟨rfl, hm⟩; rw [set_last] at hm; have HA1 := Lib.hid hm; have j4 : wA.cell? ⟨W.heap.size, 4, none⟩ = some (.int .i64 al) := (obj_cell (HLE.out.2 _ HA1.out.inv).1.1.1.2.1 4).trans rfl; clear hm))
          clear k4 j4
          have HL0 : Hid (Mv (R'.row W.heap.size 2 1 (.slice none 0 0) (((zsB y 0).filter fun s => isL (zsB y m) (two k) s)).length (((zsB y 0).filter fun s => isL (zsB y m) (two k) s).map (Value.int .i64))) W wA a (xs ++ [al]) ((m : Int) + 1)) := Lib.hid (HA1.out.nil 2 1)
          have HRW : Hid (∀ w, R'.inv w → w.ownsRow W.heap.size 2 1 (.slice p15 m c15) m ((zsB y m).map (Value.int .i64)) ∧ w.cell? ⟨W.heap.size, 5, none⟩ = some (.int .u8 sf)) := Lib.hid fun w h => ⟨(HLE.out.2 _ h).2.1, (obj_cell (HLE.out.2 _ h).1.1.1.2.1 5).trans rfl⟩
          clear HA1
          go_wp2_with fail
          go_loopw [21, 160] (fun v21 i wl => ∃ j : Nat, j ≤ m ∧ i = .int .i64 j ∧ Hid (Mv (R'.row W.heap.size 2 1 v21 ((zsB y j).filter fun s => isL (zsB y m) (two k) s).length (((zsB y j).filter fun s => isL (zsB y m) (two k) s).map (Value.int .i64))) W wl a (xs ++ [al]) ((m : Int) + 1))) (fun _ i _ => m - (intOf i).toNat)
          case atStart => exact ⟨0, Nat.zero_le _, rfl, HL0⟩
          case round =>
            clear HL0
            obtain ⟨j, hj, rfl, HJ⟩ := hrel
            by_cases hlt : j < m
            · as_aux_lemma =>
              obtain ⟨hrow, k5⟩ := HRW.out _ HJ.out.inv.1
              obtain ⟨g, cap, hsl, _, _⟩ := row_some hrow (by omega)
              obtain ⟨h1, h2⟩ : p15 = some ⟨g, 0, none⟩ ∧ c15 = cap := by cases hsl; exact ⟨rfl, rfl⟩
              subst h1 h2
              obtain ⟨ps', cb', he, _, hcs⟩ := HS.out
              have hys : ∀ i, i < m → 0 ≤ y i ∧ y i ≤ 255 := fun i hi => by
                obtain ⟨b, off, hps, hcc⟩ := hcs.resolve_left (by omega)
                exact (hcc i hi).2
              obtain ⟨y0, y1⟩ := hys j hlt
              have cy : wr.cell? ⟨g, j, none⟩ = some (.int .i64 (y j)) := (hrow.cellAt j (by simpa [zsB_len] using hlt)).trans (by rw [List.getElem?_map, zsB_at y hlt]; rfl)
              have HSR : Hid (SRow wr (.slice (some ⟨g, 0, none⟩) m c15) (zsB y m)) := Lib.hid ⟨by rw [zsB_len]; exact row_base hrow (Nat.zero_le _), fun s hs => by
                unfold zsB at hs
                rw [List.mem_map] at hs
                obtain ⟨i, hi, rfl⟩ := hs
                rw [List.mem_range] at hi
                have := hys i hi
                omega⟩
              have HIS : Hid (Calls Try.prog 115 #[.slice (some ⟨g, 0, none⟩) m c15, .int .i64 (two k), .int .i64 (y j)] wr fun e w' => e = .returned (.bool (isL (zsB y m) (two k) (y j))) ∧ Below wr.heap.size wr w') := Lib.hid (refIs_any wr _ _ HSR.out (two k) (y j) (by have := HTP.out; omega) (by have := HT64.out; omega) y0 (by omega))
              have HYJ : Hid (zsB y (j + 1) = zsB y j ++ [y j]) := Lib.hid (zsB_succ y j)
              have ht := HT.out
              have HLL : Hid (((zsB y j).filter fun s => isL (zsB y m) (two k) s).length ≤ j) := Lib.hid (by have h := List.length_filter_le (fun s => isL (zsB y m) (two k) s) (zsB y j); rw [zsB_len] at h; exact h)
              obtain ⟨p21, c21, rfl, -⟩ := row_form HJ.out.rowIs
              clear hrow hsl he hcs hys HSR
              by_cases hq : isL (zsB y m) (two k) (y j) = true
              · rw [hq] at HIS
                have HFL : Hid ((zsB y (j + 1)).filter (fun s => isL (zsB y m) (two k) s) = (zsB y j).filter (fun s => isL (zsB y m) (two k) s) ++ [y j]) := Lib.hid (by rw [HYJ.out, List.filter_append, List.filter_cons_of_pos hq]; rfl)
                clear hq HYJ
                generalize y j = yj at *
                generalize (zsB y j).filter (fun s => isL (zsB y m) (two k) s) = lj at *
                go_wp2_with (first
                  | (go_at_call 115; rw [HMN.out, HWT.out]; refine HIS.out.mono ?_; rintro e wB ⟨rfl, hb⟩; have HB2 := Lib.hid (HJ.out.keep hb); clear hb)
                  | (at_builtin; refine wpList_append_row rfl _ _ 38 rfl 2 i8 (.int .i64 0) 1 8 Try.underlying38 gi gz0 gz1 gz2 rfl (by decide) (.slice p21 lj.length c21) lj.length _ rfl (row_base (HB2.out.rowIs.alloc _) (Nat.zero_le _)) ⟨wB.heap.size, 0, none⟩ 1 1 [.int .i64 yj] rfl rfl (one_cell _ _ _) (fun x hx => by simp at hx; subst hx; rfl) (by have := HLL.out; unfold maxLen; omega) (by have := HLL.out; omega) ?_; intro v' wC hown hf hv; have HC := Lib.hid ((HB2.out.keep (balloc (Below.refl _ _) _)).app hown hf hv); obtain ⟨p5, c5, rfl, -⟩ := row_form hown; clear hown hf hv))
                have HD : Hid (Mv (R'.row W.heap.size 2 1 (.slice p5 (lj.length + 1) c5) ((zsB y (j + 1)).filter fun s => isL (zsB y m) (two k) s).length (((zsB y (j + 1)).filter fun s => isL (zsB y m) (two k) s).map (Value.int .i64))) W wC a (xs ++ [al]) ((m : Int) + 1)) := Lib.hid (by
                  have h := HC.out
                  rw [HFL.out, List.map_append, List.length_append]
                  exact h)
                exact ⟨⟨j + 1, by omega, by go_num, HD⟩, by simp [intOf]; omega⟩
              · have hq' : isL (zsB y m) (two k) (y j) = false := by simpa using hq
                rw [hq'] at HIS
                have HFL : Hid ((zsB y (j + 1)).filter (fun s => isL (zsB y m) (two k) s) = (zsB y j).filter (fun s => isL (zsB y m) (two k) s)) := Lib.hid (by rw [HYJ.out, List.filter_append, List.filter_cons_of_neg hq]; simp)
                clear hq hq' HYJ
                generalize y j = yj at *
                go_wp2_with (go_at_call 115; rw [HMN.out, HWT.out]; refine HIS.out.mono ?_; rintro e wB ⟨rfl, hb⟩; have HB2 := Lib.hid (HJ.out.keep hb); clear hb)
                have HD : Hid (Mv (R'.row W.heap.size 2 1 (.slice p21 _ c21) ((zsB y (j + 1)).filter fun s => isL (zsB y m) (two k) s).length (((zsB y (j + 1)).filter fun s => isL (zsB y m) (two k) s).map (Value.int .i64))) W wB a (xs ++ [al]) ((m : Int) + 1)) := Lib.hid (by
                  rw [HFL.out]
                  exact HB2.out)
                exact ⟨⟨j + 1, by omega, by go_num, HD⟩, by simp [intOf]; omega⟩
            · as_aux_lemma =>
              obtain rfl : m = j := by omega
              clear hlt hj
              go_wp2_with fail
              (try simp only [Exit.inBlock, Exit.then]); refine bodyPost_ret (results_tmp4 rfl _ _ _) rfl ?_
              have hn1 := HXL.out
              have h64 := HT64.out
              have h1 := HTP.out
              have hpl := HPL.out
              refine ⟨_, a, bb, cs, xs ++ [al], xs.length, some (q', F, k), _, leftL (zsB y m) (two k), _, rfl, HJ.out, ⟨fun w h => HB.out.blk w h.1, HB.out.f, fun q f k h w hw => HB.out.sh q f k h w hw.1, HB.out.len⟩, ⟨by simp, by simp, fun i hi => ?_, fun q f k h => ?_⟩, by omega, by simp, fun i hi => ?_, ?_, rfl, fun f h s h0 => ?_, fun w hw => LngAt.of_row hw.2.1, ?_, by simp; omega, by omega⟩
              · have hi' : i < n := by rw [idsB_len] at hi; exact hi
                rw [idsB_at hi']
                simp
                omega
              · cases h
                have := HF.out
                simp
                omega
              · rw [List.getElem?_append_left (by omega)]
                exact HBX.out.2.1 i (by omega)
              · unfold yOf
                simp [List.getD_eq_getElem?_getD]
              · have e : shownB (xs ++ [al]) F k = f := Option.some.inj h
                rw [← e, ← leftL_mem, ← HF.out, HBX.out.eq (fun i hi => List.getElem?_append_left hi) s h0]
              · have h2 := List.length_filter_le (fun s => isL (zsB y m) (two k) s) (zsB y m)
                rw [zsB_len] at h2
                unfold leftL
                omega
end
end Go.Proofs.Ytejkjpmigajidaa
