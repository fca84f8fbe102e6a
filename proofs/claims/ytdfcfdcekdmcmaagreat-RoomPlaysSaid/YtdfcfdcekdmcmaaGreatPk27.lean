/-
  The document's world of layer 14: Show by contract. No condition but those that each theorem names.
-/
import Derived.Test.YtdfcfdcekdmcmaaGreatPk26
import Derived.Deep.RegionHeld3
import Derived.BigRegion
set_option linter.unusedVariables false
set_option linter.unusedSimpArgs false
namespace Go.Proofs.YtdfcfdcekdmcmaaGreat
open Go.RowKit
set_option linter.unusedVariables false
set_option linter.unusedSimpArgs false
def showD (x : Dr) (at' hi : Int) : Int × Int × Dr :=
  if hi < at' then (0, 1, x)
  else if x.many = false then (if hi ≤ x.p ∨ x.c < hi then (0, 1, x) else (hi + 1, 0, { x with p := hi }))
  else if at' < 0 ∨ x.c < at' then (0, 1, x) else (at' + 1, 0, { x with shown := x.shown.set (at'.tmod (two x.k)).toNat at' })
theorem set_same {α : Type} {L : List α} {i : Nat} {x : α} (h : L[i]? = some x) : L.set i x = L := by
  apply List.ext_getElem?
  intro k
  by_cases e : i = k
  · subst e
    rw [List.getElem?_set_self (List.getElem?_eq_some_iff.1 h).1, h]
  · rw [List.getElem?_set_ne e]
section
variable {R : Rest} {W0 W w : World} {a : Nat} {cs : List Int} {st : Int} {d : Dw} {i : Nat} {x : Dr}
theorem dshow_none (h : Dm R W0 W a cs st d) (z at' hi : Int) (hz : z < 0 ∨ (d.L.length : Int) ≤ z) (hl : d.L.length ≤ 8) :
    Calls Tryz.prog 65 #[.pointer (some ⟨d.wb, 0, none⟩), .int .i64 z, .int .i64 at', .int .i64 hi] W fun e w' => e = .returned (.tuple #[.int .i64 0, .int .i64 3]) ∧ W = w' := by
  obtain ⟨p, cap, hv, -⟩ := row_form h.rings
  have k4 : W.cell? ⟨d.wb, 4, none⟩ = some (.slice p d.L.length cap) := (obj_cell h.box 4).trans (by simp [Dw.cells, hv])
  generalize d.L.length = n at *
  generalize d.wb = wb at *
  clear h hv
  by_cases hn : z < 0
  · have e1 : decide (z < 0) = true := decide_eq_true hn
    go_enter Tryz.func65, Tryz.ntmps65
    go_wp2
    go_ret2
    exact ⟨rfl, rfl⟩
  · have e1 : decide (z < 0) = false := decide_eq_false hn
    have e2 : decide ((n : Int) ≤ z) = true := decide_eq_true (by omega)
    go_enter Tryz.func65, Tryz.ntmps65
    go_wp2
    go_ret2
    exact ⟨rfl, rfl⟩
set_option maxHeartbeats 4000000 in
set_option maxRecDepth 100000 in
theorem dshow_any (h : Dm R W0 W a cs st d) (hx : d.L[i]? = some x) (hl : d.L.length ≤ 8) (hk : x.k ≤ 20) (hsl : (x.shown.length : Int) = two x.k) (at' hi : Int) (hc : -1 ≤ x.c) (hc2 : x.c ≤ 4611686018427387904) (hp : -1 ≤ x.p) :
    Calls Tryz.prog 65 #[.pointer (some ⟨d.wb, 0, none⟩), .int .i64 i, .int .i64 at', .int .i64 hi] W fun e w' => e = .returned (.tuple #[.int .i64 (showD x at' hi).1, .int .i64 (showD x at' hi).2.1]) ∧ Dm R W0 w' a cs st { d with L := d.L.set i (showD x at' hi).2.2 } ∧ ((showD x at' hi).2.1 = 0 ∨ W = w') := by
  obtain ⟨rb, cap, hv, hcl, hfr⟩ := h.at hx
  have hil : i < d.L.length := (List.getElem?_eq_some_iff.1 hx).1
  have k4 : W.cell? ⟨d.wb, 4, none⟩ = some (.slice (some ⟨rb, 0, none⟩) d.L.length cap) := (obj_cell h.box 4).trans (by simp [Dw.cells, hv])
  have r0 := hcl 0 _ rfl
  simp only [Nat.add_zero] at r0
  have r1 := hcl 1 _ rfl
  have r2 := hcl 2 _ rfl
  have r3 := hcl 3 _ rfl
  have r5 := hcl 5 _ rfl
  have fr3 := hfr (i * 9 + 3)
  have b0 : (0 : Int) ≤ (i : Int) := by omega
  have b1 : (i : Int) < (d.L.length : Int) := by omega
  have e0 : decide ((i : Int) < 0) = false := decide_eq_false (by omega)
  have e00 : decide ((d.L.length : Int) ≤ (i : Int)) = false := decide_eq_false (by omega)
  have HSAME : Hid (Dm R W0 W a cs st { d with L := d.L.set i x }) := Lib.hid (by rw [set_same hx]; exact h)
  have HP := Lib.hid (fun (y : Dr) (u : Value) (hy : y.cells = x.cells.set 3 u) (hl : y.lys = x.lys) => h.set (j := 3) (u := u) (y := y) hx hv (by decide) hy hl)
  have HH := Lib.hid h
  have HX := Lib.hid hx
  by_cases h1 : hi < at'
  · have d1 : decide (hi < at') = true := decide_eq_true h1
    have es : showD x at' hi = (0, 1, x) := by unfold showD; rw [if_pos h1]
    rw [es]
    clear h hx hcl hfr hv
    as_aux_lemma =>
    go_enter Tryz.func65, Tryz.ntmps65
    go_wp2
    go_ret2
    first | exact ⟨rfl, HSAME.out, rfl⟩ | exact ⟨rfl, HSAME.out, .inr rfl⟩
  have d1 : decide (hi < at') = false := decide_eq_false h1
  rcases Bool.eq_false_or_eq_true x.many with hm | hm
  case inr =>
    rw [hm] at r1
    by_cases h2 : hi ≤ x.p
    · have d2 : decide (hi ≤ x.p) = true := decide_eq_true h2
      have es : showD x at' hi = (0, 1, x) := by unfold showD; rw [if_neg h1, if_pos hm, if_pos (.inl h2)]
      rw [es]
      clear h hx hcl hfr hv
      as_aux_lemma =>
      go_enter Tryz.func65, Tryz.ntmps65
      go_wp2
      go_ret2
      first | exact ⟨rfl, HSAME.out, rfl⟩ | exact ⟨rfl, HSAME.out, .inr rfl⟩
    have d2 : decide (hi ≤ x.p) = false := decide_eq_false h2
    by_cases h3 : x.c < hi
    · have d3 : decide (x.c < hi) = true := decide_eq_true h3
      have es : showD x at' hi = (0, 1, x) := by unfold showD; rw [if_neg h1, if_pos hm, if_pos (.inr h3)]
      rw [es]
      clear h hx hcl hfr hv
      as_aux_lemma =>
      go_enter Tryz.func65, Tryz.ntmps65
      go_wp2
      go_ret2
      first | exact ⟨rfl, HSAME.out, rfl⟩ | exact ⟨rfl, HSAME.out, .inr rfl⟩
    · have d3 : decide (x.c < hi) = false := decide_eq_false h3
      have es : showD x at' hi = (hi + 1, 0, { x with p := hi }) := by unfold showD; rw [if_neg h1, if_pos hm, if_neg (by omega)]
      rw [es]
      have HE := Lib.hid (HP.out { x with p := hi } (.int .i64 hi) rfl rfl)
      have hh2 : hi ≤ 4611686018427387904 := by omega
      have hh1 : at' ≤ hi := by omega
      have hh0 : 0 ≤ hi := by omega
      clear h hx hcl hfr hv HP hm es
      as_aux_lemma =>
      go_enter Tryz.func65, Tryz.ntmps65
      go_wp2
      go_ret2
      first | exact ⟨rfl, HE.out⟩ | exact ⟨rfl, HE.out, .inl rfl⟩
  case inl =>
    rw [hm] at r1
    by_cases h2 : at' < 0
    · have d2 : decide (at' < 0) = true := decide_eq_true h2
      have es : showD x at' hi = (0, 1, x) := by unfold showD; rw [if_neg h1, if_neg (by rw [hm]; decide), if_pos (.inl h2)]
      rw [es]
      clear h hx hcl hfr hv
      as_aux_lemma =>
      go_enter Tryz.func65, Tryz.ntmps65
      go_wp2
      go_ret2
      first | exact ⟨rfl, HSAME.out, rfl⟩ | exact ⟨rfl, HSAME.out, .inr rfl⟩
    have d2 : decide (at' < 0) = false := decide_eq_false h2
    by_cases h3 : x.c < at'
    · have d3 : decide (x.c < at') = true := decide_eq_true h3
      have es : showD x at' hi = (0, 1, x) := by unfold showD; rw [if_neg h1, if_neg (by rw [hm]; decide), if_pos (.inr h3)]
      rw [es]
      clear h hx hcl hfr hv
      as_aux_lemma =>
      go_enter Tryz.func65, Tryz.ntmps65
      go_wp2
      go_ret2
      first | exact ⟨rfl, HSAME.out, rfl⟩ | exact ⟨rfl, HSAME.out, .inr rfl⟩
    · have d3 : decide (x.c < at') = false := decide_eq_false h3
      have htp := two_pos x.k
      obtain ⟨m, hmm⟩ : ∃ m : Nat, at'.tmod (two x.k) = (m : Int) := ⟨(at'.tmod (two x.k)).toNat, by have := Int.tmod_nonneg (two x.k) (show 0 ≤ at' by omega); omega⟩
      have hml : m < x.shown.length := by have := Int.tmod_lt_of_pos at' (show (0 : Int) < two x.k by omega); omega
      have es : showD x at' hi = (at' + 1, 0, { x with shown := x.shown.set m at' }) := by unfold showD; rw [if_neg h1, if_neg (by rw [hm]; decide), if_neg (by omega), hmm, Int.toNat_natCast]
      rw [es]
      obtain ⟨sb, scap, hsv, -⟩ := row_some (h.sh hx) (by omega)
      have hsr := h.sh hx
      rw [hsv] at r5 hsr
      obtain ⟨o, ho⟩ : ∃ o : Int, x.shown[m]? = some o := ⟨_, List.getElem?_eq_getElem hml⟩
      have kc : W.cell? ⟨sb, m, none⟩ = some (.int .i64 o) := by
        rw [hsr.cellAt m (by omega), List.getElem?_map, ho]
        rfl
      have fc := hsr.frozenAt m
      have HE : Hid (Dm R W0 (W.setCell ⟨sb, m, none⟩ (.int .i64 at')) a cs st { d with L := d.L.set i { x with shown := x.shown.set m at' } }) := Lib.hid (h.turn hx rfl fun R' hR => by
        have h1 : Mv ((lay W0.heap.size [.row 86 2 x.slv (two x.k).toNat x.sl, .row 3 1 x.wv x.ws.length (x.ws.map (Value.int .i64))] R').row W0.heap.size 2 1 x.shv x.shown.length (x.shown.map (Value.int .i64))) W0 W a cs st := hR
        rw [hsv] at h1
        have h2 := Mv.rowSet h1 m (.int .i64 at')
        rw [← hsv, ← List.map_set] at h2
        show Mv ((lay W0.heap.size [.row 86 2 x.slv (two x.k).toNat x.sl, .row 3 1 x.wv x.ws.length (x.ws.map (Value.int .i64))] R').row W0.heap.size 2 1 x.shv (x.shown.set m at').length ((x.shown.set m at').map (Value.int .i64))) W0 _ a cs st
        rw [List.length_set]
        exact h2)
      have m0 : (0 : Int) ≤ (m : Int) := by omega
      have m1 : (m : Int) < (x.shown.length : Int) := by omega
      have hh2 : at' ≤ 4611686018427387904 := by omega
      have n0 : (two x.k == 0) = false := by simp; omega
      have hh1 : 0 ≤ at' := by omega
      clear h hx hcl hfr hv HP hsr ho hml es hm h1 h2 h3
      as_aux_lemma =>
      go_enter Tryz.func65, Tryz.ntmps65
      go_upto_region 13 with fail
      go_region
      go_wp2
      go_ret2
      first | exact ⟨by simp, HE.out.keep (Below.drew (Below.refl _ _))⟩ | exact ⟨by simp, HE.out.keep (Below.drew (Below.refl _ _)), .inl rfl⟩ | exact ⟨by simp, HE.out.keep (Below.drew (Below.refl _ _)), by simp⟩
end
end Go.Proofs.YtdfcfdcekdmcmaaGreat
