/-
  Claims one behind the other in a buffer of 256 places: where each begins, which of them are shown, up to where all are, by contract; their rows beside a sequencer. No condition but those that each theorem names.
-/
import Derived.Test.YteinfkcnengmeaaMj
namespace Go.Proofs.Yteinfkcnengmeaa
open Go.RowKit
set_option linter.unusedVariables false

/-- How much one claims. -/
def wdt (z : Nat → Int) (j : Nat) : Nat := ((z j) % 5).toNat + 1
/-- Where one begins. -/
def bnd (z : Nat → Int) : Nat → Nat
  | 0 => 0
  | j + 1 => bnd z j + wdt z j
theorem wdt_le (z : Nat → Int) (j : Nat) : 1 ≤ wdt z j ∧ wdt z j ≤ 5 := by
  unfold wdt
  have := Int.emod_nonneg (z j) (show (5 : Int) ≠ 0 by decide)
  have := Int.emod_lt_of_pos (z j) (show (0 : Int) < 5 by decide)
  omega
theorem bnd_le (z : Nat → Int) (j : Nat) : bnd z j ≤ 5 * j := by
  induction j with
  | zero => simp [bnd]
  | succ j ih => have := (wdt_le z j).2; simp only [bnd]; omega
theorem bnd_mono (z : Nat → Int) {i j : Nat} (h : i ≤ j) : bnd z i ≤ bnd z j := by
  induction j with
  | zero => obtain rfl : i = 0 := by omega
            exact Nat.le_refl _
  | succ j ih =>
    by_cases e : i = j + 1
    · subst e; exact Nat.le_refl _
    · have := ih (by omega)
      simp only [bnd]
      omega
theorem bnd_own (z : Nat → Int) (x m : Nat) (h : x < bnd z m) : ∃ i, i < m ∧ bnd z i ≤ x ∧ x < bnd z (i + 1) := by
  induction m with
  | zero => simp [bnd] at h
  | succ m ih =>
    by_cases e : x < bnd z m
    · obtain ⟨i, h1, h2⟩ := ih e
      exact ⟨i, by omega, h2⟩
    · exact ⟨m, by omega, by omega, h⟩

theorem two8 : two 8 = 256 := by decide
theorem shown8 (sh : List Int) (x : Nat) (hx : x < 256) : shownB sh 0 8 x = (sh.getD x 0 == 0) := by
  unfold shownB
  rw [two8, Int.emod_eq_of_lt (by omega) (by omega), Int.ediv_eq_zero_of_lt (by omega) (by omega)]
  simp
theorem show8 (sh : List Int) (hl : sh.length = 256) (lo m x : Nat) (hm : lo + m ≤ 256) (hx : x < 256) : shownB (showN sh 0 8 lo m) 0 8 x = ((decide (lo ≤ x) && decide (x < lo + m)) || shownB sh 0 8 x) := by
  induction m with
  | zero =>
    have : (decide (lo ≤ x) && decide (x < lo + 0)) = false := by
      simp only [Bool.and_eq_false_iff, decide_eq_false_iff_not]
      omega
    rw [this]
    rfl
  | succ m ih =>
    have ih := ih (by omega)
    rw [shown8 _ _ hx] at ih ⊢
    rw [showN]
    have e1 : ((lo : Int) + (m : Int)) % two 8 = ((lo + m : Nat) : Int) := by rw [two8, Int.emod_eq_of_lt (by omega) (by omega)]; omega
    have e2 : ((lo : Int) + (m : Int)) / two 8 = 0 := by rw [two8, Int.ediv_eq_zero_of_lt (by omega) (by omega)]
    rw [e1, e2]
    simp only [Int.toNat_natCast, Nat.zero_add]
    by_cases e : lo + m = x
    · subst e
      have hl2 : lo + m < (showN sh 0 8 lo m).length := by rw [showN_len]; omega
      have : (decide (lo ≤ lo + m) && decide (lo + m < lo + (m + 1))) = true := by
        simp only [Bool.and_eq_true, decide_eq_true_eq]
        omega
      rw [this]
      simp [List.getD, List.getElem?_set_self hl2]
    · have : (decide (lo ≤ x) && decide (x < lo + (m + 1))) = (decide (lo ≤ x) && decide (x < lo + m)) := by
        congr 1
        rw [decide_eq_decide]
        omega
      rw [this, ← ih]
      simp [List.getD, List.getElem?_set_ne e]

/-- What is shown: the claims that are done. -/
def DoneIs (z : Nat → Int) (K : Nat) (sh : List Int) (ds : List Bool) : Prop :=
  sh.length = 256 ∧ ds.length = K ∧ ∀ i, i < K → ∀ x : Nat, bnd z i ≤ x → x < bnd z (i + 1) → shownB sh 0 8 x = ds.getD i false
theorem done_start (z : Nat → Int) (K : Nat) (hK : K ≤ 12) (nn : Nat) (hnn : nn = 256) : DoneIs z K (List.replicate nn (-1)) (List.replicate K false) := by
  refine ⟨by rw [List.length_replicate]; exact hnn, List.length_replicate, fun i hi x h1 h2 => ?_⟩
  have := bnd_le z (i + 1)
  rw [shown8 _ _ (by omega)]
  have hx : x < nn := by omega
  rw [List.getD_eq_getElem?_getD, List.getD_eq_getElem?_getD, List.getElem?_replicate, List.getElem?_replicate, if_pos hx, if_pos hi]
  rfl
theorem done_set {z : Nat → Int} {K : Nat} {sh : List Int} {ds : List Bool} (h : DoneIs z K sh ds) (hK : K ≤ 12) {i : Nat} (hi : i < K) : DoneIs z K (showN sh 0 8 (bnd z i) (wdt z i)) (ds.set i true) := by
  obtain ⟨h1, h2, h3⟩ := h
  have hb := bnd_le z (i + 1)
  refine ⟨by rw [showN_len]; exact h1, by simpa using h2, fun j hj x e1 e2 => ?_⟩
  have hbj := bnd_le z (j + 1)
  have hs := h3 j hj x e1 e2
  have hw : bnd z i + wdt z i = bnd z (i + 1) := rfl
  rw [show8 sh h1 (bnd z i) (wdt z i) x (by omega) (by omega), hw]
  by_cases e : i = j
  · subst e
    have : (decide (bnd z i ≤ x) && decide (x < bnd z (i + 1))) = true := by
      simp only [Bool.and_eq_true, decide_eq_true_eq]
      exact ⟨e1, e2⟩
    rw [this]
    simp [List.getD, List.getElem?_set_self (show i < ds.length by omega)]
  · have : (decide (bnd z i ≤ x) && decide (x < bnd z (i + 1))) = false := by
      simp only [Bool.and_eq_false_iff, decide_eq_false_iff_not]
      rcases Nat.lt_or_gt_of_ne e with e | e
      · have := bnd_mono z (show i + 1 ≤ j by omega)
        omega
      · have := bnd_mono z (show j + 1 ≤ i by omega)
        omega
    rw [this, hs]
    simp [List.getD, List.getElem?_set_ne e]
/-- Up to where all is shown. -/
theorem done_run {z : Nat → Int} {K : Nat} {sh : List Int} {ds : List Bool} (h : DoneIs z K sh ds) (hK : K ≤ 12) {m : Nat} (hm : m ≤ K) (ha : ∀ i, i < m → ds.getD i false = true) (hn : m < K → ds.getD m false = false) : RunTo (shownB sh 0 8) 0 ((bnd z K : Nat) - 1 : Int) (bnd z m) := by
  obtain ⟨h1, h2, h3⟩ := h
  refine ⟨fun x hx => ?_, fun hle => ?_, ?_⟩
  · obtain ⟨i, i1, i2, i3⟩ := bnd_own z x m hx
    have := h3 i (by omega) x i2 i3
    rw [Int.zero_add, this]
    exact ha i i1
  · have hlt : m < K := by
      rcases Nat.lt_or_ge m K with e | e
      · exact e
      · obtain rfl : m = K := by omega
        omega
    have hw := (wdt_le z m).1
    have := h3 m hlt (bnd z m) (Nat.le_refl _) (by show bnd z m < bnd z m + wdt z m; omega)
    rw [Int.zero_add, this]
    exact hn hlt
  · have := bnd_mono z hm
    omega

set_option maxHeartbeats 1000000 in
theorem upTo_ok {R : Rest} {W0 W : World} {s : Sh} {c sn sw st : Int} {sh : List Int} (h : Lv R W0 W s c sn sh [] sw st) (hk : s.k = 8) {z : Nat → Int} {K : Nat} {ds : List Bool} (hK : K ≤ 12) (hc : c = (bnd z K : Nat) - 1) (hD : DoneIs z K sh ds) {B1 B2 : Nat} {dp hp : Option Addr} {dc hc' : Nat}
    (hd : W.ownsRow B1 4 1 (.slice dp K dc) K (ds.map Value.bool)) (hh : W.ownsRow B2 2 1 (.slice hp K hc') K ((List.range K).map fun j => Value.int .i64 ((bnd z (j + 1) : Nat) - 1))) (h0 : 0 ≤ st) (h1 : st < 1152921504606846976) :
    Calls Try.prog 65 #[.pointer (some ⟨s.p, 0, none⟩), .slice dp K dc, .slice hp K hc'] W fun e w' => e = .returned (.bool true) ∧ ∃ st', st ≤ st' ∧ st' ≤ st + 1048578 ∧ Lv R W0 w' s c sn sh [] sw st' := by
  have HHI : Hid (∀ m, m ≤ K → (∀ i, i < m → ds.getD i false = true) → (m < K → ds.getD m false = false) → Calls Try.prog 63 #[.pointer (some ⟨s.p, 0, none⟩), .int .i64 0] W fun e w' => e = .returned (.tuple #[.int .i64 ((bnd z m : Nat) - 1), .nilIface]) ∧ ∃ st', st ≤ st' ∧ st' ≤ st + 1048578 ∧ Lv R W0 w' s c sn sh [] sw st') := by
    intro m hm ha hn
    have hb := bnd_le z K
    refine (lhigh h 0 (by decide) (by decide) (by omega) h0 h1).mono ?_
    rintro e w' ⟨j, hr, he, k⟩
    rw [hk, hc] at hr
    obtain rfl := hr.unique (done_run hD hK hm ha hn) fun _ _ _ => rfl
    exact ⟨by rw [he, Int.zero_add], k⟩
  have HD := Lib.hid hd
  have HH := Lib.hid hh
  have HDL : Hid (ds.length = K) := Lib.hid hD.2.1
  clear h hD hd hh hc
  go_enter Try.func65, Try.ntmps65
  go_wp2_with fail
  go_loopw [7, 13] (fun wv i wl => ∃ m : Nat, m ≤ K ∧ i = .int .i64 m ∧ wv = .int .i64 ((bnd z m : Nat) - 1) ∧ wl = W ∧ ∀ i, i < m → ds.getD i false = true) (fun _ i _ => K - (intOf i).toNat)
  case atStart => exact ⟨0, Nat.zero_le _, rfl, rfl, rfl, fun i hi => by omega⟩
  case round =>
    obtain ⟨m, hm, rfl, rfl, rfl, ha⟩ := hrel
    by_cases hlt : m < K
    · obtain ⟨rd, capd, hsd, _⟩ := row_some HD.out (by omega)
      obtain ⟨rh, caph, hsh, _⟩ := row_some HH.out (by omega)
      simp only [Value.slice.injEq, true_and] at hsd hsh
      obtain ⟨rfl, rfl⟩ := hsd
      obtain ⟨rfl, rfl⟩ := hsh
      have cd : wr.cell? ⟨rd, m, none⟩ = some (.bool (ds.getD m false)) := by
        rw [HD.out.cellAt m (by omega)]
        have : m < ds.length := by rw [HDL.out]; exact hlt
        simp [List.getElem?_eq_getElem this]
      have ch : wr.cell? ⟨rh, m, none⟩ = some (.int .i64 ((bnd z (m + 1) : Nat) - 1)) := by
        rw [HH.out.cellAt m (by omega)]
        simp [hlt]
      have HHM := Lib.hid (HHI.out m hm ha)
      cases hq : ds.getD m false
      · rw [hq] at cd
        have HG := Lib.hid (HHM.out fun _ => hq)
        clear HHM HHI
        go_wp2_with (go_at_call 63; refine HG.out.mono ?_; rintro e w1 ⟨rfl, st', a1, a2, hl⟩; have HL := Lib.hid hl; clear hl)
        go_ret
        exact ⟨by simp, st', a1, a2, HL.out⟩
      · rw [hq] at cd
        have HA : Hid (∀ i, i < m + 1 → ds.getD i false = true) := Lib.hid (by
          intro i hi
          by_cases e : i = m
          · subst e; exact hq
          · exact ha i (by omega))
        clear ha HHM HHI
        go_wp2_with fail
        exact ⟨⟨m + 1, by omega, by go_num, by first | trivial | rfl, by first | trivial | rfl, HA.out⟩, by simp [intOf]; omega⟩
    · obtain rfl : m = K := by omega
      have HG := Lib.hid (HHI.out m (Nat.le_refl _) ha fun h => by omega)
      clear HHI ha
      go_wp2_with (go_at_call 63; refine HG.out.mono ?_; rintro e w1 ⟨rfl, st', a1, a2, hl⟩; have HL := Lib.hid hl; clear hl)
      go_ret
      exact ⟨by simp, st', a1, a2, HL.out⟩

def losV (z : Nat → Int) (r : Nat) : List Value := (List.range r).map fun j => Value.int .i64 (bnd z j)
def hisV (z : Nat → Int) (r : Nat) : List Value := (List.range r).map fun j => Value.int .i64 ((bnd z (j + 1) : Nat) - 1)
theorem losV_succ (z : Nat → Int) (r : Nat) : losV z (r + 1) = losV z r ++ [Value.int .i64 (bnd z r)] := by simp [losV, List.range_succ]
theorem hisV_succ (z : Nat → Int) (r : Nat) : hisV z (r + 1) = hisV z r ++ [Value.int .i64 ((bnd z (r + 1) : Nat) - 1)] := by simp [hisV, List.range_succ]
theorem losV_at (z : Nat → Int) {r j : Nat} (h : j < r) : (losV z r)[j]? = some (.int .i64 (bnd z j)) := by simp [losV, h]
theorem hisV_at (z : Nat → Int) {r j : Nat} (h : j < r) : (hisV z r)[j]? = some (.int .i64 ((bnd z (j + 1) : Nat) - 1)) := by simp [hisV, h]

/-- The two rows while they grow. -/
def RO (B : Nat) (z : Nat → Int) (rl rh : Nat) (lv hv : Value) : Rest := (R0.row B 2 1 lv rl (losV z rl)).row B 2 1 hv rh (hisV z rh)
/-- All three. -/
def RD (B : Nat) (z : Nat → Int) (K : Nat) (lv hv dv : Value) (ds : List Bool) : Rest := (RO B z K K lv hv).row B 4 1 dv K (ds.map Value.bool)
section
variable {W0 W w : World} {s : Sh} {c sn sw st : Int} {sh gv : List Int} {z : Nat → Int} {rl rh K : Nat} {lv hv dv v' : Value} {ds : List Bool}
theorem or_start (h : Lv R0 W0 W s c sn sh gv sw st) : Lv (RO W0.heap.size z 0 0 (.slice none 0 0) (.slice none 0 0)) W0 W s c sn sh gv sw st :=
  h.of_ms ((h.ms.nil 2 1).nil 2 1)
theorem or_l (h : Lv (RO W0.heap.size z rl rh lv hv) W0 W s c sn sh gv sw st) : W.ownsRow W0.heap.size 2 1 lv rl (losV z rl) := h.ms.inv.1.2.1
theorem or_h (h : Lv (RO W0.heap.size z rl rh lv hv) W0 W s c sn sh gv sw st) : W.ownsRow W0.heap.size 2 1 hv rh (hisV z rh) := h.ms.inv.2.1
theorem or_lo (h : Lv (RO W0.heap.size z rl rh lv hv) W0 W s c sn sh gv sw st) {o : Obj} {y : Int} (hy : y = bnd z rl) (hown : w.ownsRow 0 2 1 v' (rl + 1) (losV z rl ++ [.int .i64 y])) (hf : Frm (fun k => lv.ownBlock = some k) (W.alloc o) w) (hv' : v'.ownBlock = lv.ownBlock ∨ ∀ g, v'.ownBlock = some g → (W.alloc o).heap.size ≤ g) :
    Lv (RO W0.heap.size z (rl + 1) rh v' hv) W0 w s c sn sh gv sw st := by
  subst hy
  rw [← losV_succ] at hown
  exact h.of_ms ((h.ms.swap.app (by decide) o hown hf hv').swap)
theorem or_hi (h : Lv (RO W0.heap.size z rl rh lv hv) W0 W s c sn sh gv sw st) {o : Obj} {y : Int} (hy : y = (bnd z (rh + 1) : Nat) - 1) (hown : w.ownsRow 0 2 1 v' (rh + 1) (hisV z rh ++ [.int .i64 y])) (hf : Frm (fun k => hv.ownBlock = some k) (W.alloc o) w) (hv' : v'.ownBlock = hv.ownBlock ∨ ∀ g, v'.ownBlock = some g → (W.alloc o).heap.size ≤ g) :
    Lv (RO W0.heap.size z rl (rh + 1) lv v') W0 w s c sn sh gv sw st := by
  subst hy
  rw [← hisV_succ] at hown
  exact h.of_ms (h.ms.app (by decide) o hown hf hv')
def mkB (n : Nat) : Array Value := madeCells (Value.bool false).cells (n * 1)
theorem infoBo : (Try.prog.info? 4).map (fun i => (i.zero, i.size, i.bytes)) = some (some (.bool false), 1, 1) := by kernel_rfl
theorem make_bools (n : Nat) (hn : n ≤ 12) (w : World) :
    (Instr.makeSlice 105 (.int .i64 (n : Int)) (.int .i64 (n : Int))).run Try.prog w = .ok (.slice (some ⟨w.heap.size, 0, none⟩) n n) (w.alloc (.cells (mkB n) 4)) := by
  obtain ⟨i0, hi, hz0, hz1, hz2⟩ := info_parts infoBo
  have := run_make (P := Try.prog) w 105 4 i0 _ Try.underlying105 hi hz0 .i64 .i64 (n : Int) (n : Int) (by omega) (Int.le_refl _) (by rw [hz2]; omega) (by omega)
  rw [this]
  simp only [Int.toNat_natCast, hz1]
  rfl
theorem rd_made (h : Lv (RO W0.heap.size z K K lv hv) W0 W s c sn sh gv sw st) (hK : K ≤ 12) : Lv (RD W0.heap.size z K lv hv (.slice (some ⟨W.heap.size, 0, none⟩) K K) (List.replicate K false)) W0 (W.alloc (.cells (mkB K) 4)) s c sn sh gv sw st := by
  have ho := World.ownsRow_lit (base := W.heap.size) (e := 4) (size := 1) W (mkB K) K (Nat.le_refl _) (by unfold maxLen; omega) (by simp [mkB, size_madeCells])
  have e : (mkB K).toList = (List.replicate K false).map Value.bool := by
    unfold mkB
    rw [show (Value.bool false).cells = #[.bool false] from rfl, toList_madeCells_one]
    simp
  rw [e] at ho
  exact h.of_ms (h.ms.more ((Frm.refl _ _).alloc _) ho)
theorem rd_d (h : Lv (RD W0.heap.size z K lv hv dv ds) W0 W s c sn sh gv sw st) : W.ownsRow W0.heap.size 4 1 dv K (ds.map Value.bool) := h.ms.inv.2.1
theorem rd_l (h : Lv (RD W0.heap.size z K lv hv dv ds) W0 W s c sn sh gv sw st) : W.ownsRow W0.heap.size 2 1 lv K (losV z K) := h.ms.inv.1.1.2.1
theorem rd_h (h : Lv (RD W0.heap.size z K lv hv dv ds) W0 W s c sn sh gv sw st) : W.ownsRow W0.heap.size 2 1 hv K (hisV z K) := h.ms.inv.1.2.1
theorem rd_set {g cap : Nat} (h : Lv (RD W0.heap.size z K lv hv (.slice (some ⟨g, 0, none⟩) K cap) ds) W0 W s c sn sh gv sw st) (i : Nat) : Lv (RD W0.heap.size z K lv hv (.slice (some ⟨g, 0, none⟩) K cap) (ds.set i true)) W0 (W.setCell ⟨g, i, none⟩ (.bool true)) s c sn sh gv sw st := by
  have := h.ms.put (by decide) i (.bool true)
  rw [show (ds.map Value.bool).set i (.bool true) = (ds.set i true).map Value.bool by rw [List.map_set]] at this
  exact h.of_ms this
end
end Go.Proofs.Yteinfkcnengmeaa
