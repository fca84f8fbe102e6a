/-
  Events, Calls, Cursor and Rising of package trace, by contract. Condition: at most 1000 notes.
-/
import Derived.Test.YtnblkkmandlllaaTo
namespace Go.Proofs.Ytnblkkmandlllaa
open Go.RowKit Go.Shelf Go.Maps
set_option linter.unusedVariables false
set_option linter.unusedSimpArgs false

def didB (d who ring : Int) (x : Nt) : Bool := x.deed == d && x.who == who && x.ring == ring
theorem didB_eq (d who ring : Int) : (fun x : Nt => x.deed == d && x.who == who && x.ring == ring) = didB d who ring := rfl
def evN (x : Nt) : Sp := (x.key, x.val)
theorem infoEv : (Try.prog.info? 30).map (fun i => (i.zero, i.size, i.bytes)) = some (some (.agg #[.int .i64 0, .int .i64 0]), 2, 16) := by kernel_rfl
theorem infoEr : (Try.prog.info? 31).map (fun i => (i.zero, i.size, i.bytes)) = some (some (.int .i64 0), 1, 8) := by kernel_rfl

set_option maxRecDepth 100000 in
set_option maxHeartbeats 2000000 in
theorem tevents {W : World} {v : Value} {l : List Nt} {who ring : Int} (hl : NtsAt W v l) (h120 : l.length ≤ 1000) :
    Calls Try.prog 21 #[v, .int .i64 who, .int .i64 ring] W fun e w' => ∃ v', e = .returned v' ∧ SpsAt w' v' ((l.filter (didB 2 who ring)).map evN) ∧ Below W.heap.size W w' := by
  obtain ⟨i0, hi, hz0, hz1, hz2⟩ := info_parts infoEv
  have HC := Lib.hid (tdid (d := 2) (who := who) (ring := ring) hl h120)
  rw [didB_eq] at HC
  obtain ⟨p, c, rfl, hc, hm⟩ := hl.form
  clear hl
  go_enter Try.func21, Try.ntmps21
  go_wp2_with (go_at_call 35; refine HC.out.mono ?_; rintro e w1 ⟨v1, rfl, ho, hb⟩; have HO := Lib.hid ho; have HB := Lib.hid hb; obtain ⟨p1, cq, rfl, -⟩ := row_form ho.own; clear ho hb)
  have HLL : Hid ((l.filter (didB 2 who ring)).length ≤ 1000) := Lib.hid (Nat.le_trans (List.length_filter_le _ _) h120)
  obtain ⟨h, hh⟩ : ∃ h, l.filter (didB 2 who ring) = h := ⟨_, rfl⟩
  have HH := Lib.hid hh
  rw [hh] at HO HLL
  rw [hh]
  clear HC hh
  have hhl := HLL.out
  go_loopw [7, 15] (fun ov iv wl => ∃ k : Nat, k ≤ h.length ∧ iv = .int .i64 k ∧ Hid (wl.ownsRow w1.heap.size 30 2 ov ((h.take k).map evN).length (flatS ((h.take k).map evN)) ∧ Below w1.heap.size w1 wl)) (fun _ iv _ => h.length - (intOf iv).toNat)
  case atStart => exact ⟨0, Nat.zero_le _, rfl, Lib.hid ⟨World.ownsRow_nil _ _ _ _, Below.refl _ _⟩⟩
  case round =>
    obtain ⟨k, hk, rfl, HJ⟩ := hrel
    by_cases hlt : k < h.length
    · obtain ⟨b, off, x, rfl, hx, hb, hwf, ⟨c0, c1, c2, c3, c4, c5, c6, c7⟩⟩ := (HO.out.read.keep HJ.out.2).at_ hlt
      have HS : Hid ((h.take (k + 1)).map evN = (h.take k).map evN ++ [evN x]) := Lib.hid (by rw [take_snocN hx, List.map_append]; rfl)
      have HLK : Hid (((h.take k).map evN).length ≤ 1000) := Lib.hid (by rw [List.length_map, List.length_take]; omega)
      have HA : Hid (∀ cs : Array Value, (wr.alloc (.cells cs 33)).ownsRow w1.heap.size 30 2 u7 ((h.take k).map evN).length (flatS ((h.take k).map evN)) ∧ Below w1.heap.size w1 (wr.alloc (.cells cs 33))) := Lib.hid fun cs => ⟨HJ.out.1.alloc _, HJ.out.2.alloc HJ.out.2.size _⟩
      clear hx hb hwf
      generalize (h.take k).map evN = ss at *
      have hlk := HLK.out
      have HA1 := Lib.hid (HA.out #[.int .i64 x.who, .int .i64 x.ring, .int .i64 x.deed, .int .i64 x.lo, .int .i64 x.seq, .int .i64 x.key, .int .i64 x.val, .int .i64 x.code])
      have d5 : (wr.alloc (.cells #[.int .i64 x.who, .int .i64 x.ring, .int .i64 x.deed, .int .i64 x.lo, .int .i64 x.seq, .int .i64 x.key, .int .i64 x.val, .int .i64 x.code] 33)).cell? ⟨wr.heap.size, 5, none⟩ = some (.int .i64 x.key) := by simp
      have d6 : (wr.alloc (.cells #[.int .i64 x.who, .int .i64 x.ring, .int .i64 x.deed, .int .i64 x.lo, .int .i64 x.seq, .int .i64 x.key, .int .i64 x.val, .int .i64 x.code] 33)).cell? ⟨wr.heap.size, 6, none⟩ = some (.int .i64 x.val) := by simp
      go_upto_region 5 with (fail)
      clear c0 c1 c2 c3 c4 c5 c6 c7
      generalize wr.alloc (.cells #[.int .i64 x.who, .int .i64 x.ring, .int .i64 x.deed, .int .i64 x.lo, .int .i64 x.seq, .int .i64 x.key, .int .i64 x.val, .int .i64 x.code] 33) = wa at *
      clear HA
      go_wp2_with (at_builtin; refine wpList_append_own _ rfl _ _ 48 rfl w1.heap.size 30 i0 _ 2 16 Try.underlying48 hi hz0 hz1 hz2 rfl (by decide) u7 ss.length _ rfl (HA1.out.1.alloc _) ⟨wa.heap.size, 0, none⟩ 1 1 (encS (evN x)) rfl rfl (sp_cell _ (evN x) _) (encS_one _) (by unfold maxLen; omega) (by omega) (by have := HA1.out.2.size; simp at this ⊢; omega) ?_; intro v' w3 hown hg hnil; have HO3 := Lib.hid hown; have HG := Lib.hid hg; clear hown hg hnil)
      exact ⟨⟨k + 1, by omega, by go_num, Lib.hid ⟨by rw [HS.out, flatS_append, flatS_one, List.length_append]; exact HO3.out, Below.app HA1.out.2 HA1.out.2.size HA1.out.1 HG.out⟩⟩, by simp [intOf]; omega⟩
    · obtain rfl : k = h.length := by omega
      rw [List.take_length] at HJ
      obtain ⟨po, co, rfl, -⟩ := row_form HJ.out.1
      go_wp2
      go_ret
      exact ⟨_, rfl, by rw [HH.out]; exact SpsAt.of_own HJ.out.1, bthen HB.out HJ.out.2⟩

/-- The last index that one is done with. -/
def curP (h : List Nt) : Int := match h.getLast? with | some x => x.seq | none => -1
theorem curP_snoc (h : List Nt) (x : Nt) : curP (h ++ [x]) = x.seq := by simp [curP]

set_option maxRecDepth 100000 in
set_option maxHeartbeats 2000000 in
theorem tcursor {W : World} {v : Value} {l : List Nt} {who ring : Int} (hl : NtsAt W v l) (h120 : l.length ≤ 1000) :
    Calls Try.prog 23 #[v, .int .i64 who, .int .i64 ring] W fun e w' => e = .returned (.int .i64 (curP (l.filter (didB 3 who ring)))) ∧ Below W.heap.size W w' := by
  have HC := Lib.hid (tdid (d := 3) (who := who) (ring := ring) hl h120)
  rw [didB_eq] at HC
  obtain ⟨p, c, rfl, hc, hm⟩ := hl.form
  clear hl
  go_enter Try.func23, Try.ntmps23
  go_wp2_with (go_at_call 35; refine HC.out.mono ?_; rintro e w1 ⟨v1, rfl, ho, hb⟩; have HO := Lib.hid ho; have HB := Lib.hid hb; obtain ⟨p1, cq, rfl, -⟩ := row_form ho.own; clear ho hb)
  have HLL : Hid ((l.filter (didB 3 who ring)).length ≤ 1000) := Lib.hid (Nat.le_trans (List.length_filter_le _ _) h120)
  obtain ⟨h, hh⟩ : ∃ h, l.filter (didB 3 who ring) = h := ⟨_, rfl⟩
  have HH := Lib.hid hh
  rw [hh] at HO HLL
  rw [hh]
  clear HC hh
  have hhl := HLL.out
  go_loopw [7, 15] (fun ov iv wl => ∃ k : Nat, k ≤ h.length ∧ iv = .int .i64 k ∧ ov = .int .i64 (curP (h.take k)) ∧ Hid (Below w1.heap.size w1 wl)) (fun _ iv _ => h.length - (intOf iv).toNat)
  case atStart => exact ⟨0, Nat.zero_le _, rfl, rfl, Lib.hid (Below.refl _ _)⟩
  case round =>
    obtain ⟨k, hk, rfl, rfl, HJ⟩ := hrel
    by_cases hlt : k < h.length
    · obtain ⟨b, off, x, rfl, hx, hb, hwf, ⟨c0, c1, c2, c3, c4, c5, c6, c7⟩⟩ := (HO.out.read.keep HJ.out).at_ hlt
      have HS : Hid (curP (h.take (k + 1)) = x.seq) := Lib.hid (by rw [take_snocN hx, curP_snoc])
      have HA : Hid (∀ cs : Array Value, Below w1.heap.size w1 (wr.alloc (.cells cs 33))) := Lib.hid fun cs => HJ.out.alloc HJ.out.size _
      clear hx hb hwf
      go_wp2
      exact ⟨⟨k + 1, by omega, by go_num, by rw [HS.out], Lib.hid (HA.out _)⟩, by simp [intOf]; omega⟩
    · obtain rfl : k = h.length := by omega
      rw [List.take_length]
      go_wp2
      go_ret
      exact ⟨by rw [HH.out]; rfl, bthen HB.out HJ.out⟩

/-- Whether indexes rise by one from a number on. -/
def risP : List Nt → Int → Bool
  | [], _ => true
  | x :: r, a => (x.seq == a && decide (x.seq ≤ 4611686018427387904)) && risP r (a + 1)

set_option maxRecDepth 100000 in
set_option maxHeartbeats 2000000 in
theorem trising {W : World} {v : Value} {l : List Nt} {who ring from_ : Int} (hl : NtsAt W v l) (h120 : l.length ≤ 1000) (hf : i64Ok from_) :
    Calls Try.prog 24 #[v, .int .i64 who, .int .i64 ring, .int .i64 from_] W fun e w' => e = .returned (.bool (risP (l.filter (didB 2 who ring)) from_)) ∧ Below W.heap.size W w' := by
  have HC := Lib.hid (tdid (d := 2) (who := who) (ring := ring) hl h120)
  rw [didB_eq] at HC
  obtain ⟨p, c, rfl, hc, hm⟩ := hl.form
  clear hl
  go_enter Try.func24, Try.ntmps24
  go_wp2_with (go_at_call 35; refine HC.out.mono ?_; rintro e w1 ⟨v1, rfl, ho, hb⟩; have HO := Lib.hid ho; have HB := Lib.hid hb; obtain ⟨p1, cq, rfl, -⟩ := row_form ho.own; clear ho hb)
  have HLL : Hid ((l.filter (didB 2 who ring)).length ≤ 1000) := Lib.hid (Nat.le_trans (List.length_filter_le _ _) h120)
  obtain ⟨h, hh⟩ : ∃ h, l.filter (didB 2 who ring) = h := ⟨_, rfl⟩
  have HH := Lib.hid hh
  rw [hh] at HO HLL
  rw [hh]
  clear HC hh
  have hhl := HLL.out
  go_loopw [3, 16] (fun fv iv wl => ∃ (k : Nat) (a : Int), k ≤ h.length ∧ iv = .int .i64 k ∧ fv = .int .i64 a ∧ Hid (i64Ok a ∧ risP h from_ = risP (h.drop k) a ∧ Below w1.heap.size w1 wl)) (fun _ iv _ => h.length - (intOf iv).toNat)
  case atStart => exact ⟨0, from_, Nat.zero_le _, rfl, rfl, Lib.hid ⟨hf, rfl, Below.refl _ _⟩⟩
  case round =>
    obtain ⟨k, a, hk, rfl, rfl, HJ⟩ := hrel
    have ha1 := HJ.out.1.1
    have ha2 := HJ.out.1.2
    by_cases hlt : k < h.length
    · obtain ⟨b, off, x, rfl, hx, hb, hwf, ⟨c0, c1, c2, c3, c4, c5, c6, c7⟩⟩ := (HO.out.read.keep HJ.out.2.2).at_ hlt
      have HR : Hid (risP (h.drop k) a = ((x.seq == a && decide (x.seq ≤ 4611686018427387904)) && risP (h.drop (k + 1)) (a + 1))) := Lib.hid (by
        obtain ⟨hk1, he⟩ := List.getElem?_eq_some_iff.1 hx
        rw [List.drop_eq_getElem_cons hk1, he]
        rfl)
      have HA : Hid (∀ cs : Array Value, Below w1.heap.size w1 (wr.alloc (.cells cs 33))) := Lib.hid fun cs => HJ.out.2.2.alloc HJ.out.2.2.size _
      clear hx hb hwf
      rcases Bool.eq_false_or_eq_true (x.seq == a) with h1 | h1
      · have hne : (x.seq != a) = false := by simp only [bne, h1]; rfl
        by_cases h2 : x.seq ≤ 4611686018427387904
        · have hab : a ≤ 4611686018427387904 := by have : x.seq = a := by simpa using h1
                                                   omega
          have HR2 : Hid (risP (h.drop k) a = risP (h.drop (k + 1)) (a + 1)) := Lib.hid (by rw [HR.out, h1]; simp [h2])
          go_wp2
          exact ⟨⟨k + 1, a + 1, by omega, by go_num, rfl, Lib.hid ⟨⟨by omega, by omega⟩, by rw [HJ.out.2.1, HR2.out], HA.out _⟩⟩, by simp [intOf]; omega⟩
        · have HR2 : Hid (risP h from_ = false) := Lib.hid (by rw [HJ.out.2.1, HR.out]; simp [h2])
          have h2b : decide (4611686018427387904 < x.seq) = true := by simpa using h2
          go_wp2
          go_ret
          exact ⟨by rw [HH.out, HR2.out]; rfl, bthen HB.out (HA.out _)⟩
      · have hne : (x.seq != a) = true := by simp only [bne, h1]; rfl
        have HR2 : Hid (risP h from_ = false) := Lib.hid (by rw [HJ.out.2.1, HR.out, h1]; simp)
        go_wp2
        go_ret
        exact ⟨by rw [HH.out, HR2.out]; rfl, bthen HB.out (HA.out _)⟩
    · obtain rfl : k = h.length := by omega
      have HR2 : Hid (risP h from_ = true) := Lib.hid (by rw [HJ.out.2.1, List.drop_length]; rfl)
      go_wp2
      go_ret
      exact ⟨by rw [HH.out, HR2.out]; rfl, bthen HB.out HJ.out.2.2⟩

def flatI (l : List Int) : List Value := l.map fun x => .int .i64 x
theorem IntsR.of_own {w : World} {B : Nat} {e : TypeId} {v : Value} {l : List Int} (ho : w.ownsRow B e 1 v l.length (flatI l)) (hw : ∀ x ∈ l, i64Ok x) : IntsR w v l := by
  have ho2 := ho
  obtain ⟨h1, h2⟩ := ho
  rcases h2 with ⟨rfl, h0⟩ | ⟨g, cap, cur, rfl, _, hg, hc, hm, _⟩
  · exact ⟨none, 0, by rw [h0], by omega, Nat.zero_le _, hw, .inl h0⟩
  · refine ⟨_, cap, rfl, hc, hm, hw, ?_⟩
    rcases Nat.eq_zero_or_pos l.length with h0 | hpos
    · exact .inl h0
    · refine .inr ⟨g, 0, rfl, lt_of_block hg, fun j x hj => ?_⟩
      have hjl : j < l.length := (List.getElem?_eq_some_iff.1 hj).1
      rw [Nat.zero_add]
      exact (ho2.cellAt j (by omega)).trans (by simp [flatI, hj])
theorem one_cellI (w : World) (x : Int) (t : TypeId) : ∀ j u, ([.int .i64 x] : List Value)[j]? = some u → (w.alloc (.cells #[.int .i64 x] t)).cell? ((⟨w.heap.size, 0, none⟩ : Addr).add j) = some u := by
  intro j u hu
  rw [Addr.add_lit, obj_cell (obj_new w _)]
  rcases j with _ | j
  · simpa using hu
  · simp at hu
def callB (who : Int) (x : Nt) : Bool := x.who == who && x.deed == 4
def codesN (l : List Nt) (who : Int) : List Int := (l.filter (callB who)).map (·.code)
theorem codesN_len (l : List Nt) (who : Int) : (codesN l who).length ≤ l.length := by unfold codesN; rw [List.length_map]; exact List.length_filter_le _ _
theorem codesN_snocT {l : List Nt} {who : Int} {x : Nt} (h : callB who x = true) : codesN (l ++ [x]) who = codesN l who ++ [x.code] := by unfold codesN; rw [filter_snocT h, List.map_append]; rfl
theorem codesN_snocF {l : List Nt} {who : Int} {x : Nt} (h : callB who x = false) : codesN (l ++ [x]) who = codesN l who := by unfold codesN; rw [filter_snocF h]
theorem codesN_wf {l : List Nt} (hw : ∀ x ∈ l, x.wf) (who : Int) : ∀ c ∈ codesN l who, i64Ok c := by
  intro c hc
  unfold codesN at hc
  obtain ⟨x, hx, rfl⟩ := List.mem_map.1 hc
  exact (hw x (List.mem_filter.1 hx).1).code

set_option maxRecDepth 100000 in
set_option maxHeartbeats 2000000 in
theorem tcalls {W : World} {v : Value} {l : List Nt} {who : Int} (hl : NtsAt W v l) (h120 : l.length ≤ 1000) :
    Calls Try.prog 22 #[v, .int .i64 who] W fun e w' => ∃ v', e = .returned v' ∧ IntsR w' v' (codesN l who) ∧ Below W.heap.size W w' := by
  obtain ⟨i0, hi, hz0, hz1, hz2⟩ := info_parts infoEr
  have HL := Lib.hid hl
  obtain ⟨p, c, rfl, hc, hm⟩ := hl.form
  clear hl
  go_enter Try.func22, Try.ntmps22
  go_wp2_with fail
  go_loopw [5, 10] (fun ov iv wl => ∃ k : Nat, k ≤ l.length ∧ iv = .int .i64 k ∧ Hid (wl.ownsRow W.heap.size 31 1 ov (codesN (l.take k) who).length (flatI (codesN (l.take k) who)) ∧ Below W.heap.size W wl)) (fun _ iv _ => l.length - (intOf iv).toNat)
  case atStart => exact ⟨0, Nat.zero_le _, rfl, Lib.hid ⟨World.ownsRow_nil _ _ _ _, Below.refl _ _⟩⟩
  case round =>
    obtain ⟨k, hk, rfl, HJ⟩ := hrel
    by_cases hlt : k < l.length
    · obtain ⟨b, off, x, rfl, hx, hb, hwf, ⟨c0, c1, c2, c3, c4, c5, c6, c7⟩⟩ := (HL.out.keep HJ.out.2).at_ hlt
      have HT : Hid (l.take (k + 1) = l.take k ++ [x]) := Lib.hid (take_snocN hx)
      have HLK : Hid ((codesN (l.take k) who).length ≤ 1000) := Lib.hid (Nat.le_trans (codesN_len _ _) (by rw [List.length_take]; omega))
      have HB0 : Hid (callB who x = (x.who == who && x.deed == 4)) := Lib.hid rfl
      have HTT := Lib.hid fun h => codesN_snocT (l := l.take k) (who := who) (x := x) h
      have HFF := Lib.hid fun h => codesN_snocF (l := l.take k) (who := who) (x := x) h
      rw [← HT.out] at HTT HFF
      have HA1 : Hid ((wr.alloc (.cells #[.int .i64 x.who, .int .i64 x.ring, .int .i64 x.deed, .int .i64 x.lo, .int .i64 x.seq, .int .i64 x.key, .int .i64 x.val, .int .i64 x.code] 33)).ownsRow W.heap.size 31 1 u5 (codesN (l.take k) who).length (flatI (codesN (l.take k) who)) ∧ Below W.heap.size W (wr.alloc (.cells #[.int .i64 x.who, .int .i64 x.ring, .int .i64 x.deed, .int .i64 x.lo, .int .i64 x.seq, .int .i64 x.key, .int .i64 x.val, .int .i64 x.code] 33))) := Lib.hid ⟨HJ.out.1.alloc _, HJ.out.2.alloc HJ.out.2.size _⟩
      have d0 : (wr.alloc (.cells #[.int .i64 x.who, .int .i64 x.ring, .int .i64 x.deed, .int .i64 x.lo, .int .i64 x.seq, .int .i64 x.key, .int .i64 x.val, .int .i64 x.code] 33)).cell? ⟨wr.heap.size, 0, none⟩ = some (.int .i64 x.who) := by simp
      have d2 : (wr.alloc (.cells #[.int .i64 x.who, .int .i64 x.ring, .int .i64 x.deed, .int .i64 x.lo, .int .i64 x.seq, .int .i64 x.key, .int .i64 x.val, .int .i64 x.code] 33)).cell? ⟨wr.heap.size, 2, none⟩ = some (.int .i64 x.deed) := by simp
      have d7 : (wr.alloc (.cells #[.int .i64 x.who, .int .i64 x.ring, .int .i64 x.deed, .int .i64 x.lo, .int .i64 x.seq, .int .i64 x.key, .int .i64 x.val, .int .i64 x.code] 33)).cell? ⟨wr.heap.size, 7, none⟩ = some (.int .i64 x.code) := by simp
      clear hx hb hwf
      go_upto_region 5 with (fail)
      clear c0 c1 c2 c3 c4 c5 c6 c7
      generalize wr.alloc (.cells #[.int .i64 x.who, .int .i64 x.ring, .int .i64 x.deed, .int .i64 x.lo, .int .i64 x.seq, .int .i64 x.key, .int .i64 x.val, .int .i64 x.code] 33) = wa at *
      generalize codesN (l.take k) who = ss at *
      have hlk := HLK.out
      rcases Bool.eq_false_or_eq_true (x.who == who) with h1 | h1
      · rcases Bool.eq_false_or_eq_true (x.deed == 4) with h2 | h2
        · have HQ := Lib.hid (HTT.out (by rw [HB0.out, h1, h2]; rfl))
          go_wp2_with (at_builtin; refine wpList_append_own _ rfl _ _ 50 rfl W.heap.size 31 i0 _ 1 8 Try.underlying50 hi hz0 hz1 hz2 rfl (by decide) u5 ss.length _ rfl (HA1.out.1.alloc _) ⟨wa.heap.size, 0, none⟩ 1 1 [.int .i64 x.code] rfl rfl (one_cellI _ _ _) (fun u hu => by simp at hu; subst hu; rfl) (by unfold maxLen; omega) (by omega) (by have := HA1.out.2.size; simp at this ⊢; omega) ?_; intro v' w3 hown hg hnil; have HO3 := Lib.hid hown; have HG := Lib.hid hg; clear hown hg hnil)
          exact ⟨⟨k + 1, by omega, by go_num, Lib.hid ⟨by rw [HQ.out, List.length_append]; unfold flatI at *; rw [List.map_append]; exact HO3.out, Below.app HA1.out.2 HA1.out.2.size HA1.out.1 HG.out⟩⟩, by simp [intOf]; omega⟩
        · have HQ := Lib.hid (HFF.out (by rw [HB0.out, h1, h2]; rfl))
          go_wp2
          exact ⟨⟨k + 1, by omega, by go_num, Lib.hid ⟨by rw [HQ.out]; exact HA1.out.1, HA1.out.2⟩⟩, by simp [intOf]; omega⟩
      · have HQ := Lib.hid (HFF.out (by rw [HB0.out, h1]; rfl))
        go_wp2
        exact ⟨⟨k + 1, by omega, by go_num, Lib.hid ⟨by rw [HQ.out]; exact HA1.out.1, HA1.out.2⟩⟩, by simp [intOf]; omega⟩
    · obtain rfl : k = l.length := by omega
      rw [List.take_length] at HJ
      obtain ⟨po, co, rfl, -⟩ := row_form HJ.out.1
      go_wp2
      go_ret
      exact ⟨_, rfl, IntsR.of_own HJ.out.1 (codesN_wf HL.out.wf who), HJ.out.2⟩
end Go.Proofs.Ytnblkkmandlllaa
