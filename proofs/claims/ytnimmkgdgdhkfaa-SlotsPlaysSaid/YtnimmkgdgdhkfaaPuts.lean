/-
  The last of some puts at a slot, and the document's answer for it by contract. Conditions: the puts' indexes lie from 0 to 2^62.
-/
import Derived.Test.YtnimmkgdgdhkfaaSlots
import Derived.LoopTactic
import Derived.BigQuiet
import Derived.Deep.QuietTactic
namespace Go.Proofs.Ytnimmkgdgdhkfaa
open Go.RowKit

/-- A put: its index, and the event. -/
abbrev Pt := Int × Int × Int
def pflat (xs : List Pt) : List Value := xs.flatMap fun a => [.int .i64 a.1, .int .i64 a.2.1, .int .i64 a.2.2]
theorem pflat_len (xs : List Pt) : (pflat xs).length = xs.length * 3 := by
  unfold pflat
  induction xs with
  | nil => rfl
  | cons t l ih => simp only [List.flatMap_cons, List.length_append, ih, List.length_cons, List.length_nil]; omega
theorem pflat_append (a b : List Pt) : pflat (a ++ b) = pflat a ++ pflat b := by unfold pflat; rw [List.flatMap_append]
theorem pflat_one (a : Pt) : pflat [a] = [.int .i64 a.1, .int .i64 a.2.1, .int .i64 a.2.2] := rfl
theorem pflat_cons (a : Pt) (l : List Pt) : pflat (a :: l) = .int .i64 a.1 :: .int .i64 a.2.1 :: .int .i64 a.2.2 :: pflat l := rfl
theorem pflat_get {xs : List Pt} {k : Nat} {a : Pt} (h : xs[k]? = some a) : (pflat xs)[k * 3]? = some (.int .i64 a.1) ∧ (pflat xs)[k * 3 + 1]? = some (.int .i64 a.2.1) ∧ (pflat xs)[k * 3 + 2]? = some (.int .i64 a.2.2) := by
  obtain ⟨hk, rfl⟩ := List.getElem?_eq_some_iff.1 h
  have e : pflat xs = pflat (xs.take k) ++ (.int .i64 xs[k].1 :: .int .i64 xs[k].2.1 :: .int .i64 xs[k].2.2 :: pflat (xs.drop (k + 1))) := by
    rw [← pflat_cons, ← pflat_append, ← List.drop_eq_getElem_cons hk, List.take_append_drop]
  have hl : (pflat (xs.take k)).length = k * 3 := by rw [pflat_len, List.length_take]; omega
  rw [e]
  refine ⟨?_, ?_, ?_⟩ <;> (rw [List.getElem?_append_right (by omega), hl]; simp)

/-- The last put at an index's slot. -/
def lastPut (ps : List Pt) (n seq : Int) : Option Pt := ps.reverse.find? fun p => p.1 % n == seq % n
theorem lastPut_snoc (ps : List Pt) (p : Pt) (n seq : Int) : lastPut (ps ++ [p]) n seq = if p.1 % n = seq % n then some p else lastPut ps n seq := by
  unfold lastPut
  rw [List.reverse_append, List.reverse_singleton, List.singleton_append, List.find?_cons]
  by_cases h : p.1 % n = seq % n
  · simp [h]
  · rw [if_neg h]
    have : (p.1 % n == seq % n) = false := by simpa using h
    rw [this]
def evOf (o : Option Pt) : Ev := match o with | some p => p.2 | none => (0, 0)
theorem lastPut_take {ps : List Pt} {j : Nat} {p : Pt} (h : ps[j]? = some p) (n seq : Int) : lastPut (ps.take (j + 1)) n seq = if p.1 % n = seq % n then some p else lastPut (ps.take j) n seq := by
  rw [List.take_add_one, h]
  exact lastPut_snoc _ _ _ _

set_option maxHeartbeats 1000000 in
theorem refGet_any (W : World) (v : Value) (ps : List Pt) (ho : W.ownsRow 0 69 3 v ps.length (pflat ps)) (n seq : Int) (hn1 : 1 ≤ n) (hn2 : n ≤ 1048576) (h0 : 0 ≤ seq) (h1 : seq ≤ 4611686018427387904)
    (hp : ∀ p ∈ ps, 0 ≤ p.1 ∧ p.1 ≤ 4611686018427387904) :
    Calls Try.prog 44 #[v, .int .i64 n, .int .i64 seq] W fun e w' => e = .returned (.agg #[.int .i64 (evOf (lastPut ps n seq)).1, .int .i64 (evOf (lastPut ps n seq)).2]) ∧ Below W.heap.size W w' := by
  have HP := Lib.hid hp
  have HT : Hid (lastPut ps n seq = lastPut (ps.take ps.length) n seq) := Lib.hid (by rw [List.take_length])
  have hlen : ps.length ≤ maxLen := by
    rcases ho.2 with ⟨_, h⟩ | ⟨g, cap, cur, _, _, _, h, h', _⟩
    · rw [h]; exact Nat.zero_le _
    · exact Nat.le_trans h h'
  obtain ⟨p, c, rfl, hc⟩ := row_form ho
  unfold maxLen at hlen
  have HO := Lib.hid ho
  have e0 : decide (n = 0) = false := by rw [decide_eq_false_iff_not]; omega
  clear ho hp hc
  have hpos : ∀ m : Nat, (((m + 1 : Nat) : Int) - 1) = (m : Int) := fun m => by omega
  have HPS := Lib.hid hpos
  clear hpos
  go_enter Try.func44, Try.ntmps44
  go_wp2
  have HB := Lib.hid ((Below.refl _ W).alloc (Nat.le_refl _) (.cells #[.int .i64 0, .int .i64 0] 67))
  have HW1 : Hid (∀ w, Below (W.alloc (.cells #[.int .i64 0, .int .i64 0] 67)).heap.size (W.alloc (.cells #[.int .i64 0, .int .i64 0] 67)) w → (w.cell? ⟨W.heap.size, 0, none⟩ = some (.int .i64 0) ∧ w.cell? ⟨W.heap.size, 1, none⟩ = some (.int .i64 0)) ∧ (∀ j, w.frozen? ⟨W.heap.size, j, none⟩ = false) ∧ (∀ u v, Below W.heap.size W ((w.setCell ⟨W.heap.size, 0, none⟩ u).setCell ⟨W.heap.size, 1, none⟩ v)) ∧ w.ownsRow 0 69 3 (.slice p ps.length c) ps.length (pflat ps)) :=
    fun w hb => ⟨⟨keepc hb ((obj_cell (obj_new W _) 0).trans rfl), keepc hb ((obj_cell (obj_new W _) 1).trans rfl)⟩, fun j => obj_free ((hb.block _ (by simp)).trans (obj_new W _)) j, fun u v => ((bthen HB.out hb).setCell (p := ⟨W.heap.size, 0, none⟩) (Nat.le_refl _) _).setCell (p := ⟨W.heap.size, 1, none⟩) (Nat.le_refl _) _, (Frm.of_below (bthen HB.out hb) fun _ => False).row HO.out fun _ _ => id⟩
  clear HB HO
  generalize W.alloc (.cells #[.int .i64 0, .int .i64 0] 67) = w1 at *
  generalize hob : W.heap.size = ob at *
  have HOB := Lib.hid hob
  clear hob
  go_loopw [7] (fun i wl => ∃ (j : Nat), j ≤ ps.length ∧ i = .int .i64 ((j : Int) - 1) ∧ Hid (Below w1.heap.size w1 wl) ∧ Hid (lastPut ps n seq = lastPut (ps.take j) n seq)) (fun i _ => (intOf i + 1).toNat)
  case atStart => exact ⟨ps.length, Nat.le_refl _, rfl, Lib.hid (Below.refl _ _), HT⟩
  case round =>
    obtain ⟨j, hj, rfl, HBL, HJ⟩ := hrel
    obtain ⟨⟨c0, c1⟩, f0, hset, ho⟩ := HW1.out _ HBL.out
    have HSET := Lib.hid hset
    have HOR := Lib.hid ho
    clear hset ho
    rcases j with _ | j
    · have HF : Hid (evOf (lastPut ps n seq) = (0, 0)) := Lib.hid (by rw [HJ.out]; rfl)
      clear HT HJ
      go_wp2
      refine bodyPost_ret (by simp [results, Try.results44, go_sem, c0, c1]; try rfl) rfl ?_
      obtain rfl := HOB.out
      exact ⟨by rw [HF.out], HSET.out _ _⟩
    · rw [HPS.out j]
      have hjl : j < ps.length := by omega
      obtain ⟨a, ha⟩ : ∃ a, ps[j]? = some a := ⟨_, List.getElem?_eq_getElem hjl⟩
      obtain ⟨a0, a1, a2⟩ := pflat_get ha
      obtain ⟨g, cap, hsl, hcap⟩ : ∃ g cap, p = some ⟨g, 0, none⟩ ∧ cap = c := by
        rcases HOR.out.2 with ⟨h, _⟩ | ⟨g, cap, cur, h, _⟩
        · simp at h; omega
        · simp at h; exact ⟨g, cap, h.1, h.2.symm⟩
      subst hsl hcap
      have k0 := (HOR.out.cellAt (j * 3) (by omega)).trans a0
      have k1 := (HOR.out.cellAt (j * 3 + 1) (by omega)).trans a1
      have k2 := (HOR.out.cellAt (j * 3 + 2) (by omega)).trans a2
      obtain ⟨ha1, ha2⟩ := HP.out a (List.mem_of_getElem? ha)
      have HST := Lib.hid (HJ.out.trans (lastPut_take ha n seq))
      have dj : decide ((0 : Int) ≤ (j : Int)) = true := decide_eq_true (by omega)
      have dl : decide ((j : Int) < (ps.length : Int)) = true := decide_eq_true (by omega)
      clear a0 a1 a2 ha HJ HT
      by_cases hq : a.1 % n = seq % n
      · have hq1 : (a.1 % n == seq % n) = true := by simpa using hq
        have HF : Hid (evOf (lastPut ps n seq) = a.2) := Lib.hid (by rw [HST.out, if_pos hq]; rfl)
        clear hq HST
        go_wp2_with fail
        go_quiet (fail)
        have HBQ := Lib.hid (drewB HBL.out nq)
        obtain ⟨⟨c0, c1⟩, f0, hset, ho⟩ := HW1.out _ HBQ.out
        have HSET2 := Lib.hid hset
        clear hset ho
        go_wp2
        refine bodyPost_ret (by simp [results, Try.results44, go_sem, c0, c1]; try rfl) rfl ?_
        obtain rfl := HOB.out
        exact ⟨by rw [HF.out], HSET2.out _ _⟩
      · have hq1 : (a.1 % n == seq % n) = false := by simpa using hq
        have HF : Hid (lastPut ps n seq = lastPut (ps.take j) n seq) := Lib.hid (by rw [HST.out, if_neg hq])
        clear hq HST
        go_wp2_with fail
        go_quiet (fail)
        have HBQ := Lib.hid (drewB HBL.out nq)
        go_wp2
        exact ⟨⟨j, by omega, by go_num, HBQ, HF⟩, by simp [intOf]⟩
end Go.Proofs.Ytnimmkgdgdhkfaa
