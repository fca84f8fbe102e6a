/-
  The last index that was shown at a slot, and the document's answers for it by contract. Conditions: the indexes lie from 0 to 2^62.
-/
import Derived.Test.YtjadapjjilegnaaAv2
import Derived.BigQuiet
import Derived.Deep.QuietTactic
namespace Go.Proofs.Ytjadapjjilegnaa
open Go.RowKit

/-- The last index that was shown at an index's slot. -/
def lastS (ss : List Int) (n seq : Int) : Option Int := ss.reverse.find? fun s => s % n == seq % n
theorem lastS_snoc (ss : List Int) (s : Int) (n seq : Int) : lastS (ss ++ [s]) n seq = if s % n = seq % n then some s else lastS ss n seq := by
  unfold lastS
  rw [List.reverse_append, List.reverse_singleton, List.singleton_append, List.find?_cons]
  by_cases h : s % n = seq % n
  · simp [h]
  · rw [if_neg h]
    have : (s % n == seq % n) = false := by simpa using h
    rw [this]
theorem lastS_take {ss : List Int} {j : Nat} {s : Int} (h : ss[j]? = some s) (n seq : Int) : lastS (ss.take (j + 1)) n seq = if s % n = seq % n then some s else lastS (ss.take j) n seq := by
  rw [List.take_add_one, h]
  exact lastS_snoc _ _ _ _
/-- Whether an index is the last one that was shown at its slot. -/
def isL (ss : List Int) (n seq : Int) : Bool := lastS ss n seq == some seq

/-- The row of what was shown. -/
def SRow (W : World) (v : Value) (ss : List Int) : Prop := W.ownsRow 0 2 1 v ss.length (ss.map (Value.int .i64)) ∧ ∀ s ∈ ss, 0 ≤ s ∧ s ≤ 4611686018427387904
theorem SRow.keep {W w : World} {v : Value} {ss : List Int} (h : SRow W v ss) (hb : Below W.heap.size W w) : SRow w v ss := ⟨(Frm.of_below hb fun _ => False).row h.1 fun _ _ => id, h.2⟩

set_option maxHeartbeats 1000000 in
theorem refIs_any (W : World) (v : Value) (ss : List Int) (hs : SRow W v ss) (n seq : Int) (hn1 : 1 ≤ n) (hn2 : n ≤ 1048576) (h0 : 0 ≤ seq) (h1 : seq ≤ 4611686018427387904) :
    Calls Try.prog 147 #[v, .int .i64 n, .int .i64 seq] W fun e w' => e = .returned (.bool (isL ss n seq)) ∧ Below W.heap.size W w' := by
  have HP := Lib.hid hs.2
  have ho := hs.1
  have HT : Hid (lastS ss n seq = lastS (ss.take ss.length) n seq) := Lib.hid (by rw [List.take_length])
  have hlen : ss.length ≤ maxLen := by
    rcases ho.2 with ⟨_, h⟩ | ⟨g, cap, cur, _, _, _, h, h', _⟩
    · rw [h]; exact Nat.zero_le _
    · exact Nat.le_trans h h'
  obtain ⟨p, c, rfl, hc⟩ := row_form ho
  unfold maxLen at hlen
  have HO := Lib.hid ho
  have hpos : ∀ m : Nat, (((m + 1 : Nat) : Int) - 1) = (m : Int) := fun m => by omega
  have HPS := Lib.hid hpos
  clear ho hs hc hpos
  go_enter Try.func147, Try.ntmps147
  go_wp2
  go_loopw [7] (fun i wl => ∃ (j : Nat), j ≤ ss.length ∧ i = .int .i64 ((j : Int) - 1) ∧ Hid (Below W.heap.size W wl) ∧ Hid (lastS ss n seq = lastS (ss.take j) n seq)) (fun i _ => (intOf i + 1).toNat)
  case atStart => exact ⟨ss.length, Nat.le_refl _, rfl, Lib.hid (Below.refl _ _), HT⟩
  case round =>
    obtain ⟨j, hj, rfl, HBL, HJ⟩ := hrel
    have HOR : Hid (wr.ownsRow 0 2 1 (.slice p ss.length c) ss.length (ss.map (Value.int .i64))) := Lib.hid ((Frm.of_below HBL.out fun _ => False).row HO.out fun _ _ => id)
    rcases j with _ | j
    · have HF : Hid (isL ss n seq = false) := Lib.hid (by unfold isL; rw [HJ.out]; rfl)
      clear HT HJ
      rw [show (((0 : Nat) : Int) - 1) = -1 from rfl]
      go_wp2
      go_ret
      exact ⟨by rw [HF.out]; rfl, HBL.out⟩
    · rw [HPS.out j]
      have hjl : j < ss.length := by omega
      obtain ⟨a, ha⟩ : ∃ a, ss[j]? = some a := ⟨_, List.getElem?_eq_getElem hjl⟩
      obtain ⟨g, cap, hsl, hcap⟩ : ∃ g cap, p = some ⟨g, 0, none⟩ ∧ cap = c := by
        rcases HOR.out.2 with ⟨h, _⟩ | ⟨g, cap, cur, h, _⟩
        · simp at h; omega
        · simp at h; exact ⟨g, cap, h.1, h.2.symm⟩
      subst hsl hcap
      have k0 : wr.cell? ⟨g, j, none⟩ = some (.int .i64 a) := (HOR.out.cellAt j (by omega)).trans (by simp [ha])
      obtain ⟨ha1, ha2⟩ := HP.out a (List.mem_of_getElem? ha)
      have HST := Lib.hid (HJ.out.trans (lastS_take ha n seq))
      have dj : decide ((0 : Int) ≤ (j : Int)) = true := decide_eq_true (by omega)
      have dl : decide ((j : Int) < (ss.length : Int)) = true := decide_eq_true (by omega)
      clear ha HJ HT
      by_cases hq : a % n = seq % n
      · have hq1 : (a % n == seq % n) = true := by simpa using hq
        have HF : Hid (isL ss n seq = (a == seq)) := Lib.hid (by unfold isL; rw [HST.out, if_pos hq]; rfl)
        clear hq HST
        go_wp2_with fail
        go_quiet (fail)
        have HBQ := Lib.hid (drewB HBL.out nq)
        go_wp2
        go_ret
        exact ⟨by rw [HF.out]; rfl, HBQ.out⟩
      · have hq1 : (a % n == seq % n) = false := by simpa using hq
        have HF : Hid (lastS ss n seq = lastS (ss.take j) n seq) := Lib.hid (by rw [HST.out, if_neg hq])
        clear hq HST
        go_wp2_with fail
        go_quiet (fail)
        have HBQ := Lib.hid (drewB HBL.out nq)
        go_wp2
        exact ⟨⟨j, by omega, by go_num, HBQ, HF⟩, by simp [intOf]⟩

set_option maxHeartbeats 1000000 in
theorem refHi_any (W : World) (v : Value) (ss : List Int) (hs : SRow W v ss) (n lo hi : Int) (hn1 : 1 ≤ n) (hn2 : n ≤ 1048576) (h0 : 0 ≤ lo) (h1 : lo ≤ 4611686018427387904) (hh0 : -9223372036854775808 ≤ hi) (hh1 : hi ≤ 4611686018427387904) :
    Calls Try.prog 84 #[v, .int .i64 n, .int .i64 lo, .int .i64 hi] W fun e w' => ∃ j : Nat, RunTo (isL ss n) lo hi j ∧ e = .returned (.int .i64 (lo + j - 1)) ∧ Below W.heap.size W w' := by
  have HS := Lib.hid hs
  clear hs
  go_enter Try.func84, Try.ntmps84
  go_wp2
  go_loopw [9] (fun i wl => ∃ (j : Nat), i = .int .i64 (lo + (j : Int) - 1) ∧ Hid (Below W.heap.size W wl) ∧ Hid (∀ i : Nat, i < j → isL ss n (lo + i) = true) ∧ (j = 0 ∨ lo + (j : Int) - 1 ≤ hi)) (fun i _ => (hi - intOf i).toNat)
  case atStart => exact ⟨0, by simp, Lib.hid (Below.refl _ _), Lib.hid fun i hi => absurd hi (by omega), Or.inl rfl⟩
  case round =>
    obtain ⟨j, rfl, HBL, HJ, hj⟩ := hrel
    by_cases hle : lo + (j : Int) - 1 < hi
    · have HIS : Hid (Calls Try.prog 147 #[v, .int .i64 n, .int .i64 (lo + (j : Int))] wr fun e w' => e = .returned (.bool (isL ss n (lo + j))) ∧ Below wr.heap.size wr w') := by
        exact Lib.hid (refIs_any wr v ss (HS.out.keep HBL.out) n (lo + j) hn1 hn2 (by omega) (by omega))
      by_cases hp : isL ss n (lo + j) = true
      · have HN : Hid (∀ i : Nat, i < j + 1 → isL ss n (lo + i) = true) := Lib.hid fun i hi => by
          by_cases e : i = j
          · subst e; exact hp
          · exact HJ.out i (by omega)
        go_wp2_with (go_at_call 147; refine HIS.out.mono ?_; rintro e w2 ⟨rfl, hb⟩; rw [hp]; have HB2 := Lib.hid (bthen HBL.out hb); clear hb)
        exact ⟨⟨j + 1, congrArg (Value.int .i64) (by omega), HB2, HN, Or.inr (by omega)⟩, by simp [intOf]; omega⟩
      · have hp' : isL ss n (lo + j) = false := by simpa using hp
        clear hp
        go_wp2_with (go_at_call 147; refine HIS.out.mono ?_; rintro e w2 ⟨rfl, hb⟩; rw [hp']; have HB2 := Lib.hid (bthen HBL.out hb); clear hb)
        go_ret
        exact ⟨j, ⟨HJ.out, fun _ => hp', hj⟩, rfl, HB2.out⟩
    · have HR : Hid (RunTo (isL ss n) lo hi j) := Lib.hid ⟨HJ.out, fun h => absurd h (by omega), hj⟩
      go_wp2
      go_ret
      exact ⟨j, HR.out, rfl, HBL.out⟩
end Go.Proofs.Ytjadapjjilegnaa
