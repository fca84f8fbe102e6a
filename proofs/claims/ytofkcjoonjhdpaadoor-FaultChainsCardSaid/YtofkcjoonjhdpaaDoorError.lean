/-
  A fault's Error is the document's text. Condition: the number has one of the names 1 to 18; there are no more than 60 faults, with texts no longer than 100 letters and 64-bit indexes; the library's own two variables hold what they hold from the start.
-/
import Derived.Test.YtofkcjoonjhdpaaDoorText
namespace Go.Proofs.YtofkcjoonjhdpaaDoor
open Go.RowKit Go.Extern.Stop Go.Stop Go.Extern

/-- The text of an error: each fault's part, a colon and a blank, and the number's name. -/
def textL : List (ByteArray × Int) → Int → List UInt8
  | [], n => nm n
  | (op, seq) :: l, n => placeL op seq ++ [58, 32] ++ textL l n
/-- The links are small. -/
def Small (l : List (ByteArray × Int)) : Prop := ∀ x ∈ l, x.1.size ≤ 100 ∧ -9223372036854775808 ≤ x.2 ∧ x.2 ≤ 9223372036854775807

def prefL : List (ByteArray × Int) → List UInt8
  | [] => []
  | (op, seq) :: l => placeL op seq ++ [58, 32] ++ prefL l
theorem prefL_append (a b : List (ByteArray × Int)) : prefL (a ++ b) = prefL a ++ prefL b := by
  induction a with
  | nil => rfl
  | cons x a ih => obtain ⟨op, seq⟩ := x; simp [prefL, ih]
theorem textL_eq (l : List (ByteArray × Int)) (n : Int) : textL l n = prefL l ++ nm n := by
  induction l with
  | nil => rfl
  | cons x a ih => obtain ⟨op, seq⟩ := x; simp [prefL, textL, ih]
theorem placeL_len (op : ByteArray) (seq : Int) (h : op.size ≤ 100) (hs : -9223372036854775808 ≤ seq ∧ seq ≤ 9223372036854775807) : (placeL op seq).length ≤ 123 := by
  have := itoa_len seq hs
  have h' : op.data.toList.length ≤ 100 := by rw [Array.length_toList]; exact h
  unfold placeL
  simp only [List.length_append, List.length_cons, List.length_nil]
  omega
theorem prefL_len (l : List (ByteArray × Int)) (h : Small l) : (prefL l).length ≤ 125 * l.length := by
  induction l with
  | nil => simp [prefL]
  | cons x a ih =>
    obtain ⟨op, seq⟩ := x
    have h1 := h (op, seq) (by simp)
    have h2 := placeL_len op seq h1.1 h1.2
    have h3 := ih (fun y hy => h y (by simp [hy]))
    simp only [prefL, List.length_append, List.length_cons, List.length_nil]
    omega
theorem ite_len {c : Prop} [Decidable c] {a b : List UInt8} (ha : a.length ≤ 20) (hb : b.length ≤ 20) : (if c then a else b).length ≤ 20 := by split <;> assumption
theorem nm_len (n : Int) : (nm n).length ≤ 20 := by
  unfold nm
  repeat (first | refine ite_len (by decide) ?_ | decide)

def ErrRel (W : World) (bb : Nat) (l : List (ByteArray × Int)) (n : Int) (F : Value) (wl : World) : Prop :=
  ∃ (l0 l' : List (ByteArray × Int)) (b : Nat), Below W.heap.size W wl ∧ W.heap.size ≤ bb ∧ Bld W.heap.size bb (prefL l0) wl ∧ l = l0 ++ l' ∧ l' ≠ [] ∧ F = .pointer (some ⟨b, 0, none⟩) ∧ ChainL W (.iface 36 (.pointer (some ⟨b, 0, none⟩))) l' n
/-- How many faults are left. -/
noncomputable def errLen (W : World) : Value → Nat
  | .pointer p => chainLen W (.iface 36 (.pointer p))
  | _ => 0

set_option maxRecDepth 100000 in
set_option maxHeartbeats 1000000 in
theorem error_list {W : World} (b : Nat) (l : List (ByteArray × Int)) (n : Int) (hc : ChainL W (.iface 36 (.pointer (some ⟨b, 0, none⟩))) l n) (hs : Small l) (hl : l.length ≤ 60) (h1 : 1 ≤ n) (h2 : n ≤ 18) (hg : Glob W) (ht : Tab W) :
    Calls Tryd.prog 12 #[.pointer (some ⟨b, 0, none⟩)] W fun e w' => e = .returned (.string ⟨(textL l n).toArray⟩) ∧ Below W.heap.size W w' := by
  have HC := Lib.hid hc
  have HG := Lib.hid hg
  have HT := Lib.hid ht
  have HS := Lib.hid hs
  clear hc hg ht hs
  go_enter Tryd.func12, Tryd.ntmps12
  go_wp2_with (go_at_call 18; refine (ends_chain _ l.length n HC.out.chain (by omega)).mono ?_; rintro e w1 ⟨rfl, hb1⟩)
  have HC1 := Lib.hid (HC.out.keep hb1)
  have HG1 := Lib.hid (HG.out.keep hb1)
  have HT1 := Lib.hid (HT.out.keep hb1)
  have hne : l ≠ [] := by rintro rfl; cases HC.out
  have HNE := Lib.hid hne
  clear hne
  go_loopw [0] (fun F wl => ErrRel w1 w1.heap.size l n F wl) (fun F _ => errLen w1 F)
  case atStart => exact ⟨[], l, b, balloc (Below.refl _ _) _, Nat.le_refl _, Lib.fresh_isBuilder _ _ _, rfl, HNE.out, rfl, HC1.out⟩
  case round =>
    obtain ⟨l0, l', bf, hb, hle, hB, hll, hne', rfl, hce⟩ := hrel
    have HB := Lib.hid hB
    have HLL := Lib.hid hll
    clear hB hll hne'
    have HL0 := Lib.hid (show errLen w1 (.pointer (some ⟨bf, 0, none⟩)) = l'.length from chainLen_eq hce.chain)
    cases hce with
    | fault _ op seq E1 l1 _ h0 hc1 =>
      have H0 := Lib.hid h0
      have hlt := heap_lt h0
      have hsm := HS.out (op, seq) (by rw [HLL.out]; simp)
      obtain ⟨hop, hsq⟩ := hsm
      have hpl := placeL_len op seq hop hsq
      have hnl := nm_len n
      have hlens : (prefL l0).length ≤ 125 * 60 := by
        have h3 := prefL_len l0 (fun y hy => HS.out y (by rw [HLL.out]; simp [hy]))
        have h4 := congrArg List.length HLL.out
        simp only [List.length_append, List.length_cons] at h4
        omega
      have HSQ := Lib.hid hsq
      have HC2 := Lib.hid hc1
      have h00 : wr.cell? ⟨bf, 0, none⟩ = some (.string op) := keepc hb (heap_cell H0.out 0)
      have h01 : wr.cell? ⟨bf, 1, none⟩ = some (.int .i64 seq) := keepc hb (heap_cell H0.out 1)
      obtain ⟨u1, v1, rfl⟩ := hc1.chain.iface
      clear h0 hsq hc1
      go_wp2_with fail
      refine (place_any bf op seq hop HSQ.out h00 h01 (HT1.out.keep hb)).mono ?_
      rintro e w2 ⟨rfl, hb2⟩
      have hx2 := bthen hb hb2
      go_wp2_with fail
      refine (write_any w1.heap.size w1.heap.size (prefL l0) _ _ (HB.out.keep hb2) (by rw [size_toArray (placeL op seq)]; omega) hx2.size).mono ?_
      rintro e w3 ⟨rfl, hB3, hb3⟩
      have HB3 : Hid (Bld w1.heap.size w1.heap.size (prefL l0 ++ placeL op seq) w3) := hB3
      have hx3 := hx2.trans hb3
      have h23 : w3.cell? ⟨bf, 2, none⟩ = some (.iface u1 v1) := keepc hx3 (heap_cell H0.out 2)
      clear hB3 h00 h01
      go_wp2_with fail
      refine (write_any w1.heap.size w1.heap.size (prefL l0 ++ placeL op seq) _ _ HB3.out (by rw [List.length_append]; show _ + 2 ≤ _; omega) hx3.size).mono ?_
      rintro e w4 ⟨rfl, hB4, hb4⟩
      have HB4 : Hid (Bld w1.heap.size w1.heap.size (prefL l0 ++ placeL op seq ++ [58, 32]) w4) := hB4
      have hx4 := hx3.trans hb4
      have h24 : w4.cell? ⟨bf, 2, none⟩ = some (.iface u1 v1) := keepc hx4 (heap_cell H0.out 2)
      clear hB4 h23
      go_wp2_with fail
      generalize hv : Value.iface u1 v1 = E1 at *
      cases HC2.out with
      | num =>
        cases hv
        refine (outer_num n (HG1.out.keep hx4)).mono ?_
        rintro e w5 ⟨rfl, hb5⟩
        have hx5 := bthen hx4 hb5
        have h25 := keepc hb5 h24
        go_wp2_with fail
        refine (text_num n h1 h2).mono ?_
        rintro e w6 ⟨rfl, hb6⟩
        have hx6 := bthen hx5 hb6
        go_wp2_with fail
        refine (write_any w1.heap.size w1.heap.size (prefL l0 ++ placeL op seq ++ [58, 32]) _ _ ((HB4.out.keep hb5).keep hb6) (by rw [size_toArray (nm n)]; simp only [List.length_append, List.length_cons, List.length_nil]; omega) hx6.size).mono ?_
        rintro e w7 ⟨rfl, hB7, hb7⟩
        have HB7 : Hid (Bld w1.heap.size w1.heap.size (prefL l0 ++ placeL op seq ++ [58, 32] ++ nm n) w7) := hB7
        have hx7 := hx6.trans hb7
        clear hB7
        go_wp2_with fail
        refine (Tryd.Builder_String_any w1.heap.size w1.heap.size (prefL l0 ++ placeL op seq ++ [58, 32] ++ nm n) _ HB7.out hx7.size).mono ?_
        rintro e w8 ⟨rfl, hb8⟩
        go_wp2
        go_ret
        refine ⟨?_, bthen hb1 (hx7.trans hb8)⟩
        have he : textL l n = prefL l0 ++ (placeL op seq ++ 58 :: 32 :: nm n) := by
          rw [textL_eq, HLL.out, prefL_append]
          simp [prefL]
        rw [he]; rfl
      | fault b2 op2 seq2 E2 l2 _ h02 hc2 =>
        cases hv
        refine (outer_fault b2 (HG1.out.keep hx4)).mono ?_
        rintro e w5 ⟨rfl, hb5⟩
        have hx5 := bthen hx4 hb5
        go_wp2_with fail
        refine ⟨⟨l0 ++ [(op, seq)], (op2, seq2) :: l2, b2, hx5, Nat.le_refl _, ?_, ?_, by simp, rfl, HC2.out⟩, ?_⟩
        · rw [prefL_append]
          have := HB4.out.keep hb5
          simpa [prefL, List.append_assoc] using this
        · rw [HLL.out]; simp
        · rw [HL0.out]
          show chainLen w1 _ < _
          rw [chainLen_eq HC2.out.chain]; simp
end Go.Proofs.YtofkcjoonjhdpaaDoor
