/-
  live, look, Len, Park, Wake, Clear, Halt, State, Token, Wakes of package actor by contract. Conditions: the table's row is its own; for Wake fewer than 2^62 wakes.
-/
import Derived.Test.YtpnglcafjofmnaaActor
namespace Go.Proofs.Ytpnglcafjofmnaa
open Go.RowKit

/-- What is wrong with an actor's number. -/
def Wr (xs : List Ac) (id n : Int) : Prop := (n = 3 ∧ (id < 0 ∨ (xs.length : Int) ≤ id)) ∨ (n = 17 ∧ ∃ (i : Nat) (a : Ac), id = i ∧ xs[i]? = some a ∧ a.1 = 2)
theorem wr_or (xs : List Ac) (id : Int) : (∃ n, n ≠ 0 ∧ Wr xs id n) ∨ ∃ (i : Nat) (a : Ac), id = i ∧ xs[i]? = some a ∧ a.1 ≠ 2 := by
  by_cases h : id < 0 ∨ (xs.length : Int) ≤ id
  · exact .inl ⟨3, by decide, .inl ⟨rfl, h⟩⟩
  · obtain ⟨i, rfl⟩ : ∃ i : Nat, id = i := ⟨id.toNat, by omega⟩
    have hi : i < xs.length := by omega
    by_cases h2 : xs[i].1 = 2
    · exact .inl ⟨17, by decide, .inr ⟨rfl, i, _, rfl, List.getElem?_eq_getElem hi, h2⟩⟩
    · exact .inr ⟨i, _, rfl, List.getElem?_eq_getElem hi, h2⟩

abbrev Flt (q : Nat) : Value := .iface 131 (.pointer (some ⟨q, 0, none⟩))

theorem live_bad (op : ByteArray) (W : World) (b : Nat) (v : Value) (xs : List Ac) (id n : Int) (h : Tb W b v xs) (hw : Wr xs id n) :
    Calls Try.prog 66 #[.pointer (some ⟨b, 0, none⟩), .string op, .int .i64 id] W fun e w' => ∃ q, e = .returned (.tuple #[.pointer none, Flt q]) ∧ Chain w' (Flt q) 1 n ∧ Below W.heap.size W w' := by
  have c0 := h.c0
  rcases hw with ⟨rfl, hw⟩ | ⟨rfl, i, a, rfl, hi, ha⟩
  · obtain ⟨p, c, rfl, hc⟩ := row_form h.2
    clear hc h
    by_cases h1 : id < 0
    · clear hw
      have d1 : decide (id < 0) = true := decide_eq_true h1
      go_enter Try.func66, Try.ntmps66
      go_wp2_with (go_at_call 57; refine (wrap_iface _ _ _ _).mono ?_; rintro e w' ⟨rfl, hw⟩; obtain ⟨hch, hbb⟩ := ferr hw; clear hw)
      go_ret2
      exact ⟨_, rfl, hch, hbb⟩
    · have h2 := hw.resolve_left h1
      clear hw
      have d1 : decide (id < 0) = false := decide_eq_false h1
      have d2 : decide ((xs.length : Int) ≤ id) = true := decide_eq_true h2
      go_enter Try.func66, Try.ntmps66
      go_wp2_with (go_at_call 57; refine (wrap_iface _ _ _ _).mono ?_; rintro e w' ⟨rfl, hw⟩; obtain ⟨hch, hbb⟩ := ferr hw; clear hw)
      go_ret2
      exact ⟨_, rfl, hch, hbb⟩
  · obtain ⟨g, c, rfl, hc, hcm, hlt, k0, _, _, _⟩ := h.at hi
    obtain ⟨st, tok, wk⟩ := a
    obtain rfl : st = 2 := ha
    simp only at k0
    clear h hi hc
    have hcm' : c ≤ 9223372036854775807 := by unfold maxLen at hcm; omega
    have d1 : decide ((i : Int) < 0) = false := decide_eq_false (by omega)
    have d2 : decide ((xs.length : Int) ≤ (i : Int)) = false := decide_eq_false (by omega)
    go_enter Try.func66, Try.ntmps66
    go_wp2_with (go_at_call 57; refine (wrap_iface _ _ _ _).mono ?_; rintro e w' ⟨rfl, hw⟩; obtain ⟨hch, hbb⟩ := ferr hw; clear hw)
    go_ret2
    exact ⟨_, rfl, hch, hbb⟩

theorem live_raw (op : ByteArray) (W : World) (b g n c i : Nat) (st : Int) (c0 : W.cell? ⟨b, 0, none⟩ = some (.slice (some ⟨g, 0, none⟩) n c)) (k0 : W.cell? ⟨g, i * 3, none⟩ = some (.int .i64 st)) (hi : i < n) (_hn : n ≤ 9223372036854775807) (hs : st ≠ 2) :
    Calls Try.prog 66 #[.pointer (some ⟨b, 0, none⟩), .string op, .int .i64 i] W fun e w' => e = .returned (.tuple #[.pointer (some ⟨g, i * 3, none⟩), .nilIface]) ∧ W = w' := by
  have d1 : decide ((i : Int) < 0) = false := decide_eq_false (by omega)
  have d2 : decide ((n : Int) ≤ (i : Int)) = false := decide_eq_false (by omega)
  have d3 : (st == 2) = false := by simp [hs]
  go_enter Try.func66, Try.ntmps66
  go_wp2
  go_ret2
  exact ⟨by simp, rfl⟩

/-- The way to an actor that isn't halted. -/
theorem live_ok {W : World} {b : Nat} {v : Value} {xs : List Ac} (h : Tb W b v xs) {i : Nat} {a : Ac} (hi : xs[i]? = some a) (hs : a.1 ≠ 2) :
    ∃ g c, v = .slice (some ⟨g, 0, none⟩) xs.length c ∧ W.cell? ⟨g, i * 3, none⟩ = some (.int .i64 a.1) ∧ W.cell? ⟨g, i * 3 + 1, none⟩ = some (.bool a.2.1) ∧ W.cell? ⟨g, i * 3 + 2, none⟩ = some (.int .i64 a.2.2) ∧ (∀ j, W.frozen? ⟨g, j, none⟩ = false) ∧
      ∀ op, Calls Try.prog 66 #[.pointer (some ⟨b, 0, none⟩), .string op, .int .i64 i] W fun e w' => e = .returned (.tuple #[.pointer (some ⟨g, i * 3, none⟩), .nilIface]) ∧ W = w' := by
  obtain ⟨g, c, rfl, hc, hcm, hlt, k0, k1, k2, kf⟩ := h.at hi
  exact ⟨g, c, rfl, k0, k1, k2, kf, fun op => live_raw op W b g xs.length c i a.1 h.c0 k0 hlt (by unfold maxLen at hcm; omega) hs⟩

def parkS (a : Ac) : Ac := if a.2.1 then (a.1, false, a.2.2) else (1, a.2.1, a.2.2)
def wakeS (a : Ac) : Ac := if a.1 = 1 then (0, a.2.1, a.2.2 + 1) else (a.1, true, a.2.2 + 1)
def clearS (a : Ac) : Ac := (a.1, false, a.2.2)
def haltS (a : Ac) : Ac := (2, false, a.2.2)

theorem park_bad (W : World) (b : Nat) (v : Value) (xs : List Ac) (id n : Int) (h : Tb W b v xs) (hw : Wr xs id n) :
    Calls Try.prog 38 #[.pointer (some ⟨b, 0, none⟩), .int .i64 id] W fun e w' => ∃ q, e = .returned (.tuple #[.bool false, Flt q]) ∧ Chain w' (Flt q) 1 n ∧ Below W.heap.size W w' := by
  go_enter Try.func38, Try.ntmps38
  go_wp2_with (go_at_call 66; refine (live_bad _ _ _ _ _ _ n h hw).mono ?_; rintro e w' ⟨q, rfl, hch, hbb⟩)
  go_ret2
  exact ⟨_, rfl, hch, hbb⟩
theorem wake_bad (W : World) (b : Nat) (v : Value) (xs : List Ac) (id n : Int) (h : Tb W b v xs) (hw : Wr xs id n) :
    Calls Try.prog 40 #[.pointer (some ⟨b, 0, none⟩), .int .i64 id] W fun e w' => ∃ q, e = .returned (.tuple #[.bool false, Flt q]) ∧ Chain w' (Flt q) 1 n ∧ Below W.heap.size W w' := by
  go_enter Try.func40, Try.ntmps40
  go_wp2_with (go_at_call 66; refine (live_bad _ _ _ _ _ _ n h hw).mono ?_; rintro e w' ⟨q, rfl, hch, hbb⟩)
  go_ret2
  exact ⟨_, rfl, hch, hbb⟩
theorem clear_bad (W : World) (b : Nat) (v : Value) (xs : List Ac) (id n : Int) (h : Tb W b v xs) (hw : Wr xs id n) :
    Calls Try.prog 43 #[.pointer (some ⟨b, 0, none⟩), .int .i64 id] W fun e w' => ∃ q, e = .returned (Flt q) ∧ Chain w' (Flt q) 1 n ∧ Below W.heap.size W w' := by
  go_enter Try.func43, Try.ntmps43
  go_wp2_with (go_at_call 66; refine (live_bad _ _ _ _ _ _ n h hw).mono ?_; rintro e w' ⟨q, rfl, hch, hbb⟩)
  go_ret
  exact ⟨_, rfl, hch, hbb⟩
theorem halt_bad (W : World) (b : Nat) (v : Value) (xs : List Ac) (id n : Int) (h : Tb W b v xs) (hw : Wr xs id n) :
    Calls Try.prog 44 #[.pointer (some ⟨b, 0, none⟩), .int .i64 id] W fun e w' => ∃ q, e = .returned (Flt q) ∧ Chain w' (Flt q) 1 n ∧ Below W.heap.size W w' := by
  go_enter Try.func44, Try.ntmps44
  go_wp2_with (go_at_call 66; refine (live_bad _ _ _ _ _ _ n h hw).mono ?_; rintro e w' ⟨q, rfl, hch, hbb⟩)
  go_ret
  exact ⟨_, rfl, hch, hbb⟩

theorem park_ok (W : World) (b : Nat) (v : Value) (xs : List Ac) (i : Nat) (a : Ac) (h : Tb W b v xs) (hi : xs[i]? = some a) (hs : a.1 ≠ 2) :
    Calls Try.prog 38 #[.pointer (some ⟨b, 0, none⟩), .int .i64 i] W fun e w' => e = .returned (.tuple #[.bool (!a.2.1), .nilIface]) ∧ TbSet W w' b v (xs.set i (parkS a)) := by
  obtain ⟨g, c, rfl, k0, k1, k2, kf, hl⟩ := live_ok h hi hs
  have f0 := kf (i * 3)
  have f1 := kf (i * 3 + 1)
  have HR := Lib.hid (TbSet.refl h)
  have HL := Lib.hid hl
  have HI := Lib.hid hi
  obtain ⟨st, tok, wk⟩ := a
  simp only at k0 k1 k2
  clear h hl kf hi hs
  cases tok
  · go_enter Try.func38, Try.ntmps38
    go_wp2_with (go_at_call 66; refine (HL.out _).mono ?_; rintro e w' ⟨rfl, rfl⟩)
    go_ret2
    exact ⟨rfl, HR.out.s0 HI.out 1⟩
  · go_enter Try.func38, Try.ntmps38
    go_wp2_with (go_at_call 66; refine (HL.out _).mono ?_; rintro e w' ⟨rfl, rfl⟩)
    go_ret2
    exact ⟨rfl, HR.out.s1 HI.out false⟩

theorem set_at {xs : List Ac} {i : Nat} {a y : Ac} (h : xs[i]? = some a) : (xs.set i y)[i]? = some y := by
  have hlt : i < xs.length := (List.getElem?_eq_some_iff.1 h).1
  rw [List.getElem?_set_self hlt]

theorem wake_ok (W : World) (b : Nat) (v : Value) (xs : List Ac) (i : Nat) (a : Ac) (h : Tb W b v xs) (hi : xs[i]? = some a) (hs : a.1 ≠ 2) (h0 : 0 ≤ a.2.2) (h1 : a.2.2 < 4611686018427387904) :
    Calls Try.prog 40 #[.pointer (some ⟨b, 0, none⟩), .int .i64 i] W fun e w' => e = .returned (.tuple #[.bool (a.1 == 1), .nilIface]) ∧ TbSet W w' b v (xs.set i (wakeS a)) := by
  obtain ⟨g, c, rfl, k0, k1, k2, kf, hl⟩ := live_ok h hi hs
  have f0 := kf (i * 3)
  have f1 := kf (i * 3 + 1)
  have f2 := kf (i * 3 + 2)
  have HR := Lib.hid (TbSet.refl h)
  have HL := Lib.hid hl
  have HI := Lib.hid hi
  obtain ⟨st, tok, wk⟩ := a
  simp only at k0 k1 k2 h0 h1
  clear h hl kf hi hs
  by_cases h2 : st = 1
  · subst h2
    go_enter Try.func40, Try.ntmps40
    go_wp2_with (go_at_call 66; refine (HL.out _).mono ?_; rintro e w' ⟨rfl, rfl⟩)
    go_ret2
    refine ⟨rfl, ?_⟩
    have := (HR.out.s2 HI.out (wk + 1)).s0 (set_at HI.out) 0
    rw [List.set_set] at this
    exact this
  · have d2 : (st == 1) = false := by simp [h2]
    go_enter Try.func40, Try.ntmps40
    go_wp2_with (go_at_call 66; refine (HL.out _).mono ?_; rintro e w' ⟨rfl, rfl⟩)
    go_ret2
    refine ⟨by simp [d2], ?_⟩
    have := (HR.out.s2 HI.out (wk + 1)).s1 (set_at HI.out) true
    rw [List.set_set] at this
    have e : wakeS (st, tok, wk) = (st, true, wk + 1) := by unfold wakeS; rw [if_neg h2]
    rw [e]
    exact this

theorem clear_ok (W : World) (b : Nat) (v : Value) (xs : List Ac) (i : Nat) (a : Ac) (h : Tb W b v xs) (hi : xs[i]? = some a) (hs : a.1 ≠ 2) :
    Calls Try.prog 43 #[.pointer (some ⟨b, 0, none⟩), .int .i64 i] W fun e w' => e = .returned .nilIface ∧ TbSet W w' b v (xs.set i (clearS a)) := by
  obtain ⟨g, c, rfl, k0, k1, k2, kf, hl⟩ := live_ok h hi hs
  have f1 := kf (i * 3 + 1)
  have HR := Lib.hid (TbSet.refl h)
  have HL := Lib.hid hl
  have HI := Lib.hid hi
  obtain ⟨st, tok, wk⟩ := a
  simp only at k0 k1 k2
  clear h hl kf hi hs
  go_enter Try.func43, Try.ntmps43
  go_wp2_with (go_at_call 66; refine (HL.out _).mono ?_; rintro e w' ⟨rfl, rfl⟩)
  go_ret
  exact ⟨rfl, HR.out.s1 HI.out false⟩

theorem halt_ok (W : World) (b : Nat) (v : Value) (xs : List Ac) (i : Nat) (a : Ac) (h : Tb W b v xs) (hi : xs[i]? = some a) (hs : a.1 ≠ 2) :
    Calls Try.prog 44 #[.pointer (some ⟨b, 0, none⟩), .int .i64 i] W fun e w' => e = .returned .nilIface ∧ TbSet W w' b v (xs.set i (haltS a)) := by
  obtain ⟨g, c, rfl, k0, k1, k2, kf, hl⟩ := live_ok h hi hs
  have f0 := kf (i * 3)
  have f1 := kf (i * 3 + 1)
  have HR := Lib.hid (TbSet.refl h)
  have HL := Lib.hid hl
  have HI := Lib.hid hi
  obtain ⟨st, tok, wk⟩ := a
  simp only at k0 k1 k2
  clear h hl kf hi hs
  go_enter Try.func44, Try.ntmps44
  go_wp2_with (go_at_call 66; refine (HL.out _).mono ?_; rintro e w' ⟨rfl, rfl⟩)
  go_ret
  refine ⟨rfl, ?_⟩
  have := (HR.out.s0 HI.out 2).s1 (set_at HI.out) false
  rw [List.set_set] at this
  exact this

theorem tlen (W : World) (b : Nat) (v : Value) (xs : List Ac) (h : Tb W b v xs) :
    Calls Try.prog 50 #[.pointer (some ⟨b, 0, none⟩)] W fun e w' => e = .returned (.int .i64 xs.length) ∧ W = w' := by
  have c0 := h.c0
  obtain ⟨p, c, rfl, hc⟩ := row_form h.2
  clear hc h
  go_enter Try.func50, Try.ntmps50
  go_wp2
  go_ret
  exact ⟨rfl, rfl⟩
end Go.Proofs.Ytpnglcafjofmnaa
