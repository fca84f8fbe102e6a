/-
  What a sequencer of package multi tells: Claimed, Remaining, Highest, and whether an index is claimed, by contract. Conditions: the cells are there; fewer than 2^61 steps.
-/
import Derived.Test.YteinfkcnengmeaaPl
namespace Go.Proofs.Yteinfkcnengmeaa
open Go.RowKit

set_option maxHeartbeats 1000000 in
theorem mclaimed_some {R : Rest} {W0 W : World} {s : Sh} {ids xs : List Int} {sw st c : Int} (hm : Ms R W0 W s ids sw xs st) (hx : xs[s.cur]? = some c) (h0 : 0 ≤ st) (h1 : st < 4611686018427387904) :
    Calls Try.prog 62 #[.pointer (some ⟨s.p, 0, none⟩)] W fun e w' => e = .returned (.int .i64 c) ∧ Ms R W0 w' s ids sw xs (st + 1) := by
  have HM := Lib.hid hm
  have HX := Lib.hid hx
  have k0 := hm.c.c0
  have k2 := hm.c.c2
  clear hm hx
  go_enter Try.func62, Try.ntmps62
  go_wp2_with fail
  go_region_held3 (fun w' => w'.cell? ⟨s.p, 0, none⟩ = some (.pointer (some ⟨s.b, 0, none⟩)) ∧ w'.cell? ⟨s.p, 2, none⟩ = some (.int .i64 s.cur)) (first
      | exact ⟨by assumption, by assumption⟩
      | exact ⟨by go_simp, by go_simp⟩) (first
      | (go_at_call 29; refine (load_s (HM.out.keep (Below.drew (Below.refl _ _))) s.cur c HX.out h0 h1).mono ?_; rintro e w2 ⟨rfl, hm2⟩; have H2 := Lib.hid hm2; have j0 := hm2.c.c0; have j2 := hm2.c.c2; clear hm2))
  clear k0 k2 j0 j2
  go_wp2
  go_ret
  exact ⟨rfl, H2.out⟩

/-- An error by its number, whatever faults stand around it; none is 0. -/
def ErrAt (W : World) (E : Value) (n : Int) : Prop := (n = 0 ∧ E = .nilIface) ∨ (n ≠ 0 ∧ (∃ q, E = .iface 164 (.pointer (some ⟨q, 0, none⟩))) ∧ ∃ d, Chain W E d n)
theorem ErrAt.none (W : World) : ErrAt W .nilIface 0 := .inl ⟨rfl, rfl⟩
theorem ErrAt.of {W w : World} {E : Value} {n : Int} (h : Refused W w E n) (hn : n ≠ 0) : ErrAt w E n := by
  obtain ⟨q, h1, h2, _⟩ := h
  exact .inr ⟨hn, ⟨q, h1⟩, _, h2⟩
theorem ErrAt.keep {W w : World} {E : Value} {n : Int} (h : ErrAt W E n) (hb : Below W.heap.size W w) : ErrAt w E n := by
  rcases h with h | ⟨h0, h1, d, h2⟩
  · exact .inl h
  · exact .inr ⟨h0, h1, d, h2.keep hb⟩
theorem is_at {W : World} {E : Value} {n : Int} (h : ErrAt W E n) (m : Int) :
    Calls Try.prog 16 #[E, .int .i64 m] W fun e w' => e = .returned (.bool (n == m)) ∧ W = w' := by
  rcases h with ⟨rfl, rfl⟩ | ⟨h0, _, d, h2⟩
  · refine (isN_nil m).mono ?_
    rintro e w' ⟨rfl, rfl⟩
    refine ⟨?_, rfl⟩
    congr 2
    rw [Bool.eq_iff_iff]
    simp only [beq_iff_eq]
    exact eq_comm
  · by_cases hm : m = 0
    · subst hm
      refine (isN_zero _ d n h2).mono ?_
      rintro e w' ⟨rfl, rfl⟩
      exact ⟨by simp [h0], rfl⟩
    · exact isN_chain m _ d n h2 hm
/-- fault.Wrap around an error of so many faults. -/
theorem wrap_deep {W : World} (op : ByteArray) (seq : Int) {E : Value} {d : Nat} {n : Int} (h : Chain W E d n) :
    Calls Try.prog 77 #[.string op, .int .i64 seq, E] W fun e w' => ∃ q, e = .returned (.iface 164 (.pointer (some ⟨q, 0, none⟩))) ∧ Chain w' (.iface 164 (.pointer (some ⟨q, 0, none⟩))) (d + 1) n ∧ Below W.heap.size W w' := by
  obtain ⟨u, v, rfl⟩ := h.iface
  refine (wrap_iface op seq u v).mono ?_
  rintro e w' ⟨rfl, rfl⟩
  have hb : Below W.heap.size W (W.alloc (.cells #[.string op, .int .i64 seq, .iface u v] 166)) := (Below.refl _ _).alloc (Nat.le_refl _) _
  exact ⟨_, rfl, .fault _ _ _ _ _ _ (heap_at _ _ _ rfl) (h.keep hb), hb⟩
theorem wrap_nil {W : World} (op : ByteArray) (seq : Int) :
    Calls Try.prog 77 #[.string op, .int .i64 seq, .nilIface] W fun e w' => e = .returned .nilIface ∧ W = w' := by
  go_enter Try.func77, Try.ntmps77
  go_wp2
  go_ret
  exact ⟨rfl, rfl⟩
end Go.Proofs.Yteinfkcnengmeaa
