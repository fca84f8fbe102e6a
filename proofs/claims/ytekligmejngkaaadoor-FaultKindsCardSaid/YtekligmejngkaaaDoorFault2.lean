/-
  fault.Is and fault.Grave, and what is answered where there is no error: contracts. Condition: no more than 1000 faults stand around the number; the library's own variable for the type error holds it.
-/
import Derived.Test.YtekligmejngkaaaDoorFault
namespace Go.Proofs.YtekligmejngkaaaDoor
open Go.RowKit Go.Extern.Stop Go.Stop Go.Extern

theorem As_nil {W : World} (t : Value) :
    Calls Tryd.prog 13 #[.nilIface, t] W fun e w' => e = .returned (.bool false) ∧ W = w' := by
  go_enter Tryd.func13, Tryd.ntmps13
  go_wp2
  go_ret
  exact ⟨rfl, rfl⟩
theorem Is_nil {W : World} (m : Int) :
    Calls Tryd.prog 24 #[.nilIface, .iface 30 (.int .i64 m)] W fun e w' => e = .returned (.bool false) ∧ W = w' := by
  have hn := run_eql_iface_nil_left (P := Tryd.prog) W 30 (.int .i64 m) Tryd.underlying26
  go_enter Tryd.func24, Tryd.ntmps24
  go_wp2
  go_ret
  exact ⟨rfl, rfl⟩

theorem clo_find_nil {W : World} {p0 : Nat} (pe pt po : Nat) (x : Value) (he : W.cell? ⟨pe, 0, none⟩ = some .nilIface) (hp : W.cell? ⟨pt, 0, none⟩ = some (.pointer (some ⟨p0, 0, none⟩))) (ho : W.cell? ⟨po, 0, none⟩ = some x) (hf : W.frozen? ⟨po, 0, none⟩ = false) :
    Calls Tryd.prog 50 #[.pointer (some ⟨pe, 0, none⟩), .pointer (some ⟨pt, 0, none⟩), .pointer (some ⟨po, 0, none⟩)] W fun e w' => e = .returned (.tuple #[]) ∧ w' = W.setCell ⟨po, 0, none⟩ (.bool false) := by
  go_enter Tryd.func50, Tryd.ntmps50
  go_wp2_with (go_at_call 13; refine (As_nil _).mono ?_; rintro e w' ⟨rfl, rfl⟩)
  go_returns
  exact ⟨rfl, rfl⟩

theorem find_nil {W : World} (tb : Nat) :
    Calls Tryd.prog 37 #[.nilIface, .pointer (some ⟨tb, 0, none⟩)] W fun e w' => e = .returned (.bool false) ∧ Below W.heap.size W w' := by
  have hmf : ∀ (fn : Fn) (first cap : Array Value) (w : World), (Instr.makeFunc fn first cap).run Tryd.prog w = .ok (.func fn first cap) w := fun _ _ _ _ => rfl
  go_enter Tryd.func37, Tryd.ntmps37
  go_wp2_with (go_at_call 40; refine (calm_any 50 _ (fun w' => w' = (((W.alloc (.cells #[.nilIface] 26)).alloc (.cells #[.pointer (some ⟨tb, 0, none⟩)] 38)).alloc (.cells #[.bool false] 4)).setCell ⟨W.heap.size + 1 + 1, 0, none⟩ (.bool false)) _ (fun _ => by kernel_rfl) (clo_find_nil (p0 := tb) _ _ _ (.bool false) (up_cell (up_cell (new_cell rfl))) (up_cell (new_cell (by simp))) (new_cell (by simp)) (new_frozen (by simp)))).mono ?_; rintro e w' ⟨rfl, rfl⟩)
  go_returns
  exact ⟨rfl, by go_grown⟩

theorem deep_nil {W : World} :
    Calls Tryd.prog 11 #[.nilIface] W fun e w' => e = .returned (.int .i64 0) ∧ Below W.heap.size W w' := by
  have hin : ∀ W : World, Calls Tryd.prog 20 #[.nilIface] W fun e w' => e = .returned (.tuple #[.pointer none, .int .i64 0]) ∧ Below W.heap.size W w' := by
    intro W
    go_enter Tryd.func20, Tryd.ntmps20
    go_wp2_with (go_at_call 22; refine ends_nil.mono ?_; rintro e w' ⟨rfl, rfl⟩)
    refine wp_loop_rounds 1 ?_
    rw [rounds_succ]
    go_wp2_with (go_at_call 37; refine (find_nil _).mono ?_; rintro e w2 ⟨rfl, hb2⟩)
    go_ret2
    exact ⟨rfl, bthen (balloc (Below.refl _ _) _) hb2⟩
  have HIN := Lib.hid hin
  clear hin
  go_enter Tryd.func11, Tryd.ntmps11
  go_wp2_with (go_at_call 20; refine (HIN.out _).mono ?_; rintro e w2 ⟨rfl, hb2⟩)
  go_ret
  exact ⟨rfl, hb2⟩

theorem clo_matches_nil {W : World} (m : Int) (pe pn po : Nat) (x : Value) (he : W.cell? ⟨pe, 0, none⟩ = some .nilIface) (hn : W.cell? ⟨pn, 0, none⟩ = some (.int .i64 m)) (ho : W.cell? ⟨po, 0, none⟩ = some x) (hf : W.frozen? ⟨po, 0, none⟩ = false) :
    Calls Tryd.prog 49 #[.pointer (some ⟨pe, 0, none⟩), .pointer (some ⟨pn, 0, none⟩), .pointer (some ⟨po, 0, none⟩)] W fun e w' => e = .returned (.tuple #[]) ∧ w' = W.setCell ⟨po, 0, none⟩ (.bool false) := by
  go_enter Tryd.func49, Tryd.ntmps49
  go_wp2_with (go_at_call 24; refine (Is_nil m).mono ?_; rintro e w' ⟨rfl, rfl⟩)
  go_returns
  exact ⟨rfl, rfl⟩
theorem matches_nil {W : World} (m : Int) :
    Calls Tryd.prog 36 #[.nilIface, .int .i64 m] W fun e w' => e = .returned (.bool false) ∧ Below W.heap.size W w' := by
  have hmf : ∀ (fn : Fn) (first cap : Array Value) (w : World), (Instr.makeFunc fn first cap).run Tryd.prog w = .ok (.func fn first cap) w := fun _ _ _ _ => rfl
  go_enter Tryd.func36, Tryd.ntmps36
  go_wp2_with (go_at_call 40; refine (calm_any 49 _ (fun w' => w' = (((W.alloc (.cells #[.nilIface] 26)).alloc (.cells #[.int .i64 m] 30)).alloc (.cells #[.bool false] 4)).setCell ⟨W.heap.size + 1 + 1, 0, none⟩ (.bool false)) _ (fun _ => by kernel_rfl) (clo_matches_nil m _ _ _ (.bool false) (up_cell (up_cell (new_cell rfl))) (up_cell (new_cell (by simp))) (new_cell (by simp)) (new_frozen (by simp)))).mono ?_; rintro e w' ⟨rfl, rfl⟩)
  go_returns
  exact ⟨rfl, by go_grown⟩

def IsRel (W : World) (xs : List Int) (r : Int → Bool) (i : Value) (wl : World) : Prop :=
  ∃ k : Nat, k ≤ xs.length ∧ i = .int .i64 k ∧ Below W.heap.size W wl ∧ ∀ j, (h : j < xs.length) → j < k → r xs[j] = false
theorem any_none {xs : List Int} {r : Int → Bool} (h : ∀ j, (hj : j < xs.length) → r xs[j] = false) : xs.any r = false := by
  rw [List.any_eq_false]
  intro x hx
  obtain ⟨j, hj, rfl⟩ := List.getElem_of_mem hx
  simp [h j hj]

set_option maxHeartbeats 400000 in
/-- fault.Is of numbers that lie in a row of cells. -/
theorem fis_row {W : World} (E : Value) (r : Int → Bool) (xs : List Int) (b off c : Nat) (hlen : xs.length ≤ 1000) (hE : E = .nilIface ∨ ∃ u v, E = .iface u v)
    (hends : Calls Tryd.prog 22 #[E] W fun e w' => e = .returned (.bool true) ∧ Below W.heap.size W w')
    (hm : ∀ (W' : World) (m : Int), Below W.heap.size W W' → Calls Tryd.prog 36 #[E, .int .i64 m] W' fun e w' => e = .returned (.bool (r m)) ∧ Below W'.heap.size W' w')
    (hx : ∀ j, (h : j < xs.length) → W.cell? ⟨b, off + j, none⟩ = some (.int .i64 xs[j])) :
    Calls Tryd.prog 17 #[E, .slice (some ⟨b, off, none⟩) xs.length c] W fun e w' => e = .returned (.bool (xs.any r)) ∧ Below W.heap.size W w' := by
  have HX := Lib.hid hx
  have HM := Lib.hid hm
  have HE := Lib.hid hends
  clear hx hm hends
  rcases hE with rfl | ⟨u, v, rfl⟩ <;>
  · go_enter Tryd.func17, Tryd.ntmps17
    go_wp2_with (go_at_call 22; refine HE.out.mono ?_; rintro e w1 ⟨rfl, hb1⟩)
    go_loopw [12] (fun i wl => IsRel W xs r i wl) (fun i _ => xs.length - (intOf i).toNat)
    case atStart => exact ⟨0, Nat.zero_le _, rfl, hb1, fun j h hj => absurd hj (Nat.not_lt_zero _)⟩
    case round =>
      obtain ⟨k, hk, rfl, hb, hno⟩ := hrel
      have HNO := Lib.hid hno
      clear hno
      by_cases hlt : k < xs.length
      · have hcell := keepc hb (HX.out k hlt)
        by_cases hr : r xs[k] = true
        · have HR := Lib.hid hr
          clear hr
          go_wp2_with (go_at_call 36; refine (HM.out _ _ hb).mono ?_; rw [HR.out]; rintro e w2 ⟨rfl, hb2⟩)
          go_ret
          have : xs.any r = true := List.any_eq_true.2 ⟨xs[k], List.getElem_mem hlt, HR.out⟩
          exact ⟨by rw [this]; rfl, bthen hb hb2⟩
        · have HR := Lib.hid (Bool.eq_false_iff.2 hr)
          clear hr
          go_wp2_with (go_at_call 36; refine (HM.out _ _ hb).mono ?_; rw [HR.out]; rintro e w2 ⟨rfl, hb2⟩)
          refine ⟨⟨k + 1, by omega, by go_num, bthen hb hb2, fun j hj hjk => ?_⟩, by simp [intOf]; omega⟩
          rcases Nat.lt_or_eq_of_le (Nat.lt_succ_iff.1 hjk) with h | h
          · exact HNO.out j hj h
          · subst h; exact HR.out
      · go_wp2
        go_ret
        exact ⟨by rw [any_none fun j hj => HNO.out j hj (by omega)]; rfl, hb⟩

theorem fis_none {W : World} (E : Value) (hE : E = .nilIface ∨ ∃ u v, E = .iface u v)
    (hends : Calls Tryd.prog 22 #[E] W fun e w' => e = .returned (.bool true) ∧ Below W.heap.size W w') :
    Calls Tryd.prog 17 #[E, .slice none 0 0] W fun e w' => e = .returned (.bool false) ∧ Below W.heap.size W w' := by
  have HE := Lib.hid hends
  clear hends
  rcases hE with rfl | ⟨u, v, rfl⟩ <;>
  · go_enter Tryd.func17, Tryd.ntmps17
    go_wp2_with (go_at_call 22; refine HE.out.mono ?_; rintro e w1 ⟨rfl, hb1⟩)
    refine wp_loop_rounds 1 ?_
    rw [rounds_succ]
    go_wp2
    go_ret
    exact ⟨rfl, hb1⟩

theorem grave_nil {W : World} :
    Calls Tryd.prog 18 #[.nilIface] W fun e w' => e = .returned (.bool false) ∧ Below W.heap.size W w' := by
  go_enter Tryd.func18, Tryd.ntmps18
  go_wp2_with (go_at_call 10; refine code_nil.mono ?_; rintro e w1 ⟨rfl, hb1⟩)
  go_ret
  exact ⟨rfl, hb1⟩

theorem grave_chain {W : World} (E : Value) (d : Nat) (n : Int) (hc : Chain W E d n) (hd : d ≤ 1000) (hg : Glob W) (hn : n ≠ 0) :
    Calls Tryd.prog 18 #[E] W fun e w' => e = .returned (.bool (!([10, 11, 12, 14].any (fun m : Int => n == m)))) ∧ Below W.heap.size W w' := by
  have HC := Lib.hid hc
  have HG := Lib.hid hg
  have hn0 : (n == 0) = false := by simpa using hn
  have hn1 : (n != 0) = true := by simpa using hn
  obtain ⟨u, v, rfl⟩ := hc.iface
  clear hc hg hn
  go_enter Tryd.func18, Tryd.ntmps18
  go_wp2_with (go_at_call 10; refine (code_chain _ d n HC.out hd HG.out).mono ?_; rintro e w1 ⟨rfl, hb1⟩)
  refine (fis_row (.iface u v) (fun m => n == m) [10, 11, 12, 14] w1.heap.size 0 4 (by decide) (Or.inr ⟨u, v, rfl⟩) (ends_chain _ d n (Chain.up (HC.out.keep hb1)) hd) (fun W' m hb => matches_any _ d n m ((Chain.up (HC.out.keep hb1)).keep hb)) ?_).mono ?_
  · intro j hj
    have hj' : j < 4 := hj
    rcases j with _ | _ | _ | _ | j
    · simp
    · simp
    · simp
    · simp
    · omega
  rintro e w2 ⟨rfl, hb2⟩
  go_wp2
  go_ret
  exact ⟨by show Ending.returned (.bool _) = _; simp, bthen (balloc hb1 _) hb2⟩
end Go.Proofs.YtekligmejngkaaaDoor
