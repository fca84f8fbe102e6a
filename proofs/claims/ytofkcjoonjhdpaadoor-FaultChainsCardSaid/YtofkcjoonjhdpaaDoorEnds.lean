/-
  fault.ends: the errors within an error come to an end: true of each error. Condition: no more than 1000 faults stand around the number.
-/
import Derived.Test.YtofkcjoonjhdpaaDoorFind2
import Derived.LoopTactic
namespace Go.Proofs.YtofkcjoonjhdpaaDoor
open Go.RowKit Go.Extern.Stop Go.Stop Go.Extern

/-- What holds at each round's head: how far it has come, and that the mark stands around what is left. -/
def EndsRel (W : World) (d : Nat) (n : Int) (E M mv nn : Value) (wl : World) : Prop :=
  ∃ (k : Nat) (m : Int), Below W.heap.size W wl ∧ nn = .int .i64 k ∧ mv = .int .i64 m ∧ 1 ≤ m ∧ m ≤ 5000 ∧ 1 ≤ k ∧ k ≤ d + 2 ∧ (E = .nilIface ∨ ∃ d' dm, Chain W E d' n ∧ Chain W M dm n ∧ d' ≤ dm ∧ k + d' = d + 1)
/-- How many rounds are left. -/
noncomputable def endsLen (W : World) : Value → Nat
  | .nilIface => 0
  | E => chainLen W E + 1
theorem endsLen_chain {W : World} {E : Value} {d : Nat} {n : Int} (h : Chain W E d n) : endsLen W E = d + 1 := by
  obtain ⟨u, v, rfl⟩ := h.iface
  show chainLen W (.iface u v) + 1 = _
  rw [chainLen_eq h]

set_option maxRecDepth 100000 in
set_option maxHeartbeats 1000000 in
theorem ends_chain {W : World} (E : Value) (d : Nat) (n : Int) (hc : Chain W E d n) (hd : d ≤ 1000) :
    Calls Tryd.prog 18 #[E] W fun e w' => e = .returned (.bool true) ∧ Below W.heap.size W w' := by
  have HC := Lib.hid hc
  clear hc
  go_enter Tryd.func18, Tryd.ntmps18
  go_wp2
  go_loopw [0, 3, 4, 5] (fun E' M mv nn wl => EndsRel W d n E' M mv nn wl) (fun E' _ _ _ _ => endsLen W E')
  case atStart => exact ⟨1, 1, Below.refl _ _, rfl, rfl, by omega, by omega, by omega, by omega, Or.inr ⟨d, d, HC.out, HC.out, Nat.le_refl _, by omega⟩⟩
  case round =>
    obtain ⟨k, m, hb, rfl, rfl, m1, m2, k1, k2, hE⟩ := hrel
    rcases hE with rfl | ⟨d', dm, hce, hcm, hle, hkd⟩
    · go_wp2
      go_ret
      exact ⟨rfl, hb⟩
    · cases hce with
      | num =>
        by_cases hkm : (k : Int) = m
        · have hkb : ((k : Int) == m) = true := by simpa using hkm
          have HK := Lib.hid hkm
          clear hkm
          go_wp2_with (go_at_call 33; refine (within_num _).mono ?_; rintro e w1 ⟨rfl, hb1⟩)
          have hkm := HK.out
          refine ⟨⟨k + 1, 2 * m, bthen hb hb1, by go_num, rfl, by omega, by omega, by omega, by omega, Or.inl rfl⟩, ?_⟩
          rw [endsLen_chain (.num n)]; exact Nat.succ_pos _
        · have hkb : ((k : Int) == m) = false := by simpa using hkm
          clear hkm
          go_wp2_with (go_at_call 33; refine (within_num _).mono ?_; rintro e w1 ⟨rfl, hb1⟩)
          refine ⟨⟨k + 1, m, bthen hb hb1, by go_num, rfl, by omega, by omega, by omega, by omega, Or.inl rfl⟩, ?_⟩
          rw [endsLen_chain (.num n)]; exact Nat.succ_pos _
      | fault b op seq E1 d1 _ h0 hc1 =>
        have h0' := Lib.hid ((hb.block b (heap_lt h0)).trans h0)
        have HC1 := Lib.hid (hc1.keep hb)
        have HM := Lib.hid (hcm.keep hb)
        have HM0 := Lib.hid hcm
        have HC0 := Lib.hid hc1
        have HL := Lib.hid (endsLen_chain hc1)
        have HL0 := Lib.hid (endsLen_chain (Chain.fault b op seq E1 d1 n h0 hc1))
        obtain ⟨u1, v1, rfl⟩ := hc1.iface
        clear hc1 hcm h0
        by_cases hkm : (k : Int) = m
        · have hkb : ((k : Int) == m) = true := by simpa using hkm
          have HK := Lib.hid hkm
          clear hkm
          go_wp2_with (first | (go_at_call 33; refine (within_fault b _ d1 n (heap_cell (h0'.out) 2) HC1.out).mono ?_; rintro e w1 ⟨rfl, hb1⟩) | (go_at_call 34; refine (same_no _ _ d1 dm n n (HC1.out.keep hb1) (HM.out.keep hb1) (by omega)).mono ?_; rintro e w2 ⟨rfl, hb2⟩))
          have hkm := HK.out
          refine ⟨⟨k + 1, 2 * m, bthen hb (bthen hb1 hb2), by go_num, rfl, by omega, by omega, by omega, by omega, Or.inr ⟨d1, d1, HC0.out, HC0.out, Nat.le_refl _, by omega⟩⟩, ?_⟩
          rw [HL.out, HL0.out]; omega
        · have hkb : ((k : Int) == m) = false := by simpa using hkm
          clear hkm
          go_wp2_with (first | (go_at_call 33; refine (within_fault b _ d1 n (heap_cell (h0'.out) 2) HC1.out).mono ?_; rintro e w1 ⟨rfl, hb1⟩) | (go_at_call 34; refine (same_no _ _ d1 dm n n (HC1.out.keep hb1) (HM.out.keep hb1) (by omega)).mono ?_; rintro e w2 ⟨rfl, hb2⟩))
          refine ⟨⟨k + 1, m, bthen hb (bthen hb1 hb2), by go_num, rfl, by omega, by omega, by omega, by omega, Or.inr ⟨d1, dm, HC0.out, HM0.out, by omega, by omega⟩⟩, ?_⟩
          rw [HL.out, HL0.out]; omega

section
variable {P : Program} (w : World)
theorem eqIn_ptr_nil (d : Nat) {ti tp te : TypeId} {ms : Array (String × TypeId)} {i : TypeInfo} (a : Addr)
    (hi : P.underlying ti = some (.interface ms)) (hp : P.underlying tp = some (.pointer te)) (hinfo : P.info? tp = some i) (hcomp : i.comparable = true) :
    (Op.equalIn (d + 2) ti (.iface tp (.pointer (some a))) (.iface tp (.pointer none))).run P w = .ok false w := by
  simp [Op.equalIn, run_underlying hi, run_underlying hp, typeInfo, hinfo, hcomp]
theorem eq_ptr_nil {ti tp te : TypeId} {ms : Array (String × TypeId)} {i : TypeInfo} (a : Addr)
    (hi : P.underlying ti = some (.interface ms)) (hp : P.underlying tp = some (.pointer te)) (hinfo : P.info? tp = some i) (hcomp : i.comparable = true) :
    (binOp .eql ti (.iface tp (.pointer (some a))) (.iface tp (.pointer none))).run P w = .ok (.bool false) w := by
  simp only [binOp]
  simp [Op.equal, Op.maxDepth, eqIn_ptr_nil w 9998 a hi hp hinfo hcomp]
end

/-- fault.none: an error is one. -/
theorem none_chain {W : World} (E : Value) (d : Nat) (n : Int) (hc : Chain W E d n) :
    Calls Tryd.prog 17 #[E] W fun e w' => e = .returned (.bool false) ∧ W = w' := by
  cases hc with
  | num =>
    have hty := run_eql_iface_types (P := Tryd.prog) 30 36 (.int .i64 n) (.pointer none) Tryd.underlying26 (by decide) W
    go_enter Tryd.func17, Tryd.ntmps17
    go_wp2
    go_ret
    exact ⟨rfl, rfl⟩
  | fault b op seq E1 d1 _ h0 hc1 =>
    obtain ⟨i, hi, hcmp⟩ := Option.map_eq_some_iff.1 (show (Tryd.prog.info? 36).map (·.comparable) = some true by kernel_rfl)
    have heq := eq_ptr_nil (P := Tryd.prog) W ⟨b, 0, none⟩ Tryd.underlying26 Tryd.underlying36 hi hcmp
    clear hi
    go_enter Tryd.func17, Tryd.ntmps17
    go_wp2
    go_ret
    exact ⟨rfl, rfl⟩
theorem none_nil {W : World} :
    Calls Tryd.prog 17 #[.nilIface] W fun e w' => e = .returned (.bool true) ∧ W = w' := by
  go_enter Tryd.func17, Tryd.ntmps17
  go_wp2
  go_ret
  exact ⟨rfl, rfl⟩
/-- fault.ends of no error. -/
theorem ends_nil {W : World} :
    Calls Tryd.prog 18 #[.nilIface] W fun e w' => e = .returned (.bool true) ∧ W = w' := by
  go_enter Tryd.func18, Tryd.ntmps18
  go_wp2
  refine wp_loop_rounds 1 ?_
  rw [rounds_succ]
  go_wp2
  go_ret
  exact ⟨rfl, rfl⟩
end Go.Proofs.YtofkcjoonjhdpaaDoor
