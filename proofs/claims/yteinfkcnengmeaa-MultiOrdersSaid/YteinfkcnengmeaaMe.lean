/-
  Claim of package multi, by contract: what it refuses, and what it leaves. Conditions: the cells are there; fewer than 2^60 steps.
-/
import Derived.Test.YteinfkcnengmeaaMd
namespace Go.Proofs.Yteinfkcnengmeaa
open Go.RowKit

/-- A claim in a block of the caller's own, beside the sequencer. -/
structure M1 (R : Rest) (W0 w : World) (s : Sh) (ids : List Int) (sw : Int) (xs : List Int) (st : Int) (b : Nat) (ts : Array Value) : Prop where
  ms : Ms (R.and b ts 116) W0 w s ids sw xs st
  low : W0.heap.size ≤ b
  np : ∀ k, R.prot k → k < b
section
variable {R : Rest} {W0 W w : World} {s : Sh} {ids xs : List Int} {sw st : Int} {b : Nat} {ts : Array Value}
theorem M1.start (h : Ms R W0 W s ids sw xs st) (zs : Array Value) : M1 R W0 (W.alloc (.cells zs 116)) s ids sw xs st W.heap.size zs :=
  ⟨(h.keep (balloc (Below.refl _ _) _)).with (obj_new _ _) (by decide) (by decide) (by decide), h.below.size, fun k hk => h.prot_lt hk⟩
theorem M1.t (h : M1 R W0 w s ids sw xs st b ts) : Blk w b ts 116 := h.ms.inv.2
theorem M1.keep {w' : World} (h : M1 R W0 w s ids sw xs st b ts) (hb : Below w.heap.size w w') : M1 R W0 w' s ids sw xs st b ts := ⟨h.ms.keep hb, h.low, h.np⟩
theorem M1.store (h : M1 R W0 w s ids sw xs st b ts) (cs : Array Value) : M1 R W0 (w.setRow b cs) s ids sw xs st b cs := by
  have ht := h.t
  have hf : Frm (fun k => k = b) w (w.setRow b cs) := (Frm.refl (fun k => k = b) w).setRow rfl cs
  refine ⟨h.ms.turn hf (fun g o ho e => ?_) (fun g hg => .inl hg) ⟨?_, setRow_heap _ _ _ _ _ _ ht⟩, h.low, h.np⟩
  · subst e
    rw [ht] at ho
    cases ho
    exact ⟨h.low, _, _, _, rfl, by decide, by decide, by decide, by decide⟩
  · exact R.ok _ _ h.ms.inv.1 fun k hk => hf.block k (Nat.lt_trans (h.np k hk) (lt_of_block ht)) (by have := h.np k hk; omega)
theorem M1.done (h : M1 R W0 w s ids sw xs st b ts) : Ms R W0 w s ids sw xs st := h.ms.drop
end

set_option maxHeartbeats 2000000 in
set_option maxRecDepth 100000 in
/-- What Try refuses claim refuses. -/
theorem mclaim_err {P : Value} {n m : Int} {W : World} (ht : Calls Try.prog 66 #[P, .int .i64 n] W fun e w' => ∃ ts E, e = .returned (.tuple #[.agg ts, E]) ∧ TyZ ts ∧ Refused W w' E m) :
    Calls Try.prog 100 #[P, .int .i64 n] W fun e w' => ∃ q, e = .returned (.tuple #[.int .i64 0, .iface 164 (.pointer (some ⟨q, 0, none⟩))]) ∧ Chain w' (.iface 164 (.pointer (some ⟨q, 0, none⟩))) 2 m ∧ Below W.heap.size W w' := by
  have HTR := Lib.hid ht
  clear ht
  go_enter Try.func100, Try.ntmps100
  go_wp2_with (first
    | (go_at_call 66; refine HTR.out.mono ?_; rintro e w1 ⟨ts, E, rfl, hz, q, rfl, hc, hb⟩; have HZ := Lib.hid hz; have HZI := Lib.hid hz.info; have HC := Lib.hid hc; have HB := Lib.hid hb; clear hz hc hb)
    | (refine wpList_alloc_try rfl rfl ?_; intro zs hz; have HN := Lib.hid (obj_new w1 (.cells zs 116)); have HB1 := Lib.hid (balloc HB.out (.cells zs 116)); have HL := Lib.hid HB.out.size; generalize w1.heap.size = nb at *; have HC1 := Lib.hid (HC.out.keep (balloc (Below.refl _ _) (.cells zs 116))); generalize w1.alloc (.cells zs 116) = w2 at *)
    | (refine wpList_store_row rfl 116 (.tmp 6) (.tmp 12) rfl nb _ rfl rfl 116 _ HN.out HZI.out (by rw [HZ.out.size]; exact hz) HZ.out.one ?_; have HN2 := Lib.hid (setRow_heap _ nb _ ts _ _ HN.out); have HB2 := Lib.hid (bsetRow HB1.out HL.out ts); have HC2 := Lib.hid (Held.of_frm ((Frm.refl (fun k => k = nb) w2).setRow rfl ts) (by rintro k cs T m' rfl hk; rw [HN.out] at hk; cases hk; decide) _ _ _ HC1.out); generalize w2.setRow nb ts = w3 at *))
  go_loopw [7] (fun e wl => e = .iface 164 (.pointer (some ⟨q, 0, none⟩)) ∧ wl = w3) (fun _ _ => 0)
  case atStart => exact ⟨rfl, rfl⟩
  case round =>
    obtain ⟨rfl, rfl⟩ := hrel
    have c4 := (obj_cell HN2.out 4).trans HZ.out.c4
    go_wp2_with (first
      | (refine wpList_load_row rfl 116 (.tmp 6) rfl nb rfl 116 _ (0, 0) _ HN2.out Try.underlying116 rfl HZI.out ?_)
      | (go_at_call 71; refine (tfull HZ.out.c2 _).mono ?_; rintro e w4 ⟨rfl, hb⟩; have HB4 := Lib.hid (bthen HB2.out hb); have HC4 := Lib.hid (HC2.out.keep hb); have c4 := keepc hb c4; clear hb)
      | (go_at_call 77; refine (wrap_deep _ _ HC4.out).mono ?_; rintro e w5 ⟨q5, rfl, hc, hb⟩; have HC5 := Lib.hid hc; have HB5 := Lib.hid (bthen HB4.out hb); clear hc hb))
    go_ret2
    exact ⟨q5, rfl, HC5.out, HB5.out⟩
end Go.Proofs.Yteinfkcnengmeaa
