/-
  New of package avail, by contract. Conditions: the arena was made by the call itself; it has room.
-/
import Derived.Test.YtjadapjjilegnaaAv2
import Derived.Test.YtjadapjjilegnaaPow2
namespace Go.Proofs.Ytjadapjjilegnaa
open Go.RowKit

theorem anew_nil (k : Nat) (hk : k ≤ 20) (W : World) :
    Calls Try.prog 63 #[.pointer none, .agg #[.int .u8 k]] W fun e w' => ∃ E, e = .returned (.tuple #[.pointer none, E]) ∧ Refused W w' E 2 := by
  go_enter Try.func63, Try.ntmps63
  go_wp2_with (first
    | (go_at_call 87; refine (slots_any k hk _).mono ?_; rintro e w3 ⟨rfl, hw⟩; have HB := Lib.hid (bthen ((Below.refl _ W).alloc (Nat.le_refl _) (.cells #[.int .u8 k] 106)) (slots_below hw)); clear hw)
    | (go_at_call 115; refine (wrap_iface _ _ _ _).mono ?_; rintro e w' ⟨rfl, hw⟩; have HR := Lib.hid ((refused_of hw).after HB.out); clear hw))
  go_ret2
  exact ⟨_, rfl, HR.out⟩

theorem av_start {R : Rest} {W0 W : World} {b f k : Nat} {xs : List Int} {st : Int} (h : Mv R W0 W b xs st) (hk : k ≤ 20) (hf : (f : Int) ≤ 2097152) : Av R W0 (W.alloc (.cells #[.int .i64 f, .int .u8 k] 212)) b W.heap.size f k xs st := by
  have hb : Below W.heap.size W (W.alloc (.cells #[.int .i64 f, .int .u8 k] 212)) := (Below.refl _ W).alloc (Nat.le_refl _) _
  obtain ⟨v, h1, h2, h3, h4, h5⟩ := h.keep hb
  exact ⟨v, h1, ⟨obj_new _ _, hk, hf⟩, h2, h3, h4, h5⟩
set_option maxRecDepth 100000 in
set_option maxHeartbeats 2000000 in
theorem anew_ok {R : Rest} {W0 W : World} {b : Nat} {xs : List Int} {st : Int} (h : Mv R W0 W b xs st) (k n : Nat) (hk : k ≤ 20) (hn : (n : Int) = two k) (hl : (xs.length : Int) + n ≤ 2097152) :
    Calls Try.prog 63 #[.pointer (some ⟨b, 0, none⟩), .agg #[.int .u8 k]] W fun e w' => ∃ q, e = .returned (.tuple #[.pointer (some ⟨q, 0, none⟩), .nilIface]) ∧ Av R W0 w' b q xs.length k (xs ++ List.replicate n (-1)) st ∧ Held W w' := by
  have hb1 : Below W.heap.size W (W.alloc (.cells #[.int .u8 k] 106)) := (Below.refl _ W).alloc (Nat.le_refl _) _
  have HM1 := Lib.hid (h.keep hb1)
  have HH1 := Lib.hid (Held.of_below hb1)
  have n0 : ∀ x1 : Later (W.alloc (.cells #[.int .u8 k] 106)), x1.to.cell? ⟨W.heap.size, 0, none⟩ = some (.int .u8 k) := fun x1 => keepc x1.below ((obj_cell (obj_new W _) 0).trans rfl)
  have HO1 := Lib.hid (obj_new W (.cells #[.int .u8 k] 106))
  have HS1 : Hid (∀ x1 : Later (W.alloc (.cells #[.int .u8 k] 106)), Calls Try.prog 29 #[.pointer (some ⟨b, 0, none⟩)] x1.to fun e w'' => e = .returned (.int .i64 xs.length) ∧ ∃ y1 : Later (W.alloc (.cells #[.int .u8 k] 106)), w'' = y1.to) :=
    fun x1 => (len_mv ((h.keep hb1).keep x1.below)).mono fun e w h => ⟨h.1, x1, h.2.symm⟩
  have HN := Lib.hid hn
  have hnb : (n : Int) ≤ 1048576 := by have := two_le hk; omega
  clear h hb1 hn
  go_enter Try.func63, Try.ntmps63
  go_wp2_with fail
  generalize W.alloc (.cells #[.int .u8 k] 106) = w1 at *
  generalize W.heap.size = ob at *
  refine wp_region_later_tail 4 (by kernel_rfl) (by kernel_rfl) ?_
  simp only [List.take_succ_cons, List.take_zero, List.drop_succ_cons, List.drop_zero]
  repeat (go_big_quiet_step ((go_at_call 29; exact HS1.out _)))
  refine wpQuiet_nil ?_
  intro w2 hw'
  obtain ⟨⟨w2', hb2⟩, hw2⟩ := hw'
  obtain rfl : w2 = w2' := hw2
  have HA2 := Lib.hid (av_start (f := xs.length) (HM1.out.keep hb2) hk (by omega))
  have HO2 := Lib.hid ((hb2.block _ (lt_of_block HO1.out)).trans HO1.out)
  have HH2 := Lib.hid (HH1.out.then (Held.of_below (balloc hb2 (.cells #[.int .i64 xs.length, .int .u8 k] 212))))
  clear n0 hb2
  have d1 : decide ((2097152 : Int) < (xs.length : Int) + (n : Int)) = false := decide_eq_false (by omega)
  go_wp2_with (first
    | (go_at_call 131; refine (end_some _ _ _ k HA2.out.bf n HN.out).mono ?_; rintro e w3 ⟨rfl, hb⟩; have H3 := Lib.hid (HA2.out.keep hb); have o3 := (obj_cell ((balloc (Below.refl _ w2) (.cells #[.int .i64 xs.length, .int .u8 k] 212)).block _ (lt_of_block HO2.out) |>.trans HO2.out) 0); have o4 := keepc hb (o3.trans rfl); have HH3 := Lib.hid (HH2.out.then (Held.of_below hb)); clear hb o3)
    | (go_at_call 87; refine (slots_any k hk _).mono ?_; rintro e w4 ⟨rfl, hw⟩; have H4 := Lib.hid (H3.out.keep (slots_below hw)); have HH4 := Lib.hid (HH3.out.then (Held.of_below (slots_below hw))); clear hw))
  have hn1 : (n : Int) ≤ two k := by have := HN.out; omega
  have hn2 : two k ≤ (n : Int) := by have := HN.out; omega
  generalize w2.heap.size = q at *
  clear o4
  have HS : Hid (Av R W0 w4 b q xs.length k (xs ++ List.replicate 0 (-1)) st ∧ Held W w4) := Lib.hid ⟨by simpa using H4.out, HH4.out⟩
  go_loopw [29] (fun i wl => ∃ j : Nat, j ≤ n ∧ i = .int .i64 j ∧ Hid (Av R W0 wl b q xs.length k (xs ++ List.replicate j (-1)) st ∧ Held W wl)) (fun i _ => n - (intOf i).toNat)
  case atStart => exact ⟨0, Nat.zero_le _, rfl, HS⟩
  case round =>
    obtain ⟨j, hj, rfl, HJ⟩ := hrel
    by_cases hlt : j < n
    · have hjt : (j : Int) < two k := by omega
      go_wp2_with (go_at_call 78; refine (alloc_v HJ.out.1 (-1) (by simp; omega)).mono ?_; rintro e w5 ⟨rfl, hh, hd⟩; rw [List.append_assoc, ← List.replicate_succ'] at hh; have H5 := Lib.hid (show _ ∧ Held W w5 from ⟨hh, HJ.out.2.then hd⟩); clear hh hd)
      exact ⟨⟨j + 1, by omega, by go_num, H5⟩, by simp [intOf]; omega⟩
    · obtain rfl : j = n := by omega
      have hjt : ¬ (j : Int) < two k := by omega
      go_wp2
      go_ret2
      exact ⟨q, rfl, HJ.out⟩

end Go.Proofs.Ytjadapjjilegnaa
