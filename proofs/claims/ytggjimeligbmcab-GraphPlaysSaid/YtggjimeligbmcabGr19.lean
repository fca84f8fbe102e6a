/-
  GraphDepths and GraphNil, walked. Conditions: as the statements have them.
-/
import Derived.Test.YtggjimeligbmcabGr18
namespace Go.Proofs.Ytggjimeligbmcab
open Go.RowKit
set_option linter.unusedVariables false

theorem IntsN.at_ {w : World} {p : Option Addr} {c j : Nat} {l : List Nat} (h : IntsN w (.slice p l.length c) l) (hj : j < l.length) : ∃ b off, p = some ⟨b, off, none⟩ ∧ w.cell? ⟨b, off + j, none⟩ = some (.int .i64 ((l.getD j 0 : Nat) : Int)) := by
  obtain ⟨p, c, he, hc⟩ := h
  simp only [Value.slice.injEq] at he
  obtain ⟨rfl, -, rfl⟩ := he
  obtain ⟨b, off, rfl, h2⟩ := hc.resolve_left (by omega)
  exact ⟨b, off, rfl, h2 j hj⟩
theorem aftI_nat {G : List Nd} (hG : GOk G) (k : Nat) : aftI G (k : Int) = aft G k := by
  unfold aftI
  rw [hasI_nat]
  cases h : hasB G k
  · rw [hG.off k h]; rfl
  · rfl
theorem depI_nat {G : List Nd} (hG : GOk G) (k : Nat) : depI G (k : Int) = dpt G k := by
  unfold depI
  rw [hasI_nat]
  cases h : hasB G k
  · rw [(dpt_ok hG).off hG h]; rfl
  · rfl
section
variable {W : World} {v : Value} {n : Nat} {z : Nat → OpD}
set_option maxRecDepth 100000 in
theorem gdepths_walk (hO : OpsG W v n z) : Calls Try.prog 7 #[v] W fun e w' => e = .returned (.bool true) ∧ Below W.heap.size W w' := by
  have HO := Lib.hid hO
  obtain ⟨p, cap, rfl, -, -⟩ := hO
  cases hs : smB n z with
  | false =>
    have HS := Lib.hid hs
    clear hs
    go_enter Try.func7, Try.ntmps7
    go_wp2_with (first
      | (go_at_call 9; refine (gsmallB HO.out).mono ?_; rintro e w1 ⟨rfl, hb⟩; rw [HS.out]; have HB := Lib.hid hb; clear hb)
      | (go_at_call 10; refine (awake13 _).mono ?_; rintro e w2 ⟨rfl, hb⟩; have HB2 := Lib.hid hb; clear hb))
    go_ret
    exact ⟨rfl, bthen HB.out HB2.out⟩
  | true =>
    have HS := Lib.hid hs
    clear hs
    go_enter Try.func7, Try.ntmps7
    have HOK := Lib.hid (runG_ok z n)
    have hlen := HOK.out.len
    generalize hG : runG z n = G at *
    go_wp2_with (first
      | (go_at_call 9; refine (gsmallB HO.out).mono ?_; rintro e w1 ⟨rfl, hb⟩; rw [HS.out]; have HB := Lib.hid hb; clear hb)
      | (go_at_call 33; refine (gbegun (HO.out.keep HB.out) HS.out).mono ?_; rintro e w2 ⟨g, rfl, hm⟩; rw [hG] at hm; have HM := Lib.hid hm; have HB2 : Hid (Below W.heap.size W w2) := Lib.hid (bthen HB.out hm.2); clear hm)
      | (go_at_call 19; refine (gm_len HM.out).mono ?_; rintro e w3 ⟨rfl, rfl⟩))
    clear hG
    go_loopw [16] (fun iv wl => ∃ k : Nat, k ≤ G.length ∧ iv = .int .i64 k ∧ Hid (Gm w1 wl g G ∧ Below W.heap.size W wl)) (fun iv _ => G.length - (intOf iv).toNat)
    case atStart => exact ⟨0, Nat.zero_le _, rfl, Lib.hid ⟨HM.out, HB2.out⟩⟩
    case round =>
      clear HM HB2
      obtain ⟨k, hk, rfl, HJ⟩ := hrel
      by_cases hlt : k < G.length
      · have HAL := Lib.hid (aft_len HOK.out k)
        have HAF := Lib.hid (aftI_nat HOK.out k)
        have HDK := Lib.hid (depI_nat HOK.out k)
        have HDE : Hid (dpt G k = dmx (dpt G) (aft G k) 0) := Lib.hid (dpt_ok HOK.out k)
        go_wp2_with (go_at_call 26; refine (gm_after HJ.out.1 HOK.out _).mono ?_; rintro e w4 ⟨v4, rfl, hf⟩; rw [HAF.out] at hf; have HF := Lib.hid hf; obtain ⟨ap, ac, rfl, -⟩ := row_form hf.1; have HJ4 : Hid (Gm w1 w4 g G ∧ Below W.heap.size W w4) := Lib.hid ⟨HJ.out.1.keep hf.2, bthen HJ.out.2 hf.2⟩; clear hf)
        have hal : (aft G k).length ≤ 64 := HAL.out
        go_loopw [5, 23] (fun mv jv wl => ∃ j : Nat, j ≤ (aft G k).length ∧ jv = .int .i64 j ∧ mv = .int .i64 (dmx (dpt G) ((aft G k).take j) 0 : Nat) ∧ Hid (Gm w1 wl g G ∧ Below W.heap.size W wl ∧ IntsN wl (.slice ap (aft G k).length ac) (aft G k))) (fun _ jv _ => (aft G k).length - (intOf jv).toNat)
        case atStart => exact ⟨0, Nat.zero_le _, rfl, rfl, Lib.hid ⟨HJ4.out.1, HJ4.out.2, HF.out.ints⟩⟩
        case round =>
          clear HJ4 HF
          obtain ⟨j, hj, rfl, rfl, HI⟩ := hrel
          by_cases hjl : j < (aft G k).length
          · have hix := HI.out.2.2.at_ hjl
            obtain ⟨b, off, rfl, cj⟩ := hix
            have HDM : Hid (dmx (dpt G) ((aft G k).take (j + 1)) 0 = max (dmx (dpt G) ((aft G k).take j) 0) (dpt G ((aft G k).getD j 0) + 1)) := Lib.hid (by rw [take_snoc hjl, dmx_snoc])
            have hd63 := (dpt_ok HOK.out).lt HOK.out ((aft G k).getD j 0)
            have hm64 : dmx (dpt G) ((aft G k).take j) 0 ≤ 64 := dmx_le (fun a ha => by have := (dpt_ok HOK.out).lt HOK.out a; omega) (Nat.zero_le _)
            have HDA := Lib.hid (depI_nat HOK.out ((aft G k).getD j 0))
            generalize (aft G k).getD j 0 = a at *
            generalize dmx (dpt G) ((aft G k).take j) 0 = m at *
            generalize dpt G a = da at *
            go_wp2_with (go_at_call 29; refine (gm_depth HI.out.1 HOK.out _).mono ?_; rintro e w5 ⟨rfl, hb⟩; rw [HDA.out]; have HI5 : Hid (Gm w1 w5 g G ∧ Below W.heap.size W w5 ∧ IntsN w5 (.slice (some ⟨b, off, none⟩) (aft G k).length ac) (aft G k)) := Lib.hid ⟨HI.out.1.keep hb, bthen HI.out.2.1 hb, HI.out.2.2.keep hb⟩; clear hb)
            all_goals exact ⟨⟨j + 1, by omega, by go_num, by rw [HDM.out]; go_num, HI5⟩, by simp [intOf]; omega⟩
          · obtain rfl : j = (aft G k).length := by omega
            have HDD : Hid (dpt G k = dmx (dpt G) ((aft G k).take (aft G k).length) 0) := Lib.hid (by rw [List.take_length]; exact HDE.out)
            generalize dmx (dpt G) ((aft G k).take (aft G k).length) 0 = m at *
            go_wp2_with (go_at_call 29; refine (gm_depth HI.out.1 HOK.out _).mono ?_; rintro e w5 ⟨rfl, hb⟩; rw [HDK.out, HDD.out]; have HI5 : Hid (Gm w1 w5 g G ∧ Below W.heap.size W w5) := Lib.hid ⟨HI.out.1.keep hb, bthen HI.out.2.1 hb⟩; clear hb)
            exact ⟨⟨k + 1, by omega, by go_num, HI5⟩, by simp [intOf]; omega⟩
      · obtain rfl : k = G.length := by omega
        go_wp2_with (go_at_call 10; refine (awake13 _).mono ?_; rintro e w2 ⟨rfl, hb⟩; have HB2 := Lib.hid hb; clear hb)
        go_ret
        exact ⟨rfl, bthen HJ.out.2 HB2.out⟩
end
end Go.Proofs.Ytggjimeligbmcab
