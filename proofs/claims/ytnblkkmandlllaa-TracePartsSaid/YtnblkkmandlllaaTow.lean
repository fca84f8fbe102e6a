/-
  TraceOnce, walked. Conditions: as the statement has them.
-/
import Derived.Test.YtnblkkmandlllaaTo
namespace Go.Proofs.Ytnblkkmandlllaa
open Go.RowKit Go.Shelf Go.Maps
set_option linter.unusedVariables false
set_option linter.unusedSimpArgs false

theorem NtsAt.prefix_ {w : World} {p : Option Addr} {n c : Nat} {l : List Nt} (h : NtsAt w (.slice p n c) l) {k : Nat} (hk : k ≤ l.length) : NtsAt w (.slice p k c) (l.take k) := by
  obtain ⟨p', c', hv, h1, h2, hw, h3⟩ := h
  simp only [Value.slice.injEq] at hv
  obtain ⟨rfl, -, rfl⟩ := hv
  have hl : (l.take k).length = k := by rw [List.length_take]; omega
  refine ⟨p, c, by rw [hl], by omega, h2, fun x hx => hw x (List.mem_of_mem_take hx), ?_⟩
  rcases h3 with h3 | ⟨b, off, rfl, hlt, hc⟩
  · exact .inl (by omega)
  · refine .inr ⟨b, off, rfl, hlt, fun j x hj => hc j x ?_⟩
    have hjk : j < k := by have := (List.getElem?_eq_some_iff.1 hj).1; omega
    rwa [List.getElem?_take_of_lt hjk] at hj
theorem hnd_at (ring : Int) : hndB (-1) ring 2 = atB ring [2] := by
  funext x
  rw [atB2]
  simp [hndB]
/-- What the statement has within a round. -/
def inB (h0 : Bool) (ws : List Int) (a : Nt) (p : List Nt) : Bool := h0 && !(hasI ws a.who && p.any fun b => b.seq == a.seq && hasI ws b.who)
theorem inB_nil (h0 : Bool) (ws : List Int) (a : Nt) : inB h0 ws a [] = h0 := by simp [inB]
theorem inB_snoc (h0 : Bool) (ws : List Int) (a b : Nt) (p : List Nt) : inB h0 ws a (p ++ [b]) = (inB h0 ws a p && !(a.seq == b.seq && hasI ws a.who && hasI ws b.who)) := by
  unfold inB
  rw [List.any_append]
  have e : (b.seq == a.seq) = (a.seq == b.seq) := by rw [Bool.eq_iff_iff]; simp; exact ⟨fun h => h.symm, fun h => h.symm⟩
  simp only [List.any_cons, List.any_nil, Bool.or_false, e]
  cases h0 <;> cases hasI ws a.who <;> cases (p.any fun b => b.seq == a.seq && hasI ws b.who) <;> cases (a.seq == b.seq) <;> cases hasI ws b.who <;> rfl

set_option maxRecDepth 100000 in
set_option maxHeartbeats 4000000 in
theorem once_walk {W : World} {v vw : Value} {l : List Nt} {ring : Int} {ws : List Int} (hl : NtsAt W v l) (hd : IntsR W vw ws) :
    Calls Try.prog 6 #[v, .int .i64 ring, vw] W fun e w' => e = .returned (.bool true) ∧ Below W.heap.size W w' := by
  have HL := Lib.hid hl
  have HD := Lib.hid hd
  obtain ⟨p, c, rfl, hc, hm⟩ := hl.form
  obtain ⟨pd, cd, rfl, hcd, hmd⟩ := hd.form
  clear hl hd
  by_cases h120 : l.length ≤ 120
  · have HS : Hid (decide (l.length ≤ 120) = true) := Lib.hid (by simpa using h120)
    by_cases h20 : ws.length ≤ 20
    · have HH := Lib.hid (rhandled (who := -1) (ring := ring) (deed := 2) HL.out (by omega))
      go_enter Try.func6, Try.ntmps6
      go_wp2_with (first
        | (go_at_call 10; refine (tsmall HL.out).mono ?_; rintro e w1 ⟨rfl, rfl⟩; rw [HS.out])
        | (go_at_call 20; refine HH.out.mono ?_; rintro e w1 ⟨v1, rfl, ho, hb⟩; have HO := Lib.hid ho; have HB := Lib.hid hb; obtain ⟨p1, cq, rfl, -⟩ := row_form ho.own; clear ho hb))
      rw [hnd_at] at HO
      rw [hnd_at]
      have HLL : Hid ((l.filter (atB ring [2])).length ≤ 1000) := Lib.hid (Nat.le_trans (List.length_filter_le _ _) (by omega))
      obtain ⟨h, hh⟩ : ∃ h, l.filter (atB ring [2]) = h := ⟨_, rfl⟩
      have HHE := Lib.hid hh
      rw [hh] at HO HLL
      rw [hh]
      clear HH hh
      have hhl := HLL.out
      go_loopw [8, 27] (fun ov iv wl => ∃ k : Nat, k ≤ h.length ∧ iv = .int .i64 k ∧ ov = .bool (ndB ws (h.take k)) ∧ Hid (Below w1.heap.size w1 wl)) (fun _ iv _ => h.length - (intOf iv).toNat)
      case atStart => exact ⟨0, Nat.zero_le _, rfl, by rw [List.take_zero, ndB_nil], Lib.hid (Below.refl _ _)⟩
      case round =>
        obtain ⟨k, hk, rfl, rfl, HJ⟩ := hrel
        by_cases hlt : k < h.length
        · obtain ⟨b, off, x, rfl, hx, hb, hwf, ⟨c0, c1, c2, c3, c4, c5, c6, c7⟩⟩ := (HO.out.read.keep HJ.out).at_ hlt
          have hkc : k ≤ cq := by
            obtain ⟨p', c', hv, h1, -⟩ := HO.out.read
            simp only [Value.slice.injEq] at hv
            omega
          have HX := Lib.hid hx
          have HW := Lib.hid hwf
          have HA : Hid (∀ cs : Array Value, Below w1.heap.size w1 (wr.alloc (.cells cs 33))) := Lib.hid fun cs => HJ.out.alloc HJ.out.size _
          have HPre := Lib.hid fun w (hw : NtsAt w (.slice (some ⟨b, off, none⟩) h.length cq) h) => hw.prefix_ (k := k) (by omega)
          have HTL : Hid ((h.take k).length = k) := Lib.hid (by rw [List.length_take]; omega)
          clear hx hb hwf
          go_wp2_with fail
          clear c0 c1 c2 c3 c4 c5 c6 c7
          have d0 : (wr.alloc (.cells #[.int .i64 x.who, .int .i64 x.ring, .int .i64 x.deed, .int .i64 x.lo, .int .i64 x.seq, .int .i64 x.key, .int .i64 x.val, .int .i64 x.code] 33)).cell? ⟨wr.heap.size, 0, none⟩ = some (.int .i64 x.who) := by simp
          have d4 : (wr.alloc (.cells #[.int .i64 x.who, .int .i64 x.ring, .int .i64 x.deed, .int .i64 x.lo, .int .i64 x.seq, .int .i64 x.key, .int .i64 x.val, .int .i64 x.code] 33)).cell? ⟨wr.heap.size, 4, none⟩ = some (.int .i64 x.seq) := by simp
          have HA1 := Lib.hid (HA.out #[.int .i64 x.who, .int .i64 x.ring, .int .i64 x.deed, .int .i64 x.lo, .int .i64 x.seq, .int .i64 x.key, .int .i64 x.val, .int .i64 x.code])
          generalize wr.alloc (.cells #[.int .i64 x.who, .int .i64 x.ring, .int .i64 x.deed, .int .i64 x.lo, .int .i64 x.seq, .int .i64 x.key, .int .i64 x.val, .int .i64 x.code] 33) = wa at *
          obtain ⟨ab, hab⟩ : ∃ ab, wr.heap.size = ab := ⟨_, rfl⟩
          rw [hab] at d0 d4
          rw [hab]
          clear hab
          have HD0 := Lib.hid d0
          have HD4 := Lib.hid d4
          obtain ⟨n0, hn0⟩ : ∃ n0, ndB ws (h.take k) = n0 := ⟨_, rfl⟩
          have HN0 := Lib.hid hn0
          rw [hn0]
          clear d0 d4 HA hn0
          go_loopw [8, 36] (fun ov iv wl => ∃ j : Nat, j ≤ k ∧ iv = .int .i64 j ∧ ov = .bool (inB n0 ws x (h.take j)) ∧ Hid (Below wa.heap.size wa wl)) (fun _ iv _ => k - (intOf iv).toNat)
          case atStart => exact ⟨0, Nat.zero_le _, rfl, by rw [List.take_zero, inB_nil], Lib.hid (Below.refl _ _)⟩
          case round =>
            obtain ⟨j, hj, rfl, rfl, HI⟩ := hrel
            by_cases hjk : j < k
            · have HK1 : Hid (Below w1.heap.size w1 wr) := Lib.hid (HA1.out.trans (HI.out.mono HA1.out.size))
              obtain ⟨b', off', y, hbo, hy, hb, hwf, ⟨c0, c1, c2, c3, c4, c5, c6, c7⟩⟩ := (HO.out.read.keep HK1.out).at_ (k := j) (by omega)
              simp only [Option.some.injEq, Addr.mk.injEq, and_true] at hbo
              obtain ⟨rfl, rfl⟩ := hbo
              have d0 := keepc HI.out HD0.out
              have d4 := keepc HI.out HD4.out
              have hablt := World.block_lt_of_cell? wr _ d4
              simp only at hablt
              have habne : ab ≠ wr.heap.size := by omega
              have HAL : Hid (∀ cs : Array Value, Below wa.heap.size wa (wr.alloc (.cells cs 33))) := Lib.hid fun cs => HI.out.alloc HI.out.size _
              have HIN := Lib.hid fun (cs : Array Value) (n : Int) => tin (n := n) (HD.out.keep (bthen HB.out (HA1.out.trans ((HAL.out cs).mono HA1.out.size)))) (by omega)
              have HSN : Hid (inB n0 ws x (h.take (j + 1)) = (inB n0 ws x (h.take j) && !(x.seq == y.seq && hasI ws x.who && hasI ws y.who))) := Lib.hid (by rw [take_snocN hy, inB_snoc])
              clear hy hb hwf
              generalize inB n0 ws x (h.take j) = ib at *
              rcases Bool.eq_false_or_eq_true (x.seq == y.seq) with h1 | h1
              · rcases Bool.eq_false_or_eq_true (hasI ws x.who) with h2 | h2
                · rcases Bool.eq_false_or_eq_true (hasI ws y.who) with h3 | h3
                  · have HNX : Hid (inB n0 ws x (h.take (j + 1)) = false) := Lib.hid (by rw [HSN.out, h1, h2, h3]; simp)
                    go_wp2_with (go_at_call 25; refine (HIN.out _ _).mono ?_; rintro e w5 ⟨rfl, rfl⟩)
                    exact ⟨⟨j + 1, by omega, by go_num, by rw [HNX.out], Lib.hid (HAL.out _)⟩, by simp [intOf]; omega⟩
                  · have HNX : Hid (inB n0 ws x (h.take (j + 1)) = ib) := Lib.hid (by rw [HSN.out, h1, h2, h3]; simp)
                    go_wp2_with (go_at_call 25; refine (HIN.out _ _).mono ?_; rintro e w5 ⟨rfl, rfl⟩)
                    exact ⟨⟨j + 1, by omega, by go_num, by rw [HNX.out], Lib.hid (HAL.out _)⟩, by simp [intOf]; omega⟩
                · have HNX : Hid (inB n0 ws x (h.take (j + 1)) = ib) := Lib.hid (by rw [HSN.out, h1, h2]; simp)
                  go_wp2_with (go_at_call 25; refine (HIN.out _ _).mono ?_; rintro e w5 ⟨rfl, rfl⟩)
                  exact ⟨⟨j + 1, by omega, by go_num, by rw [HNX.out], Lib.hid (HAL.out _)⟩, by simp [intOf]; omega⟩
              · have HNX : Hid (inB n0 ws x (h.take (j + 1)) = ib) := Lib.hid (by rw [HSN.out, h1]; simp)
                go_wp2
                exact ⟨⟨j + 1, by omega, by go_num, by rw [HNX.out], Lib.hid (HAL.out _)⟩, by simp [intOf]; omega⟩
            · obtain rfl : j = k := by omega
              have HNX : Hid (ndB ws (h.take (j + 1)) = inB n0 ws x (h.take j)) := Lib.hid (by rw [take_snocN HX.out, ndB_snoc, HN0.out]; rfl)
              go_wp2
              exact ⟨⟨j + 1, by omega, by go_num, by rw [HNX.out], Lib.hid (HA1.out.trans (HI.out.mono HA1.out.size))⟩, by simp [intOf]; omega⟩
        · obtain rfl : k = h.length := by omega
          rw [List.take_length]
          have HO2 := Lib.hid fun w (hw : Below W.heap.size W w) => tonce (ring := ring) (HL.out.keep hw) (by omega) (HD.out.keep hw) (by omega)
          rw [HHE.out] at HO2
          have HBW : Hid (Below W.heap.size W wr) := Lib.hid (bthen HB.out HJ.out)
          go_wp2_with (first
            | (go_at_call 11; refine (awake22 _).mono ?_; rintro e w2 ⟨rfl, hb⟩; have HB2 := Lib.hid (bthen HBW.out hb); clear hb)
            | (go_at_call 26; refine (HO2.out _ HB2.out).mono ?_; rintro e w3 ⟨rfl, hb⟩; have HB3 := Lib.hid (bthen HB2.out hb); clear hb))
          go_ret
          exact ⟨by simp, HB3.out⟩
    · go_enter Try.func6, Try.ntmps6
      go_wp2_with (first
        | (go_at_call 10; refine (tsmall HL.out).mono ?_; rintro e w1 ⟨rfl, rfl⟩; rw [HS.out])
        | (go_at_call 11; refine (awake22 _).mono ?_; rintro e w2 ⟨rfl, hb⟩; have HB := Lib.hid hb; clear hb))
      go_ret
      exact ⟨rfl, HB.out⟩
  · have HS : Hid (decide (l.length ≤ 120) = false) := Lib.hid (by simpa using h120)
    go_enter Try.func6, Try.ntmps6
    go_wp2_with (first
      | (go_at_call 10; refine (tsmall HL.out).mono ?_; rintro e w1 ⟨rfl, rfl⟩; rw [HS.out])
      | (go_at_call 11; refine (awake22 _).mono ?_; rintro e w2 ⟨rfl, hb⟩; have HB := Lib.hid hb; clear hb))
    go_ret
    exact ⟨rfl, HB.out⟩
end Go.Proofs.Ytnblkkmandlllaa
