/-
  Remaining, Highest, Publish of package multi, by contract. Conditions: the cells are there; fewer than 2^61 steps.
-/
import Derived.Test.YteinfkcnengmeaaMc
namespace Go.Proofs.Yteinfkcnengmeaa
open Go.RowKit

section
variable {R : Rest} {W0 W w : World} {s : Sh} {ids xs : List Int} {sw st : Int}
theorem least_s (hm : Ms R W0 W s ids sw xs st) (most : Int) (hin : ∀ j, j < ids.length → 0 ≤ ids.getD j 0 ∧ ids.getD j 0 < (xs.length : Int)) (h0 : 0 ≤ st) (h1 : st < 2305843009213693952) :
    Calls Try.prog 45 #[.pointer (some ⟨s.p, 5, none⟩), .pointer (some ⟨s.b, 0, none⟩), .int .i64 most] W fun e w' => ∃ m, e = .returned (.tuple #[.int .i64 m, .nilIface]) ∧ IsMin (valsOf xs ids ++ [most]) m ∧ Ms R W0 w' s ids sw xs (st + ids.length) := by
  obtain ⟨cs, q1, q2⟩ := hm.blk
  obtain ⟨cc, k1, k2, k3, v, ha, hq, h3, h4, h5, h6⟩ := hm
  refine (gleast_q most q2 q1.gr (by decide) ha hin h0 h1).mono ?_
  rintro e w' ⟨m, he, hm', hld⟩
  exact ⟨m, he, hm', cc, k1, k2, k3, Av.step ha hq h3 h4 h5 h6 ⟨v, hld.1, hld.2.mono fun _ _ e => .inl e, .inl rfl⟩⟩
theorem high_s (hm : Ms R W0 W s ids sw xs st) (lo hi : Int) (hl0 : 0 ≤ lo) (hl1 : lo ≤ 4611686018427387904) (hh0 : -9223372036854775808 ≤ hi) (hh : hi ≤ 4611686018427387904) (hl : s.f + two s.k ≤ (xs.length : Int)) (h0 : 0 ≤ st) (h1 : st < 2305843009213693952) :
    Calls Try.prog 39 #[.pointer (some ⟨s.q, 0, none⟩), .pointer (some ⟨s.b, 0, none⟩), .int .i64 lo, .int .i64 hi] W fun e w' => ∃ (j : Nat) (st' : Int), RunTo (shownB xs s.f s.k) lo hi j ∧ e = .returned (.tuple #[.int .i64 (lo + j - 1), .nilIface]) ∧ Ms R W0 w' s ids sw xs st' ∧ st ≤ st' ∧ st' ≤ st + 1048577 := by
  obtain ⟨cs, k1, k2, k3, k4⟩ := hm
  refine (hi_ok k4 lo hi hl0 hl1 hh0 hh hl h0 h1).mono ?_
  rintro e w' ⟨j, st', hr, he, ha, a1, a2⟩
  exact ⟨j, st', hr, he, ⟨cs, k1, k2, k3, ha⟩, a1, a2⟩
theorem show_s (hm : Ms R W0 W s ids sw xs st) (lo hi : Int) (hl0 : 0 ≤ lo) (hlh : lo ≤ hi) (hh : hi ≤ 4611686018427387904) (hd : hi - lo < two s.k) (m : Nat) (hmm : hi - lo + 1 = m) (hl : s.f + two s.k ≤ (xs.length : Int)) (h0 : 0 ≤ st) (h1 : st < 2305843009213693952) :
    Calls Try.prog 35 #[.pointer (some ⟨s.q, 0, none⟩), .pointer (some ⟨s.b, 0, none⟩), .int .i64 lo, .int .i64 hi] W fun e w' => e = .returned .nilIface ∧ Ms R W0 w' s ids sw (showN xs s.f s.k lo m) (st + m) := by
  obtain ⟨cs, k1, k2, k3, k4⟩ := hm
  exact (show_ok k4 lo hi hl0 hlh hh hd m hmm hl h0 h1).mono fun _ _ ⟨he, ha⟩ => ⟨he, cs, k1, k2, k3, ha⟩
end

theorem min_least {c M m : Int} {gv : List Int} (h : IsMin (gv ++ [M]) m) (hc : c ≤ M) : min m c = leastP c gv := by
  refine IsMin.unique (l := gv ++ [c]) ⟨?_, fun x hx => ?_⟩ leastP_min
  · rcases Int.le_total m c with k | k
    · rw [Int.min_eq_left k]
      rcases List.mem_append.1 h.1 with e | e
      · exact List.mem_append_left _ e
      · simp at e
        have : m = c := by omega
        rw [this]; simp
    · rw [Int.min_eq_right k]; simp
  · rcases List.mem_append.1 hx with hx | hx
    · have := h.2 x (List.mem_append_left _ hx)
      omega
    · simp at hx; omega
/-- How many may be claimed yet. -/
def remP (N c : Int) (gv : List Int) : Int := max 0 (N - (c - leastP c gv))

set_option maxHeartbeats 2000000 in
theorem mremaining {R : Rest} {W0 W : World} {s : Sh} {ids xs : List Int} {sw st c : Int} (hm : Ms R W0 W s ids sw xs st) (hin : ∀ j, j < ids.length → 0 ≤ ids.getD j 0 ∧ ids.getD j 0 < (xs.length : Int)) (hx : xs[s.cur]? = some c) (hc1 : -1 ≤ c) (hc2 : c ≤ 4611686018427387904) (h0 : 0 ≤ st) (h1 : st < 1152921504606846976) :
    Calls Try.prog 61 #[.pointer (some ⟨s.p, 0, none⟩)] W fun e w' => e = .returned (.tuple #[.int .i64 (remP (two s.k) c (valsOf xs ids)), .nilIface]) ∧ Ms R W0 w' s ids sw xs (st + ids.length + 1) := by
  have HM := Lib.hid hm
  have HX := Lib.hid hx
  have HIN := Lib.hid hin
  have hk := hm.k20
  have hl : (ids.length : Int) ≤ 32 := by
    obtain ⟨cs, q1, _⟩ := hm.blk
    have := q1.gr.len
    omega
  have k0 := hm.c.c0
  have t1 := two_le hk
  have t2 := two_pos s.k
  clear hm hx hin
  go_enter Try.func61, Try.ntmps61
  go_wp2_with fail
  go_region_held3 (fun w' => w'.cell? ⟨s.p, 0, none⟩ = some (.pointer (some ⟨s.b, 0, none⟩))) (first
      | assumption
      | go_simp) (first
      | (go_at_call 45; refine (least_s (HM.out.keep (Below.drew (Below.refl _ _))) 9223372036854775807 HIN.out h0 (by omega)).mono ?_; rintro e w2 ⟨m, rfl, hmin, hm2⟩; have H2 := Lib.hid hm2; have HMIN := Lib.hid hmin; have j0 := hm2.c.c0; clear hm2 hmin))
  have HL := Lib.hid (min_least (c := c) HMIN.out (by omega))
  clear k0 HMIN
  have j2 := H2.out.c.c2
  have hst : st + (ids.length : Int) < 2305843009213693952 := by omega
  have hst0 : 0 ≤ st + (ids.length : Int) := by omega
  generalize hil : (ids.length : Int) = il at *
  have HIL := Lib.hid hil
  clear hil
  go_wp2_with fail
  go_region_held3 (fun w' => w'.cell? ⟨s.p, 0, none⟩ = some (.pointer (some ⟨s.b, 0, none⟩)) ∧ w'.cell? ⟨s.p, 2, none⟩ = some (.int .i64 s.cur)) (first
      | exact ⟨by assumption, by assumption⟩
      | exact ⟨by go_simp, by go_simp⟩) (first
      | (go_at_call 29; refine (load_s (H2.out.keep (Below.drew (Below.refl _ _))) s.cur c HX.out hst0 (by omega)).mono ?_; rintro e w3 ⟨rfl, hm3⟩; have H3 := Lib.hid hm3; have i0 := hm3.c.c0; have i2 := hm3.c.c2; clear hm3))
  clear j0 j2 i0 i2
  have i1 := H3.out.c.c1
  go_wp2_with (go_at_call 18; refine (slots_any s.k hk _).mono ?_; rintro e w4 ⟨rfl, hw⟩; have H4 := Lib.hid (H3.out.keep (slots_below hw)); clear hw)
  all_goals
    go_ret2
    rw [HIL.out]
    have hh := HL.out
    have hv : two s.k - (c - max (min m c) (c - two s.k)) = remP (two s.k) c (valsOf xs ids) := by unfold remP; omega
    exact ⟨by rw [← hv]; rfl, H4.out⟩

set_option maxHeartbeats 1000000 in
theorem mhigh_bad {R : Rest} {W0 W : World} {s : Sh} {ids xs : List Int} {sw st : Int} (_hm : Ms R W0 W s ids sw xs st) (lo : Int) (hl : lo < 0) :
    Calls Try.prog 63 #[.pointer (some ⟨s.p, 0, none⟩), .int .i64 lo] W fun e w' => ∃ E, e = .returned (.tuple #[.int .i64 0, E]) ∧ Refused W w' E 5 := by
  go_enter Try.func63, Try.ntmps63
  go_wp2_with (go_at_call 77; refine (wrap_q _ _ _).mono ?_; rintro e w1 ⟨q, rfl, hr⟩; have HR := Lib.hid hr; clear hr)
  go_ret2
  exact ⟨_, rfl, HR.out⟩

set_option maxHeartbeats 2000000 in
theorem mhigh_ok {R : Rest} {W0 W : World} {s : Sh} {ids xs : List Int} {sw st c : Int} (hm : Ms R W0 W s ids sw xs st) (hx : xs[s.cur]? = some c) (lo : Int) (hl0 : 0 ≤ lo) (hl1 : lo ≤ 4611686018427387904) (hc1 : -1 ≤ c) (hc2 : c ≤ 4611686018427387904) (hl : s.f + two s.k ≤ (xs.length : Int)) (h0 : 0 ≤ st) (h1 : st < 1152921504606846976) :
    Calls Try.prog 63 #[.pointer (some ⟨s.p, 0, none⟩), .int .i64 lo] W fun e w' => ∃ (j : Nat) (st' : Int), RunTo (shownB xs s.f s.k) lo c j ∧ e = .returned (.tuple #[.int .i64 (lo + j - 1), .nilIface]) ∧ Ms R W0 w' s ids sw xs st' ∧ st ≤ st' ∧ st' ≤ st + 1048578 := by
  have HM := Lib.hid hm
  have HX := Lib.hid hx
  have HL := Lib.hid hl
  have k0 := hm.c.c0
  have k2 := hm.c.c2
  clear hm hx hl
  go_enter Try.func63, Try.ntmps63
  go_wp2_with fail
  go_region_held3 (fun w' => w'.cell? ⟨s.p, 0, none⟩ = some (.pointer (some ⟨s.b, 0, none⟩)) ∧ w'.cell? ⟨s.p, 2, none⟩ = some (.int .i64 s.cur)) (first
      | exact ⟨by assumption, by assumption⟩
      | exact ⟨by go_simp, by go_simp⟩) (first
      | (go_at_call 29; refine (load_s (HM.out.keep (Below.drew (Below.refl _ _))) s.cur c HX.out h0 (by omega)).mono ?_; rintro e w2 ⟨rfl, hm2⟩; have H2 := Lib.hid hm2; have j0 := hm2.c.c0; have j2 := hm2.c.c2; clear hm2))
  clear k0 k2 j2
  have j4 := H2.out.c.c4
  go_wp2_with fail
  go_region_held3 (fun w' => w'.cell? ⟨s.p, 0, none⟩ = some (.pointer (some ⟨s.b, 0, none⟩)) ∧ w'.cell? ⟨s.p, 4, none⟩ = some (.pointer (some ⟨s.q, 0, none⟩))) (first
      | exact ⟨by assumption, by assumption⟩
      | exact ⟨by go_simp, by go_simp⟩) (first
      | (go_at_call 39; refine (high_s (H2.out.keep (Below.drew (Below.refl _ _))) lo c hl0 hl1 (by omega) hc2 HL.out (by omega) (by omega)).mono ?_; rintro e w3 ⟨j, st', hr, rfl, hm3, a1, a2⟩; have H3 := Lib.hid hm3; have HR := Lib.hid hr; have i0 := hm3.c.c0; have i4 := hm3.c.c4; clear hm3 hr))
  clear j0 j4 i0 i4
  go_wp2
  go_ret2
  exact ⟨j, st', HR.out, rfl, H3.out, by omega, by omega⟩
end Go.Proofs.Yteinfkcnengmeaa
