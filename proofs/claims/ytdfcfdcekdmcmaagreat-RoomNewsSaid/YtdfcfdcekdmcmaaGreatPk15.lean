/-
  A sequencer of package multi in plain numbers: its arena's cells, who holds it back, a claim step by step, a claim at once. No condition but those that each theorem names.
  A claim of package multi done at once, in plain numbers: each of its steps, and how it ends. No condition but those that each theorem names.
  What a sequencer of package multi tells: Claimed, Remaining, Highest, and whether an index is claimed, by contract. Conditions: the cells are there; fewer than 2^61 steps.
  Remaining, Highest, Publish of package multi, by contract. Conditions: the cells are there; fewer than 2^61 steps.
  Whether an index is claimed, Publish, and what a sequencer that is none answers, of package multi, by contract. Conditions: the cells are there; fewer than 2^60 steps.
-/
import Derived.Test.YtdfcfdcekdmcmaaGreatPk14
set_option linter.unusedVariables false
set_option linter.unusedSimpArgs false
namespace Go.Proofs.YtdfcfdcekdmcmaaGreat
open Go.RowKit
def mk (c sn : Int) (sh gv : List Int) : List Int := c :: sn :: (sh ++ gv)
def idsN (n m : Nat) : List Int := (List.range m).map fun (j : Nat) => ((n + 2 + j : Nat) : Int)
theorem getD_some {xs : List Int} {i : Nat} (h : i < xs.length) : xs[i]? = some (xs.getD i 0) := by
  simp [List.getElem?_eq_getElem h]
end Go.Proofs.YtdfcfdcekdmcmaaGreat
namespace Go.Proofs.YtdfcfdcekdmcmaaGreat
open Go.RowKit
set_option linter.unusedVariables false
open Classical in
section
variable {N c sn n sw0 sw : Int} {sh gv xs : List Int} {t : Tr}
theorem getD_of {l : List Int} {i : Nat} {x : Int} (h : l[i]? = some x) : l.getD i 0 = x := by simp [List.getD, h]
end
end Go.Proofs.YtdfcfdcekdmcmaaGreat
namespace Go.Proofs.YtdfcfdcekdmcmaaGreat
open Go.RowKit
def ErrAt (W : World) (E : Value) (n : Int) : Prop := (n = 0 ∧ E = .nilIface) ∨ (n ≠ 0 ∧ (∃ q, E = .iface 200 (.pointer (some ⟨q, 0, none⟩))) ∧ ∃ d, Chain W E d n)
theorem ErrAt.none (W : World) : ErrAt W .nilIface 0 := .inl ⟨rfl, rfl⟩
theorem ErrAt.keep {W w : World} {E : Value} {n : Int} (h : ErrAt W E n) (hb : Below W.heap.size W w) : ErrAt w E n := by
  rcases h with h | ⟨h0, h1, d, h2⟩
  · exact .inl h
  · exact .inr ⟨h0, h1, d, h2.keep hb⟩
theorem is_at {W : World} {E : Value} {n : Int} (h : ErrAt W E n) (m : Int) :
    Calls Tryz.prog 44 #[E, .int .i64 m] W fun e w' => e = .returned (.bool (n == m)) ∧ W = w' := by
  rcases h with ⟨rfl, rfl⟩ | ⟨h0, _, d, h2⟩
  · refine (isN_nil m).mono ?_
    rintro e w' ⟨rfl, rfl⟩
    refine ⟨?_, rfl⟩
    congr 2
    rw [Bool.eq_iff_iff]
    simp only [beq_iff_eq]
    exact eq_comm
  · by_cases hm : m = 0
    · subst hm
      refine (isN_zero _ d n h2).mono ?_
      rintro e w' ⟨rfl, rfl⟩
      exact ⟨by simp [h0], rfl⟩
    · exact isN_chain m _ d n h2 hm
theorem wrap_deep {W : World} (op : ByteArray) (seq : Int) {E : Value} {d : Nat} {n : Int} (h : Chain W E d n) :
    Calls Tryz.prog 75 #[.string op, .int .i64 seq, E] W fun e w' => ∃ q, e = .returned (.iface 200 (.pointer (some ⟨q, 0, none⟩))) ∧ Chain w' (.iface 200 (.pointer (some ⟨q, 0, none⟩))) (d + 1) n ∧ Below W.heap.size W w' := by
  obtain ⟨u, v, rfl⟩ := h.iface
  refine (wrap_iface op seq u v).mono ?_
  rintro e w' ⟨rfl, rfl⟩
  have hb : Below W.heap.size W (W.alloc (.cells #[.string op, .int .i64 seq, .iface u v] 202)) := (Below.refl _ _).alloc (Nat.le_refl _) _
  exact ⟨_, rfl, .fault _ _ _ _ _ _ (heap_at _ _ _ rfl) (h.keep hb), hb⟩
theorem wrap_nil {W : World} (op : ByteArray) (seq : Int) :
    Calls Tryz.prog 75 #[.string op, .int .i64 seq, .nilIface] W fun e w' => e = .returned .nilIface ∧ W = w' := by
  go_enter Tryz.func75, Tryz.ntmps75
  go_wp2
  go_ret
  exact ⟨rfl, rfl⟩
end Go.Proofs.YtdfcfdcekdmcmaaGreat
namespace Go.Proofs.YtdfcfdcekdmcmaaGreat
open Go.RowKit
section
variable {R : Rest} {W0 W w : World} {s : Sh} {ids xs : List Int} {sw st : Int}
theorem high_s (hm : Ms R W0 W s ids sw xs st) (lo hi : Int) (hl0 : 0 ≤ lo) (hl1 : lo ≤ 4611686018427387904) (hh0 : -9223372036854775808 ≤ hi) (hh : hi ≤ 4611686018427387904) (hl : s.f + two s.k ≤ (xs.length : Int)) (h0 : 0 ≤ st) (h1 : st < 2305843009213693952) :
    Calls Tryz.prog 159 #[.pointer (some ⟨s.q, 0, none⟩), .pointer (some ⟨s.b, 0, none⟩), .int .i64 lo, .int .i64 hi] W fun e w' => ∃ (j : Nat) (st' : Int), RunTo (shownB xs s.f s.k) lo hi j ∧ e = .returned (.tuple #[.int .i64 (lo + j - 1), .nilIface]) ∧ Ms R W0 w' s ids sw xs st' ∧ st ≤ st' ∧ st' ≤ st + 1048577 := by
  obtain ⟨cs, k1, k2, k3, k4⟩ := hm
  refine (hi_ok k4 lo hi hl0 hl1 hh0 hh hl h0 h1).mono ?_
  rintro e w' ⟨j, st', hr, he, ha, a1, a2⟩
  exact ⟨j, st', hr, he, ⟨cs, k1, k2, k3, ha⟩, a1, a2⟩
theorem show_s (hm : Ms R W0 W s ids sw xs st) (lo hi : Int) (hl0 : 0 ≤ lo) (hlh : lo ≤ hi) (hh : hi ≤ 4611686018427387904) (hd : hi - lo < two s.k) (m : Nat) (hmm : hi - lo + 1 = m) (hl : s.f + two s.k ≤ (xs.length : Int)) (h0 : 0 ≤ st) (h1 : st < 2305843009213693952) :
    Calls Tryz.prog 157 #[.pointer (some ⟨s.q, 0, none⟩), .pointer (some ⟨s.b, 0, none⟩), .int .i64 lo, .int .i64 hi] W fun e w' => e = .returned .nilIface ∧ Ms R W0 w' s ids sw (showN xs s.f s.k lo m) (st + m) := by
  obtain ⟨cs, k1, k2, k3, k4⟩ := hm
  exact (show_ok k4 lo hi hl0 hlh hh hd m hmm hl h0 h1).mono fun _ _ ⟨he, ha⟩ => ⟨he, cs, k1, k2, k3, ha⟩
end
set_option maxHeartbeats 2000000 in
theorem mhigh_ok {R : Rest} {W0 W : World} {s : Sh} {ids xs : List Int} {sw st c : Int} (hm : Ms R W0 W s ids sw xs st) (hx : xs[s.cur]? = some c) (lo : Int) (hl0 : 0 ≤ lo) (hl1 : lo ≤ 4611686018427387904) (hc1 : -1 ≤ c) (hc2 : c ≤ 4611686018427387904) (hl : s.f + two s.k ≤ (xs.length : Int)) (h0 : 0 ≤ st) (h1 : st < 1152921504606846976) :
    Calls Tryz.prog 134 #[.pointer (some ⟨s.p, 0, none⟩), .int .i64 lo] W fun e w' => ∃ (j : Nat) (st' : Int), RunTo (shownB xs s.f s.k) lo c j ∧ e = .returned (.tuple #[.int .i64 (lo + j - 1), .nilIface]) ∧ Ms R W0 w' s ids sw xs st' ∧ st ≤ st' ∧ st' ≤ st + 1048578 := by
  have HM := Lib.hid hm
  have HX := Lib.hid hx
  have HL := Lib.hid hl
  have k0 := hm.c.c0
  have k2 := hm.c.c2
  clear hm hx hl
  go_enter Tryz.func134, Tryz.ntmps134
  go_wp2_with fail
  go_region_held3 (fun w' => w'.cell? ⟨s.p, 0, none⟩ = some (.pointer (some ⟨s.b, 0, none⟩)) ∧ w'.cell? ⟨s.p, 2, none⟩ = some (.int .i64 s.cur)) (first
      | exact ⟨by assumption, by assumption⟩
      | exact ⟨by go_simp, by go_simp⟩) (first
      | (go_at_call 35; refine (load_s (HM.out.keep (Below.drew (Below.refl _ _))) s.cur c HX.out h0 (by omega)).mono ?_; rintro e w2 ⟨rfl, hm2⟩; have H2 := Lib.hid hm2; have j0 := hm2.c.c0; have j2 := hm2.c.c2; clear hm2))
  clear k0 k2 j2
  have j4 := H2.out.c.c4
  go_wp2_with fail
  go_region_held3 (fun w' => w'.cell? ⟨s.p, 0, none⟩ = some (.pointer (some ⟨s.b, 0, none⟩)) ∧ w'.cell? ⟨s.p, 4, none⟩ = some (.pointer (some ⟨s.q, 0, none⟩))) (first
      | exact ⟨by assumption, by assumption⟩
      | exact ⟨by go_simp, by go_simp⟩) (first
      | (go_at_call 159; refine (high_s (H2.out.keep (Below.drew (Below.refl _ _))) lo c hl0 hl1 (by omega) hc2 HL.out (by omega) (by omega)).mono ?_; rintro e w3 ⟨j, st', hr, rfl, hm3, a1, a2⟩; have H3 := Lib.hid hm3; have HR := Lib.hid hr; have i0 := hm3.c.c0; have i4 := hm3.c.c4; clear hm3 hr))
  clear j0 j4 i0 i4
  go_wp2
  go_ret2
  exact ⟨j, st', HR.out, rfl, H3.out, by omega, by omega⟩
end Go.Proofs.YtdfcfdcekdmcmaaGreat
namespace Go.Proofs.YtdfcfdcekdmcmaaGreat
open Go.RowKit
theorem Ms.ar {R : Rest} {W0 W : World} {s : Sh} {ids xs : List Int} {sw st : Int} (h : Ms R W0 W s ids sw xs st) : ∃ v, Ar W s.b v xs st := by
  obtain ⟨cs, h1, h2, h3, v, ha, _⟩ := h
  exact ⟨v, ha⟩
theorem below_step {W w w' : World} {b : Nat} {v : Value} {ys : List Int} {st' : Int} (hb : Below W.heap.size W w) (h1 : W.heap.size ≤ b) (h2 : ∀ g, v.ownBlock = some g → W.heap.size ≤ g) (h : ArStep w w' b v ys st') : Below W.heap.size W w' := by
  obtain ⟨v', _, hf, _⟩ := h
  refine hb.trans (hf.below hb.size ?_)
  rintro k (rfl | hk)
  · exact h1
  · exact h2 k hk
set_option maxHeartbeats 2000000 in
set_option maxRecDepth 100000 in
theorem mknown {R : Rest} {W0 W : World} {s : Sh} {ids xs : List Int} {sw st c : Int} (hm : Ms R W0 W s ids sw xs st) (hx : xs[s.cur]? = some c) (hsw : sw ≤ c) (hl : (xs.length : Int) ≤ 2097152) (seq : Int) (h0 : 0 ≤ st) (h1 : st < 1152921504606846976) (z : Bool) (hz : decide (seq ≤ c) = z) :
    Calls Tryz.prog 156 #[.pointer (some ⟨s.p, 0, none⟩), .int .i64 seq] W fun e w' => e = .returned (.bool z) ∧ Below W.heap.size W w' := by
  have c38 := hm.c.c38
  by_cases hs : seq ≤ sw
  · obtain rfl : z = true := by rw [← hz]; exact decide_eq_true (by omega)
    clear hm hx hz
    go_enter Tryz.func156, Tryz.ntmps156
    go_wp2
    go_ret
    exact ⟨rfl, Below.refl _ _⟩
  · have hs' : decide (seq ≤ sw) = false := decide_eq_false hs
    have HX := Lib.hid hx
    obtain ⟨v, har⟩ := hm.ar
    have HA := Lib.hid har
    have k0 := hm.c.c0
    have k2 := hm.c.c2
    have HK := Lib.hid (show W.cell? ⟨s.p, 0, none⟩ = some (.pointer (some ⟨s.b, 0, none⟩)) ∧ W.cell? ⟨s.p, 2, none⟩ = some (.int .i64 s.cur) from ⟨k0, k2⟩)
    have HZ := Lib.hid hz
    have HLO : Hid (∀ (w2 : World) (b2 : Nat) (v2 : Value), Ar w2 b2 v2 xs st → Below W.heap.size W w2 → W.heap.size ≤ b2 → (∀ g, v2.ownBlock = some g → W.heap.size ≤ g) → Calls Tryz.prog 35 #[.pointer (some ⟨b2, 0, none⟩), .int .i64 s.cur] w2 fun e w' => e = .returned (.tuple #[.int .i64 c, .nilIface]) ∧ Below W.heap.size W w') :=
      fun w2 b2 v2 ha hb hn hg => (load_some s.cur w2 b2 v2 xs st c ha hx h0 (by omega)).mono fun e w' h => ⟨h.1, below_step hb hn hg h.2⟩
    clear hm hx hs har hz
    go_enter Tryz.func156, Tryz.ntmps156
    go_wp2_with fail
    go_region_held3 (fun w' => w'.cell? ⟨s.p, 0, none⟩ = some (.pointer (some ⟨s.b, 0, none⟩)) ∧ w'.cell? ⟨s.p, 2, none⟩ = some (.int .i64 s.cur) ∧ Below W.heap.size W w') (first
        | exact ⟨by assumption, by assumption, by assumption⟩
        | exact ⟨by go_simp, by go_simp, Below.drew (by assumption)⟩
        | exact ⟨by go_simp, by go_simp, (Below.refl _ _).drew⟩) (first
        | (go_at_call 169; refine (clone_some _ s.b v xs st (HA.out.keepB (Below.drew (Below.refl _ _))) hl).mono ?_; rintro e w2 ⟨b2, v2, rfl, ha2, hb2, hn2, hg2⟩; have hbw := (Below.drew (Below.refl W.heap.size W)).trans (hb2.mono (Nat.le_refl _)); have j0 := keepc hbw HK.out.1; have j2 := keepc hbw HK.out.2; have HA2 := Lib.hid ha2; have HN2 := Lib.hid hn2; have HG2 := Lib.hid hg2; clear ha2 hb2 hn2 hg2)
        | (go_at_call 35; refine (HLO.out w2 b2 v2 HA2.out hbw HN2.out HG2.out).mono ?_; rintro e w3 ⟨rfl, hbw3⟩; have i0 := keepc hbw3 HK.out.1; have i2 := keepc hbw3 HK.out.2))
    have HB := Lib.hid hbw3
    clear k0 k2 j0 j2 i0 i2 hbw hbw3
    have hzz := HZ.out
    go_wp2
    go_ret
    exact ⟨rfl, HB.out⟩
set_option maxHeartbeats 2000000 in
set_option maxRecDepth 100000 in
theorem mpub_bad {R : Rest} {W0 W : World} {s : Sh} {ids xs : List Int} {sw st c : Int} (hm : Ms R W0 W s ids sw xs st) (hx : xs[s.cur]? = some c) (hsw : sw ≤ c) (hl : (xs.length : Int) ≤ 2097152) (lo hi : Int) (hlo : -9223372036854775808 ≤ lo ∧ lo ≤ 9223372036854775807) (hhi : -9223372036854775808 ≤ hi ∧ hi ≤ 9223372036854775807) (h0 : 0 ≤ st) (h1 : st < 1152921504606846976) (hb : lo < 0 ∨ hi < lo ∨ two s.k ≤ hi - lo ∨ c < hi) :
    Calls Tryz.prog 132 #[.pointer (some ⟨s.p, 0, none⟩), .int .i64 lo, .int .i64 hi] W fun e w' => ∃ E, e = .returned E ∧ Refused W w' E 1 := by
  have HM := Lib.hid hm
  have HX := Lib.hid hx
  have hk := hm.k20
  have c1 := hm.c.c1
  obtain ⟨a1, a2⟩ := hlo
  obtain ⟨a3, a4⟩ := hhi
  clear hm hx
  by_cases e1 : lo < 0
  · clear hb
    go_enter Tryz.func132, Tryz.ntmps132
    go_wp2_with (go_at_call 75; refine (wrap_q _ _ _).mono ?_; rintro e w1 ⟨q, rfl, hr⟩; have HR := Lib.hid hr; clear hr)
    go_ret
    exact ⟨_, rfl, HR.out⟩
  have d1 : decide (lo < 0) = false := decide_eq_false e1
  by_cases e2 : hi < lo
  · have d2 : decide (hi < lo) = true := decide_eq_true e2
    clear hb e1 e2
    go_enter Tryz.func132, Tryz.ntmps132
    go_wp2_with (go_at_call 75; refine (wrap_q _ _ _).mono ?_; rintro e w1 ⟨q, rfl, hr⟩; have HR := Lib.hid hr; clear hr)
    go_ret
    exact ⟨_, rfl, HR.out⟩
  have d2 : decide (hi < lo) = false := decide_eq_false e2
  have b1 : 0 ≤ hi - lo := by omega
  have b2 : hi - lo ≤ 9223372036854775807 := by omega
  by_cases e3 : two s.k ≤ hi - lo
  · have d3 : decide (two s.k ≤ hi - lo) = true := decide_eq_true e3
    clear hb e1 e2 e3
    go_enter Tryz.func132, Tryz.ntmps132
    go_wp2_with (first
      | (go_at_call 51; refine (slots_any s.k hk _).mono ?_; rintro e w0 ⟨rfl, hw⟩; have HB := Lib.hid (slots_below hw); clear hw)
      | (go_at_call 75; refine (wrap_q _ _ _).mono ?_; rintro e w1 ⟨q, rfl, hr⟩; have HR := Lib.hid (hr.after HB.out); clear hr))
    go_ret
    exact ⟨_, rfl, HR.out⟩
  have d3 : decide (two s.k ≤ hi - lo) = false := decide_eq_false e3
  have d4 : decide (hi ≤ c) = false := decide_eq_false (by omega)
  have HD4 := Lib.hid d4
  clear hb e1 e2 e3 d4
  go_enter Tryz.func132, Tryz.ntmps132
  go_wp2_with (first
    | (go_at_call 51; refine (slots_any s.k hk _).mono ?_; rintro e w0 ⟨rfl, hw⟩; have HB := Lib.hid (slots_below hw); clear hw)
    | (go_at_call 156; refine (mknown (HM.out.keep HB.out) HX.out hsw hl hi h0 h1 false HD4.out).mono ?_; rintro e w2 ⟨rfl, hb⟩; have HB2 := Lib.hid (bthen HB.out hb); clear hb)
    | (go_at_call 75; refine (wrap_q _ _ _).mono ?_; rintro e w1 ⟨q, rfl, hr⟩; have HR := Lib.hid (hr.after HB2.out); clear hr))
  go_ret
  exact ⟨_, rfl, HR.out⟩
set_option maxHeartbeats 2000000 in
set_option maxRecDepth 100000 in
theorem mpub_ok {R : Rest} {W0 W : World} {s : Sh} {ids xs : List Int} {sw st c : Int} (hm : Ms R W0 W s ids sw xs st) (hx : xs[s.cur]? = some c) (hsw : sw ≤ c) (hl : (xs.length : Int) ≤ 2097152) (lo hi : Int) (hl0 : 0 ≤ lo) (hlh : lo ≤ hi) (hd : hi - lo < two s.k) (hc : hi ≤ c) (hc2 : c ≤ 4611686018427387904) (m : Nat) (hmm : hi - lo + 1 = m) (hfl : s.f + two s.k ≤ (xs.length : Int)) (h0 : 0 ≤ st) (h1 : st < 1152921504606846976) :
    Calls Tryz.prog 132 #[.pointer (some ⟨s.p, 0, none⟩), .int .i64 lo, .int .i64 hi] W fun e w' => e = .returned .nilIface ∧ Ms R W0 w' s ids sw (showN xs s.f s.k lo m) (st + m) := by
  have HM := Lib.hid hm
  have HX := Lib.hid hx
  have HMM := Lib.hid hmm
  have HFL := Lib.hid hfl
  have hk := hm.k20
  have c1 := hm.c.c1
  have d1 : decide (lo < 0) = false := decide_eq_false (by omega)
  have d2 : decide (hi < lo) = false := decide_eq_false (by omega)
  have d3 : decide (two s.k ≤ hi - lo) = false := decide_eq_false (by omega)
  have HD4 := Lib.hid (show decide (hi ≤ c) = true from decide_eq_true hc)
  have b1 : 0 ≤ hi - lo := by omega
  have b2 : hi - lo ≤ 9223372036854775807 := by omega
  clear hm hx hmm hfl
  go_enter Tryz.func132, Tryz.ntmps132
  go_wp2_with (first
    | (go_at_call 51; refine (slots_any s.k hk _).mono ?_; rintro e w0 ⟨rfl, hw⟩; have HB := Lib.hid (slots_below hw); clear hw)
    | (go_at_call 156; refine (mknown (HM.out.keep HB.out) HX.out hsw hl hi h0 h1 true HD4.out).mono ?_; rintro e w2 ⟨rfl, hb⟩; have H2 := Lib.hid (HM.out.keep (bthen HB.out hb)); clear hb))
  have k0 := H2.out.c.c0
  have k4 := H2.out.c.c4
  go_region_held3 (fun w' => w'.cell? ⟨s.p, 0, none⟩ = some (.pointer (some ⟨s.b, 0, none⟩)) ∧ w'.cell? ⟨s.p, 4, none⟩ = some (.pointer (some ⟨s.q, 0, none⟩))) (first
      | exact ⟨by assumption, by assumption⟩
      | exact ⟨by go_simp, by go_simp⟩) (first
      | (go_at_call 157; refine (show_s (H2.out.keep (Below.drew (Below.refl _ _))) lo hi hl0 hlh (by omega) hd m HMM.out HFL.out h0 (by omega)).mono ?_; rintro e w3 ⟨rfl, hm3⟩; have H3 := Lib.hid hm3; have i0 := hm3.c.c0; have i4 := hm3.c.c4; clear hm3)
      | (go_at_call 75; refine (wrap_nil _ _).mono ?_; rintro e w' ⟨rfl, rfl⟩))
  clear k0 k4 i0 i4
  go_wp2
  go_ret
  exact ⟨rfl, H3.out⟩
end Go.Proofs.YtdfcfdcekdmcmaaGreat
