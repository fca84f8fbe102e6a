/-
  RoomKinds: the walk. Conditions: at most sixty sizes.
-/
import Derived.Test.YtjadapjjilegnaaGreatKd
import Derived.Test.YtjadapjjilegnaaGreatPost
import Derived.Deep.DeepCutAuto
import Derived.Deep.CutBlock
import Derived.BigRegion
set_option linter.unusedSimpArgs false
namespace Go.Proofs.YtjadapjjilegnaaGreat
open Go.RowKit
set_option linter.unusedVariables false

/-- Between the rings' turns. -/
def kMid (W0 : World) (r a c t k g0 g1 : Nat) (rv : Value) (i : Ri) (j : Rj) (n m : Int) (q : Nat) (R : Rest) (w : World) : Prop :=
  (q = 0 ∧ KS W0 r a c t k g0 g1 rv i j n n (2000000 * n + 10) R w) ∨ (q = 1 ∧ KS W0 r a c t k g0 g1 rv i j n m (2000000 * n + 3000) R w) ∨ (q = 2 ∧ KS W0 r a c t k g0 g1 rv i j m m (2000000 * m + 10) R w)
theorem kd_turn {W0 w : World} {r a c t k g0 g1 : Nat} {rv : Value} {i : Ri} {j : Rj} {n m : Int} {q : Nat} {R : Rest} (hk : KdOk a k j) (hnm : n < m) (hm : m ≤ n + 32) (hmx : m ≤ 100000) (h : kMid W0 r a c t k g0 g1 rv i j n m q R w) (hq : q < 2) :
    ∃ (S : Int → Int → Int → Rest → World → Prop) (T : Int → Int → Nat → Array Value → Rest → World → Prop), Kit W0 r q (two k) (okO (two k) none) S T ∧ S n n n R w ∧ ∀ w1, S n m m R w1 → Calls Tryz.prog 30 #[.pointer (some ⟨r, 0, none⟩), .int .i64 q, .int .i64 n] w1 fun e w' => e = .returned (.tuple #[.int .i64 (m - 1), .nilIface]) ∧ kMid W0 r a c t k g0 g1 rv i j n m (q + 1) R w' := by
  rcases h with ⟨rfl, h⟩ | ⟨rfl, h⟩ | ⟨rfl, h⟩
  · obtain ⟨sn1, sw, cs2, h2, hS⟩ := ks_og h
    exact ⟨_, _, og_kit (k_og hk n sn1 sw cs2) (Int.le_refl _) (by decide), hS, fun w1 h1 => (og_pubd (k_og hk n sn1 sw cs2) h1 hnm (by omega)).mono fun e w' ⟨he, hh⟩ => ⟨he, .inr (.inl ⟨rfl, og_ks h2 hnm hm hh⟩)⟩⟩
  · obtain ⟨sn, sc, cs, h1, hS⟩ := ks_mg hk h
    have e4 : j.s.k = k := by rw [hk.s]
    have hkit := mg_kit (k_mg (W0 := W0) (r := r) (c := c) (t := t) (g0 := g0) (g1 := g1) (rv := rv) (i := i) hk (m - 1) cs) (E := 10000) (by decide) (by decide)
    rw [e4] at hkit
    exact ⟨_, _, hkit, hS, fun w1 hw => (mg_pubd (k_mg hk (m - 1) cs) (by decide) (by decide) hw hnm (by omega)).mono fun e w' ⟨he, hh⟩ => ⟨he, .inr (.inr ⟨rfl, mg_ks hk h1 hnm hm hh⟩)⟩⟩
  · omega
theorem ks_low {W0 w : World} {r a c t k g0 g1 : Nat} {rv : Value} {i : Ri} {j : Rj} {n m B : Int} {R : Rest} (h : KS W0 r a c t k g0 g1 rv i j n m B R w) : Below W0.heap.size W0 w := by
  obtain ⟨X, sn, sc, sn1, sw, st, cs, cs2, _, hm⟩ := h
  exact hm.below
theorem cl_infoK {u : Array Value} (h : u.size = 82) : (Tryz.prog.info? 66).map (·.size) = some u.size := by
  rw [h]
  kernel_rfl

set_option maxHeartbeats 4000000 in
set_option maxRecDepth 100000 in
theorem kinds_walk (W : World) (sh : Int) (hsh : 0 ≤ sh) (k : Nat) (hs : sh % 6 = k) (hk : k < 6) (n cap : Nat) (p : Option Addr) (z : Nat → Int) (hn : n ≤ 60)
    (hc : n = 0 ∨ ∃ b off, p = some ⟨b, off, none⟩ ∧ ∀ j, j < n → W.cell? ⟨b, off + j, none⟩ = some (.int .u8 (z j)) ∧ 0 ≤ z j ∧ z j ≤ 255) :
    Calls Tryz.prog 5 #[.int .u8 sh, .slice p n cap] W fun e w' => e = .returned (.bool true) ∧ Below W.heap.size W w' := by
  have ht : sh.tmod 6 = (k : Int) := by rw [Int.tmod_eq_emod_of_nonneg hsh]; exact hs
  have wt := wrap_two k (by omega)
  have h1 := two_pos k
  have h2 : two k ≤ 32 := by
    have : k = 0 ∨ k = 1 ∨ k = 2 ∨ k = 3 ∨ k = 4 ∨ k = 5 := by omega
    rcases this with rfl | rfl | rfl | rfl | rfl | rfl <;> decide
  have HR0 : Hid (∀ w r a c t, RmNew W w r a c t → Calls Tryz.prog 23 #[.pointer (some ⟨r, 0, none⟩), .int .i64 (two k), .int .i64 0] w fun e w' => e = .returned (.tuple #[.int .i64 0, .nilIface]) ∧ ∃ i g0 rv, kP0 W a k i (((kRb W c t).box W.heap.size g0 (gOne i) 149).rms W.heap.size r a c t rv 1 [.pointer (some ⟨g0, 0, none⟩)]) w') := Lib.hid fun w r a c t h => kd_ring0 h (by omega)
  have HK := Lib.hid hk
  have HC := Lib.hid hc
  have d60 : decide ((60 : Int) < (n : Int)) = false := decide_eq_false (by omega)
  clear hs hsh hc
  go_enter Tryz.func5, Tryz.ntmps5
  go_upto_region 5 with (first
    | (refine (rnew W).mono ?_; rintro e w1 ⟨r, a, c, t, rfl, hnw⟩; have HNW := Lib.hid hnw; clear hnw))
  rw [wt]
  clear wt ht
  go_wp2_with (first
    | (go_at_call_of 23 (Value.int .i64 1); refine (kd_ring1 H2.out HK.out).mono ?_; rintro e w3 ⟨rfl, j, g1, rv, hp⟩; have H3 := Lib.hid (kd_start hp HK.out); clear hp H2)
    | (go_at_call 23; refine (HR0.out _ _ _ _ _ HNW.out).mono ?_; rintro e w2 ⟨rfl, i, g0, rv0, hp⟩; have H2 := Lib.hid hp; clear hp))
  obtain ⟨hkd, hks⟩ := H3.out
  have HKD := Lib.hid hkd
  have H4 := Lib.hid hks
  clear H3 hkd hks HR0 HNW
  generalize kRb W c t = Rb at *
  go_loopw [11, 60] (fun nv iv wl => ∃ (nx : Int) (y : Nat), nv = .int .i64 nx ∧ iv = .int .i64 y ∧ y ≤ n ∧ 0 ≤ nx ∧ nx ≤ 32 * y ∧ Hid (KS W r a c t k g0 g1 rv i j nx nx (2000000 * nx + 10) Rb wl)) (fun _ i _ => n - (intOf i).toNat)
  case atStart => exact ⟨0, 0, rfl, rfl, by omega, by omega, by omega, H4⟩
  case round =>
    clear H4
    obtain ⟨nx, y, rfl, rfl, hy, hx0, hx1, HS⟩ := hrel
    by_cases hlt : y < n
    · obtain ⟨bb, off, rfl, hcell⟩ := HC.out.resolve_left (by omega)
      obtain ⟨hz, hz0, hz1⟩ := hcell y hlt
      have q0 := keepc (ks_low HS.out) hz
      generalize z y = x at q0 hz0 hz1
      clear hcell hz
      obtain ⟨cm, hcm, hc0, hc1⟩ : ∃ cm : Int, x.tmod (two k) = cm ∧ 0 ≤ cm ∧ cm < two k := ⟨_, rfl, by rw [Int.tmod_eq_emod_of_nonneg hz0]; exact Int.emod_nonneg _ (by omega), by rw [Int.tmod_eq_emod_of_nonneg hz0]; exact Int.emod_lt_of_pos _ h1⟩
      go_wp2_with fail
      go_loopw [69] (fun qv wl => ∃ q : Nat, qv = .int .i64 q ∧ q ≤ 2 ∧ Hid (kMid W r a c t k g0 g1 rv i j nx (nx + (cm + 1)) q Rb wl)) (fun q _ => 2 - (intOf q).toNat)
      case atStart => exact ⟨0, rfl, by omega, Lib.hid (.inl ⟨rfl, HS.out⟩)⟩
      case round =>
        clear HS q0
        obtain ⟨q, rfl, hq2, HMD⟩ := hrel
        by_cases hq : q < 2
        · obtain ⟨S, T, hkit, hS, hpub⟩ := kd_turn HKD.out (m := nx + (cm + 1)) (by omega) (by omega) (by omega) HMD.out hq
          have HKIT := Lib.hid hkit
          have HS := Lib.hid hS
          have HPUB := Lib.hid hpub
          clear hkit hS hpub HMD
          have HCL := Lib.hid (HKIT.out.claim nx (cm + 1) Rb wr HS.out hx0 (by omega) (by omega) (by omega))
          have HSZ := Lib.hid (fun (j : Nat) (u : Array Value) (R : Rest) (w : World) (h : T nx (cm + 1) j u R w) => HKIT.out.sz nx (cm + 1) j u R w h)
          have HTB := Lib.hid (fun (j : Nat) (u : Array Value) => HKIT.out.tb nx (cm + 1) j u)
          go_upto_region 19 with (first
            | (go_at_call 24; refine HCL.out.mono ?_; rintro e x1 ⟨u, jj, rfl, hj, hT⟩; have HT1 := Lib.hid hT; have HU1 := Lib.hid (HSZ.out _ _ _ _ hT).1; have HU2 := Lib.hid (HSZ.out _ _ _ _ hT).2; have HUI := Lib.hid (cl_infoK HU1.out); clear hT)
            | (refine wpList_alloc_cl rfl rfl ?_; intro zs hzs; have HZ := Lib.hid hzs; have HT2 := Lib.hid ((HTB.out _ _).new zs 66 HT1.out); generalize x1.alloc (.cells zs 66) = x2 at *; generalize x1.heap.size = tb at *; clear hzs)
            | (refine wpList_store_row rfl 66 (.tmp 16) (.tmp 77) rfl tb u rfl rfl 66 _ ((HTB.out _ _).is HT2.out) HUI.out (by rw [HU1.out]; exact HZ.out) HU2.out ?_; have HT3 := Lib.hid ((HTB.out _ _).row HT2.out u); generalize World.setRow _ _ _ = x3 at *))
          have HI : Hid (∃ u jj, jj + (0 : Nat) ≤ 9 ∧ T nx (cm + 1) jj u (Rb.box W.heap.size tb u 66) x3) := Lib.hid ⟨u, jj, by omega, HT3.out⟩
          clear HCL HT1 HT2 HT3 HU1 HU2 HUI HZ HS
          go_loopw [17, 18] (fun hv iv wl => hv = .nilIface ∧ ∃ s : Nat, iv = .int .i64 s ∧ Hid (∃ u jj, jj + s ≤ 9 ∧ T nx (cm + 1) jj u (Rb.box W.heap.size tb u 66) wl)) (fun _ i _ => 20 - (intOf i).toNat)
          case atStart => exact ⟨rfl, 0, rfl, HI⟩
          case round =>
            obtain ⟨rfl, s, rfl, HJ⟩ := hrel
            obtain ⟨u1, j1, hj1, hT⟩ := HJ.out
            have HT := Lib.hid hT
            have HU1 := Lib.hid (HSZ.out _ _ _ _ hT).1
            have HU2 := Lib.hid (HSZ.out _ _ _ _ hT).2
            have HUI := Lib.hid (cl_infoK HU1.out)
            clear HJ HI hT
            cases j1 with
            | zero =>
              have HDN := Lib.hid (fun w1 => HKIT.out.done _ _ _ _ _ _ w1 HT.out)
              rw [decide_eq_true rfl] at HDN
              have HFL : Hid (∀ w1 : World, Calls Tryz.prog 27 #[.agg u1] w1 fun e w' => e = .returned (.bool false) ∧ Below w1.heap.size w1 w') := Lib.hid fun w1 => HKIT.out.full _ _ _ _ _ w1 HT.out
              have HLA : Hid (∀ w1 : World, Calls Tryz.prog 28 #[.agg u1] w1 fun e w' => e = .returned (.int .i64 (nx + (cm + 1) - 1)) ∧ Below w1.heap.size w1 w') := Lib.hid fun w1 => HKIT.out.last _ _ _ _ _ w1 HT.out rfl
              have HG := Lib.hid (fun w (h : T nx (cm + 1) 0 u1 (Rb.box W.heap.size tb u1 66) w) => HKIT.out.got _ _ _ _ _ h rfl)
              go_upto_region 22 with (first
                | (refine wpList_load_row_g rfl 66 (.tmp 16) rfl tb rfl 66 _ (0, 0) _ ((HTB.out _ _).is HT.out) Tryz.underlying66 rfl HUI.out ?_)
                | (go_at_call 25; refine (HDN.out _).mono ?_; rintro e y1 ⟨rfl, hb⟩; have HT1 := Lib.hid ((HTB.out _ _).keep HT.out hb); clear hb))
              clear HT HDN
              go_upto_region 24 with (first
                | (refine wpList_load_row_g rfl 66 (.tmp 16) rfl tb rfl 66 _ (0, 0) _ ((HTB.out _ _).is (by first | exact HT2.out | exact HT1.out)) Tryz.underlying66 rfl HUI.out ?_)
                | (go_at_call 27; refine (HFL.out _).mono ?_; rintro e y2 ⟨rfl, hb⟩; have HT2 := Lib.hid ((HTB.out _ _).keep HT1.out hb); clear hb)
                | (go_at_call 28; refine (HLA.out _).mono ?_; rintro e y3 ⟨rfl, hb⟩; have HS3 := Lib.hid (HG.out _ ((HTB.out _ _).keep HT2.out hb)); clear hb))
              clear HT1 HT2 HFL HLA HG HU1 HU2 HUI
              have HSH := Lib.hid (fun (lo : Int) (w : World) (h : S nx lo (nx + (cm + 1)) (Rb.box W.heap.size tb u1 66) w) (g1 : nx ≤ lo) (g2 : lo < nx + (cm + 1)) => HKIT.out.show' _ _ _ _ _ h hx0 g1 g2 (by omega) (by omega))
              go_wp2_with fail
              go_loopw [19] (fun av wl => ∃ lo : Int, av = .int .i64 lo ∧ nx ≤ lo ∧ lo ≤ nx + (cm + 1) ∧ Hid (S nx lo (nx + (cm + 1)) (Rb.box W.heap.size tb u1 66) wl)) (fun a _ => (nx + (cm + 1) - intOf a).toNat)
              case atStart => exact ⟨nx, rfl, Int.le_refl _, by omega, HS3⟩
              case round =>
                clear HS3
                obtain ⟨lo, rfl, hg1, hg2, HS4⟩ := hrel
                by_cases hlo : lo < nx + (cm + 1)
                · go_wp2_with (first
                    | (go_at_call 29; refine (HSH.out _ _ HS4.out hg1 hlo).mono ?_; rintro e z1 ⟨zz, rfl, hz1, hz2, hS⟩; have HS5 := Lib.hid hS; clear hS; have dzz : decide (zz ≤ lo) = false := decide_eq_false (by omega); have dzy : decide (nx + (cm + 1) < zz) = false := decide_eq_false (by omega)))
                  exact ⟨⟨zz, rfl, by omega, hz2, HS5⟩, by simp [intOf]; omega⟩
                · obtain rfl : lo = nx + (cm + 1) := by omega
                  have HS6 := Lib.hid ((HKIT.out.sb _ _ _).drop HS4.out)
                  clear HS4 hlo
                  go_wp2_with (first
                    | (go_at_call 30; refine (HPUB.out _ HS6.out).mono ?_; rintro e z2 ⟨rfl, hM⟩; have HM2 := Lib.hid hM; clear hM))
                  exact ⟨⟨q + 1, by go_num, by omega, HM2⟩, by simp [intOf]; omega⟩
            | succ j1 =>
              have HDN := Lib.hid (fun w1 => HKIT.out.done _ _ _ _ _ _ w1 HT.out)
              have HST := Lib.hid (fun w1 (h : T nx (cm + 1) (j1 + 1) u1 (Rb.box W.heap.size tb u1 66) w1) => HKIT.out.step _ _ _ _ _ _ h)
              rw [decide_eq_false (by omega)] at HDN
              go_wp2_with (first
                | (refine wpList_load_row_g rfl 66 (.tmp 16) rfl tb rfl 66 _ (0, 0) _ ((HTB.out _ _).is HT.out) Tryz.underlying66 rfl HUI.out ?_)
                | (go_at_call 25; refine (HDN.out _).mono ?_; rintro e y1 ⟨rfl, hb⟩; have HT1 := Lib.hid ((HTB.out _ _).keep HT.out hb); clear hb)
                | (refine wpList_load_row rfl 66 (.tmp 16) rfl tb rfl 66 _ (0, 0) _ ((HTB.out _ _).is HT1.out) Tryz.underlying66 rfl HUI.out ?_)
                | (go_at_call 26; refine (HST.out _ HT1.out).mono ?_; rintro e y2 ⟨u2, j2, rfl, hj2, hT⟩; have HT2 := Lib.hid hT; have HV1 := Lib.hid (HSZ.out _ _ _ _ hT).1; have HV2 := Lib.hid (HSZ.out _ _ _ _ hT).2; have HVI := Lib.hid (cl_infoK HV1.out); clear hT)
                | (refine wpList_store_row rfl 66 (.tmp 16) (.tmp 95) rfl tb u2 rfl rfl 66 _ ((HTB.out _ _).is HT2.out) HVI.out (by rw [HV1.out, HU1.out]) HV2.out ?_; have HT3 := Lib.hid ((HTB.out _ _).row HT2.out u2); generalize World.setRow _ _ _ = y3 at *))
              exact ⟨⟨rfl, s + 1, by go_num, Lib.hid ⟨u2, j2, by omega, HT3.out⟩⟩, by simp [intOf]; omega⟩
        · obtain rfl : q = 2 := by omega
          have HF : Hid (KS W r a c t k g0 g1 rv i j (nx + (cm + 1)) (nx + (cm + 1)) (2000000 * (nx + (cm + 1)) + 10) Rb wr) := Lib.hid (by
            rcases HMD.out with ⟨e, _⟩ | ⟨e, _⟩ | ⟨_, h⟩
            · omega
            · omega
            · exact h)
          clear HMD hq
          go_wp2_with fail
          exact ⟨⟨nx + (cm + 1), y + 1, rfl, by go_num, by omega, by omega, by omega, HF⟩, by simp [intOf]; omega⟩
    · obtain rfl : y = n := by omega
      clear hlt
      have HLO := Lib.hid (ks_low HS.out)
      go_wp2_with (go_at_call 9; refine (awake14 _).mono ?_; rintro e w5 ⟨rfl, hb⟩; have HL5 := Lib.hid (bthen HLO.out hb); clear hb)
      go_ret
      exact ⟨rfl, HL5.out⟩
end Go.Proofs.YtjadapjjilegnaaGreat
