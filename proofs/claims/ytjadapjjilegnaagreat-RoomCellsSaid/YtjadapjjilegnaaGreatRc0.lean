/-
  RoomCells: the walk. No condition.
-/
import Derived.Test.YtjadapjjilegnaaGreatPk
import Derived.Test.YtjadapjjilegnaaGreatPost
import Derived.Deep.DeepCutAuto
import Derived.Deep.CutBlock
import Derived.BigRegion
namespace Go.Proofs.YtjadapjjilegnaaGreat
open Go.RowKit
set_option linter.unusedVariables false
set_option linter.unusedSimpArgs false

theorem cl_info {u : Array Value} (h : u.size = 82) : (Tryz.prog.info? 66).map (·.size) = some u.size := by
  rw [h]
  kernel_rfl
set_option maxHeartbeats 4000000 in
set_option maxRecDepth 100000 in
theorem cells_walk (W : World) (sh kd nn : Int) (hsh : 0 ≤ sh) (k : Nat) (hs : sh % 6 = k) (hk : k < 6) (z : Bool) (hkd : 0 ≤ kd) (hz : kd % 2 = if z then 1 else 0) (hn0 : 0 ≤ nn) (hn1 : nn ≤ 255) :
    Calls Tryz.prog 6 #[.int .u8 sh, .int .u8 kd, .int .u8 nn] W fun e w' => e = .returned (.bool true) ∧ Below W.heap.size W w' := by
  have ht : sh.tmod 6 = (k : Int) := by rw [Int.tmod_eq_emod_of_nonneg hsh]; exact hs
  have wt := wrap_two k (by omega)
  obtain ⟨N, hN⟩ : ∃ N : Nat, (N : Int) = two k := ⟨(two k).toNat, by have := two_pos k; omega⟩
  have h1 := two_pos k
  have h2 : two k ≤ 32 := by
    have : k = 0 ∨ k = 1 ∨ k = 2 ∨ k = 3 ∨ k = 4 ∨ k = 5 := by omega
    rcases this with rfl | rfl | rfl | rfl | rfl | rfl <;> decide
  have hk20 : k ≤ 20 := by omega
  obtain ⟨cm, hcm, hc0, hc1⟩ : ∃ cm : Int, nn.tmod (two k) = cm ∧ 0 ≤ cm ∧ cm < two k := ⟨_, rfl, by rw [Int.tmod_eq_emod_of_nonneg hn0]; exact Int.emod_nonneg _ (by omega), by rw [Int.tmod_eq_emod_of_nonneg hn0]; exact Int.emod_lt_of_pos _ h1⟩
  have HN := Lib.hid hN
  have HR1 : Hid (∀ w r a c t, RmNew W w r a c t → Calls Tryz.prog 23 #[.pointer (some ⟨r, 0, none⟩), .int .i64 (two k), .int .i64 0] w fun e w' => e = .returned (.tuple #[.int .i64 0, .nilIface]) ∧ Pkd W r k false w') := Lib.hid fun w r a c t h => ring_pk1 h hk20 HN.out
  have HR2 : Hid (∀ w r a c t, RmNew W w r a c t → Calls Tryz.prog 23 #[.pointer (some ⟨r, 0, none⟩), .int .i64 (two k), .int .i64 1] w fun e w' => e = .returned (.tuple #[.int .i64 0, .nilIface]) ∧ Pkd W r k true w') := Lib.hid fun w r a c t h => ring_pk2 h hk20 HN.out
  obtain ⟨m, hm, HRING, hmz⟩ : ∃ m : Int, kd.tmod 2 = m ∧ Hid (∀ w r a c t, RmNew W w r a c t → Calls Tryz.prog 23 #[.pointer (some ⟨r, 0, none⟩), .int .i64 (two k), .int .i64 m] w fun e w' => e = .returned (.tuple #[.int .i64 0, .nilIface]) ∧ Pkd W r k z w') ∧ ((m = 0 ∧ z = false) ∨ (m = 1 ∧ z = true)) := by
    cases z
    · exact ⟨0, by rw [Int.tmod_eq_emod_of_nonneg hkd]; simpa using hz, HR1, .inl ⟨rfl, rfl⟩⟩
    · exact ⟨1, by rw [Int.tmod_eq_emod_of_nonneg hkd]; simpa using hz, HR2, .inr ⟨rfl, rfl⟩⟩
  clear HR1 HR2
  rcases hmz with ⟨rfl, rfl⟩ | ⟨rfl, rfl⟩
  all_goals
    clear hs hsh hN hz hkd
    go_enter Tryz.func6, Tryz.ntmps6
    go_upto_region 3 with (first
      | (refine (rnew W).mono ?_; rintro e w1 ⟨r, a, c, t, rfl, hnw⟩; have HNW := Lib.hid hnw; clear hnw))
    rw [wt]
    clear wt ht
    go_upto_region 4 with (go_at_call 23; refine (HRING.out _ _ _ _ _ HNW.out).mono ?_; rintro e w2 ⟨rfl, a', Rb, id, cur, bq, sb, gp, P0, P1, P2, S, T, V, F, hp0, hpk⟩; have H0 := Lib.hid hp0; have HPK := Lib.hid hpk; clear hp0 hpk)
    have HMANY := Lib.hid HPK.out.many
    have HSHOW := Lib.hid HPK.out.shown
    simp only [pvOf, Bool.false_eq_true, if_false, if_true] at HSHOW
    go_wp2_with (first
      | (go_at_call 31; refine (HMANY.out _ H0.out).mono ?_; rintro e w3 ⟨rfl, hb⟩; have H3 := Lib.hid (HPK.out.k0 _ _ H0.out hb); clear hb)
      | (go_at_call 32; refine (HSHOW.out _ H3.out).mono ?_; rintro e w4 ⟨rfl, hb⟩; have H4 := Lib.hid (HPK.out.k0 _ _ H3.out hb); clear hb)
      | (go_at_call 33; refine (HPK.out.ar1 _ H5.out).mono ?_; rintro e y ⟨rfl, rfl⟩)
      | (go_at_call 33; refine (HPK.out.ar0 _ H4.out).mono ?_; rintro e y ⟨rfl, rfl⟩)
      | (go_at_call 34; refine (HPK.out.alloc _ H4.out).mono ?_; rintro e w5 ⟨rfl, hp⟩; have H5 := Lib.hid hp; clear hp)
      | (go_at_call 36; refine (HPK.out.cursor _ H5.out).mono ?_; rintro e w6 ⟨rfl, hb⟩; have H6 := Lib.hid (HPK.out.k1 _ _ H5.out hb); clear hb)
      | (go_at_call 35; refine (HPK.out.load _ H6.out).mono ?_; rintro e w7 ⟨rfl, hp⟩; have H7 := Lib.hid hp; clear hp)
      | (go_at_call 37; refine (HPK.out.gate _ H7.out).mono ?_; rintro e w8 ⟨rfl, hb⟩; have H8 := Lib.hid (HPK.out.k2 _ _ H7.out hb); clear hb)
      | (go_at_call 38; refine (HPK.out.add _ H8.out).mono ?_; rintro e w9 ⟨rfl, hp⟩; have H9 := Lib.hid hp; clear hp))
    have HKIT := Lib.hid HPK.out.kit
    clear H0 H3 H4 H5 H6 H7 H8 HMANY HSHOW HRING HNW
    go_loopw [15, 93] (fun sv iv wl => ∃ (sum : Int) (i : Nat), sv = .int .i64 sum ∧ iv = .int .i64 i ∧ i ≤ 3 ∧ 0 ≤ sum ∧ sum ≤ 32 * i ∧ Hid (S sum sum sum Rb wl)) (fun _ i _ => 3 - (intOf i).toNat)
    case atStart => exact ⟨0, 0, rfl, rfl, by omega, by omega, by omega, H9⟩
    case round =>
      clear H9
      obtain ⟨sum, i, rfl, rfl, hi, hs0, hs1, HS⟩ := hrel
      by_cases hlt : i < 3
      · have HCL := Lib.hid (HKIT.out.claim sum (cm + 1) Rb wr HS.out hs0 (by omega) (by omega) (by omega))
        have HSZ := Lib.hid (fun (j : Nat) (u : Array Value) (R : Rest) (w : World) (h : T sum (cm + 1) j u R w) => HKIT.out.sz sum (cm + 1) j u R w h)
        have HTB := Lib.hid (fun (j : Nat) (u : Array Value) => HKIT.out.tb sum (cm + 1) j u)
        go_upto_region 16 with (first
          | (go_at_call 24; refine HCL.out.mono ?_; rintro e x1 ⟨u, j, rfl, hj, hT⟩; have HT1 := Lib.hid hT; have HU1 := Lib.hid (HSZ.out _ _ _ _ hT).1; have HU2 := Lib.hid (HSZ.out _ _ _ _ hT).2; have HUI := Lib.hid (cl_info HU1.out); clear hT)
          | (refine wpList_alloc_cl rfl rfl ?_; intro zs hzs; have HZ := Lib.hid hzs; have HT2 := Lib.hid ((HTB.out _ _).new zs 66 HT1.out); generalize x1.alloc (.cells zs 66) = x2 at *; generalize x1.heap.size = tb at *; clear hzs)
          | (refine wpList_store_row rfl 66 (.tmp 17) (.tmp 105) rfl tb u rfl rfl 66 _ ((HTB.out _ _).is HT2.out) HUI.out (by rw [HU1.out]; exact HZ.out) HU2.out ?_; have HT3 := Lib.hid ((HTB.out _ _).row HT2.out u); generalize World.setRow _ _ _ = x3 at *))
        have HI : Hid (∃ u j, j + (0 : Nat) ≤ 9 ∧ T sum (cm + 1) j u (Rb.box W.heap.size tb u 66) x3) := Lib.hid ⟨u, j, by omega, HT3.out⟩
        clear HCL HT1 HT2 HT3 HU1 HU2 HUI HZ
        go_loopw [18, 19] (fun hv iv wl => hv = .nilIface ∧ ∃ q : Nat, iv = .int .i64 q ∧ Hid (∃ u j, j + q ≤ 9 ∧ T sum (cm + 1) j u (Rb.box W.heap.size tb u 66) wl)) (fun _ i _ => 20 - (intOf i).toNat)
        case atStart => exact ⟨rfl, 0, rfl, HI⟩
        case round =>
          obtain ⟨rfl, q, rfl, HJ⟩ := hrel
          obtain ⟨u1, j1, hj1, hT⟩ := HJ.out
          have HT := Lib.hid hT
          have HU1 := Lib.hid (HSZ.out _ _ _ _ hT).1
          have HU2 := Lib.hid (HSZ.out _ _ _ _ hT).2
          have HUI := Lib.hid (cl_info HU1.out)
          clear HJ HI hT
          cases j1 with
          | zero =>
            have HDN := Lib.hid (fun w1 => HKIT.out.done _ _ _ _ _ _ w1 HT.out)
            rw [decide_eq_true rfl] at HDN
            have HFL := Lib.hid (fun w1 => HKIT.out.full _ _ _ _ _ w1 HT.out)
            by_cases hle : sum + (cm + 1) ≤ two k
            · have hok : okO (two k) (some id) sum (cm + 1) = true := by unfold okO; simpa using hle
              have HG := Lib.hid (fun w (h : T sum (cm + 1) 0 u1 (Rb.box W.heap.size tb u1 66) w) => HKIT.out.got _ _ _ _ _ h hok)
              have HFL2 : Hid (∀ w1 : World, Calls Tryz.prog 27 #[.agg u1] w1 fun e w' => e = .returned (.bool false) ∧ Below w1.heap.size w1 w') := Lib.hid fun w1 => by
                have := HFL.out w1
                rw [hok] at this
                exact this
              clear HFL
              have dle : decide (two k < sum + (cm + 1)) = false := decide_eq_false (by omega)
              go_upto_region 19 with (first
                | (refine wpList_load_row_g rfl 66 (.tmp 17) rfl tb rfl 66 _ (0, 0) _ ((HTB.out _ _).is HT.out) Tryz.underlying66 rfl HUI.out ?_)
                | (go_at_call 25; refine (HDN.out _).mono ?_; rintro e y1 ⟨rfl, hb⟩; have HT1 := Lib.hid ((HTB.out _ _).keep HT.out hb); clear hb))
              clear HT HDN
              go_upto_region 21 with (first
                | (refine wpList_load_row_g rfl 66 (.tmp 17) rfl tb rfl 66 _ (0, 0) _ ((HTB.out _ _).is HT1.out) Tryz.underlying66 rfl HUI.out ?_)
                | (go_at_call 27; refine (HFL2.out _).mono ?_; rintro e y2 ⟨rfl, hb⟩; have HT2 := Lib.hid ((HTB.out _ _).keep HT1.out hb); clear hb))
              clear HT1
              go_upto_region 22 with (first
                | (refine wpList_load_row rfl 66 (.tmp 17) rfl tb rfl 66 _ (0, 0) _ ((HTB.out _ _).is HT2.out) Tryz.underlying66 rfl HUI.out ?_)
                | (go_at_call 27; refine (HFL2.out _).mono ?_; rintro e y3 ⟨rfl, hb⟩; have HS3 := Lib.hid (HG.out _ ((HTB.out _ _).keep HT2.out hb)); clear hb))
              clear HT2 HFL2 HG dle HU1 HU2 HUI
              have HSH := Lib.hid (fun (lo : Int) (w : World) (h : S sum lo (sum + (cm + 1)) (Rb.box W.heap.size tb u1 66) w) (g1 : sum ≤ lo) (g2 : lo < sum + (cm + 1)) => HKIT.out.show' _ _ _ _ _ h hs0 g1 g2 (by omega) (by omega))
              have HNX := Lib.hid (fun (w : World) (h : S sum (sum + (cm + 1)) (sum + (cm + 1)) Rb w) => HKIT.out.next _ _ _ _ h (by omega))
              go_wp2_with fail
              go_loopw [20] (fun av wl => ∃ lo : Int, av = .int .i64 lo ∧ sum ≤ lo ∧ lo ≤ sum + (cm + 1) ∧ Hid (S sum lo (sum + (cm + 1)) (Rb.box W.heap.size tb u1 66) wl)) (fun a _ => (sum + (cm + 1) - intOf a).toNat)
              case atStart => exact ⟨sum, rfl, Int.le_refl _, by omega, HS3⟩
              case round =>
                clear HS3
                obtain ⟨lo, rfl, g1, g2, HS4⟩ := hrel
                by_cases hlo : lo < sum + (cm + 1)
                · go_wp2_with (first
                    | (go_at_call 29; refine (HSH.out _ _ HS4.out g1 hlo).mono ?_; rintro e z1 ⟨zz, rfl, hz1, hz2, hS⟩; have HS5 := Lib.hid hS; clear hS; have dzz : decide (zz ≤ lo) = false := decide_eq_false (by omega)))
                  exact ⟨⟨zz, rfl, by omega, hz2, HS5⟩, by simp [intOf]; omega⟩
                · obtain rfl : lo = sum + (cm + 1) := by omega
                  have HS6 := Lib.hid (HNX.out _ ((HKIT.out.sb _ _ _).drop HS4.out))
                  clear HS4 hlo
                  go_wp2_with fail
                  exact ⟨⟨sum + (cm + 1), i + 1, rfl, by go_num, by omega, by omega, by omega, HS6⟩, by simp [intOf]; omega⟩
            · have hok : okO (two k) (some id) sum (cm + 1) = false := by unfold okO; simpa using hle
              have HFL2 : Hid (∀ w1 : World, Calls Tryz.prog 27 #[.agg u1] w1 fun e w' => e = .returned (.bool true) ∧ Below w1.heap.size w1 w') := Lib.hid fun w1 => by
                have := HFL.out w1
                rw [hok] at this
                exact this
              clear HFL
              have dle : decide (two k < sum + (cm + 1)) = true := decide_eq_true (by omega)
              have HTV := Lib.hid (fun w (h : T sum (cm + 1) 0 u1 (Rb.box W.heap.size tb u1 66) w) => HPK.out.tv _ _ _ _ _ _ h)
              clear hle hok
              go_upto_region 19 with (first
                | (refine wpList_load_row_g rfl 66 (.tmp 17) rfl tb rfl 66 _ (0, 0) _ ((HTB.out _ _).is HT.out) Tryz.underlying66 rfl HUI.out ?_)
                | (go_at_call 25; refine (HDN.out _).mono ?_; rintro e y1 ⟨rfl, hb⟩; have HT1 := Lib.hid ((HTB.out _ _).keep HT.out hb); clear hb))
              clear HT HDN
              go_upto_region 21 with (first
                | (refine wpList_load_row_g rfl 66 (.tmp 17) rfl tb rfl 66 _ (0, 0) _ ((HTB.out _ _).is HT1.out) Tryz.underlying66 rfl HUI.out ?_)
                | (go_at_call 27; refine (HFL2.out _).mono ?_; rintro e y2 ⟨rfl, hb⟩; have HT2 := Lib.hid ((HTB.out _ _).keep HT1.out hb); clear hb))
              clear HT1
              go_upto_region 30 with (first
                | (refine wpList_load_row rfl 66 (.tmp 17) rfl tb rfl 66 _ (0, 0) _ ((HTB.out _ _).is HT2.out) Tryz.underlying66 rfl HUI.out ?_)
                | (go_at_call 27; refine (HFL2.out _).mono ?_; rintro e y3 ⟨rfl, hb⟩; have HV := Lib.hid (HTV.out _ ((HTB.out _ _).keep HT2.out hb)); clear hb))
              clear HT2 HFL2 HTV dle HU1 HU2 HUI HTB HSZ HKIT HS hlt
              go_upto_region 31 with fail
              have HVX := Lib.hid (HPK.out.vb.new #[.int .i64 nn, .int .i64 3] 86 HV.out)
              clear HV
              generalize World.alloc y3 (.cells #[.int .i64 nn, .int .i64 3] 86) = e1 at *
              generalize y3.heap.size = xb at *
              have HSLT : Hid (∀ x : Later e1, Calls Tryz.prog 39 #[.pointer (some ⟨r, 0, none⟩), .int .i64 0] x.to fun e w'' => e = .returned (.pointer (some ⟨sb, 0, none⟩)) ∧ ∃ y : Later e1, w'' = y.to) := fun x => (HPK.out.slots _ _ (HPK.out.vb.keep HVX.out x.below)).mono fun e w h => ⟨h.1, ⟨w, bthen x.below h.2⟩, rfl⟩
              have n0 : ∀ x : Later e1, x.to.cell? ⟨xb, 0, none⟩ = some (.int .i64 nn) := fun x => (obj_cell (HPK.out.vb.is (HPK.out.vb.keep HVX.out x.below)) 0).trans rfl
              have n1 : ∀ x : Later e1, x.to.cell? ⟨xb, 1, none⟩ = some (.int .i64 3) := fun x => (obj_cell (HPK.out.vb.is (HPK.out.vb.keep HVX.out x.below)) 1).trans rfl
              refine wp_region_later_tail 4 (by kernel_rfl) (by kernel_rfl) ?_
              simp only [List.take_succ_cons, List.take_zero, List.drop_succ_cons, List.drop_zero]
              repeat (go_big_quiet_step ((go_at_call 39; exact HSLT.out _)))
              refine wpQuiet_nil ?_
              intro e2 hw'
              obtain ⟨⟨e2', hb2⟩, hw2⟩ := hw'
              obtain rfl : e2 = e2' := hw2
              have HV2 := Lib.hid (HPK.out.vb.keep HVX.out hb2)
              clear n0 n1 hb2 HSLT HVX
              go_wp2_with (first
                | (go_at_call 40; refine (HPK.out.put _ _ nn 3 HV2.out).mono ?_; rintro e e3 ⟨rfl, hf⟩; have HF3 := Lib.hid hf; clear hf HV2)
                | (go_at_call 39; refine (HPK.out.slots2 _ _ _ _ HF3.out).mono ?_; rintro e e4 ⟨rfl, hb⟩; have HF4 := Lib.hid (HPK.out.kf _ _ _ _ _ HF3.out hb); clear hb HF3)
                | (go_at_call 41; refine (HPK.out.get _ _ _ _ HF4.out).mono ?_; rintro e e5 ⟨rfl, hb⟩; have HF5 := Lib.hid (HPK.out.kf _ _ _ _ _ HF4.out hb); clear hb HF4)
                | (go_at_call 9; refine (awake14 _).mono ?_; rintro e e6 ⟨rfl, hb⟩; have HF6 := Lib.hid (HPK.out.kf _ _ _ _ _ HF5.out (bthen (balloc (Below.refl _ _) _) hb)); have y0 := keepc hb ((obj_cell (obj_new e5 _) 0).trans rfl); have y1 := keepc hb ((obj_cell (obj_new e5 _) 1).trans rfl); have x0 := (obj_cell (HPK.out.vf _ _ _ _ HF6.out).2.1 0).trans rfl; have x1 := (obj_cell (HPK.out.vf _ _ _ _ HF6.out).2.1 1).trans rfl; clear hb HF5))
              go_ret
              exact ⟨by simp, HPK.out.lf _ _ _ _ HF6.out⟩
          | succ j1 =>
            have HDN := Lib.hid (fun w1 => HKIT.out.done _ _ _ _ _ _ w1 HT.out)
            have HST := Lib.hid (fun w1 (h : T sum (cm + 1) (j1 + 1) u1 (Rb.box W.heap.size tb u1 66) w1) => HKIT.out.step _ _ _ _ _ _ h)
            rw [decide_eq_false (by omega)] at HDN
            go_wp2_with (first
              | (refine wpList_load_row_g rfl 66 (.tmp 17) rfl tb rfl 66 _ (0, 0) _ ((HTB.out _ _).is HT.out) Tryz.underlying66 rfl HUI.out ?_)
              | (go_at_call 25; refine (HDN.out _).mono ?_; rintro e y1 ⟨rfl, hb⟩; have HT1 := Lib.hid ((HTB.out _ _).keep HT.out hb); clear hb)
              | (refine wpList_load_row rfl 66 (.tmp 17) rfl tb rfl 66 _ (0, 0) _ ((HTB.out _ _).is HT1.out) Tryz.underlying66 rfl HUI.out ?_)
              | (go_at_call 26; refine (HST.out _ HT1.out).mono ?_; rintro e y2 ⟨u2, j2, rfl, hj2, hT⟩; have HT2 := Lib.hid hT; have HV1 := Lib.hid (HSZ.out _ _ _ _ hT).1; have HV2 := Lib.hid (HSZ.out _ _ _ _ hT).2; have HVI := Lib.hid (cl_info HV1.out); clear hT)
              | (refine wpList_store_row rfl 66 (.tmp 17) (.tmp 123) rfl tb u2 rfl rfl 66 _ ((HTB.out _ _).is HT2.out) HVI.out (by rw [HV1.out, HU1.out]) HV2.out ?_; have HT3 := Lib.hid ((HTB.out _ _).row HT2.out u2); generalize World.setRow _ _ _ = y3 at *))
            exact ⟨⟨rfl, q + 1, by go_num, Lib.hid ⟨u2, j2, by omega, HT3.out⟩⟩, by simp [intOf]; omega⟩
      · obtain rfl : i = 3 := by omega
        have HV := Lib.hid (HPK.out.sv _ _ _ _ _ HS.out)
        clear HS HKIT hs1 hi
        go_upto_region 31 with fail
        clear hlt
        have HVX := Lib.hid (HPK.out.vb.new #[.int .i64 nn, .int .i64 3] 86 HV.out)
        clear HV
        generalize World.alloc wr (.cells #[.int .i64 nn, .int .i64 3] 86) = e1 at *
        generalize wr.heap.size = xb at *
        have HSLT : Hid (∀ x : Later e1, Calls Tryz.prog 39 #[.pointer (some ⟨r, 0, none⟩), .int .i64 0] x.to fun e w'' => e = .returned (.pointer (some ⟨sb, 0, none⟩)) ∧ ∃ y : Later e1, w'' = y.to) := fun x => (HPK.out.slots _ _ (HPK.out.vb.keep HVX.out x.below)).mono fun e w h => ⟨h.1, ⟨w, bthen x.below h.2⟩, rfl⟩
        have n0 : ∀ x : Later e1, x.to.cell? ⟨xb, 0, none⟩ = some (.int .i64 nn) := fun x => (obj_cell (HPK.out.vb.is (HPK.out.vb.keep HVX.out x.below)) 0).trans rfl
        have n1 : ∀ x : Later e1, x.to.cell? ⟨xb, 1, none⟩ = some (.int .i64 3) := fun x => (obj_cell (HPK.out.vb.is (HPK.out.vb.keep HVX.out x.below)) 1).trans rfl
        refine wp_region_later_tail 4 (by kernel_rfl) (by kernel_rfl) ?_
        simp only [List.take_succ_cons, List.take_zero, List.drop_succ_cons, List.drop_zero]
        repeat (go_big_quiet_step ((go_at_call 39; exact HSLT.out _)))
        refine wpQuiet_nil ?_
        intro e2 hw'
        obtain ⟨⟨e2', hb2⟩, hw2⟩ := hw'
        obtain rfl : e2 = e2' := hw2
        have HV2 := Lib.hid (HPK.out.vb.keep HVX.out hb2)
        clear n0 n1 hb2 HSLT HVX
        go_wp2_with (first
          | (go_at_call 40; refine (HPK.out.put _ _ nn 3 HV2.out).mono ?_; rintro e e3 ⟨rfl, hf⟩; have HF3 := Lib.hid hf; clear hf HV2)
          | (go_at_call 39; refine (HPK.out.slots2 _ _ _ _ HF3.out).mono ?_; rintro e e4 ⟨rfl, hb⟩; have HF4 := Lib.hid (HPK.out.kf _ _ _ _ _ HF3.out hb); clear hb HF3)
          | (go_at_call 41; refine (HPK.out.get _ _ _ _ HF4.out).mono ?_; rintro e e5 ⟨rfl, hb⟩; have HF5 := Lib.hid (HPK.out.kf _ _ _ _ _ HF4.out hb); clear hb HF4)
          | (go_at_call 9; refine (awake14 _).mono ?_; rintro e e6 ⟨rfl, hb⟩; have HF6 := Lib.hid (HPK.out.kf _ _ _ _ _ HF5.out (bthen (balloc (Below.refl _ _) _) hb)); have y0 := keepc hb ((obj_cell (obj_new e5 _) 0).trans rfl); have y1 := keepc hb ((obj_cell (obj_new e5 _) 1).trans rfl); have x0 := (obj_cell (HPK.out.vf _ _ _ _ HF6.out).2.1 0).trans rfl; have x1 := (obj_cell (HPK.out.vf _ _ _ _ HF6.out).2.1 1).trans rfl; clear hb HF5))
        go_ret
        exact ⟨by simp, HPK.out.lf _ _ _ _ HF6.out⟩
end Go.Proofs.YtjadapjjilegnaaGreat
