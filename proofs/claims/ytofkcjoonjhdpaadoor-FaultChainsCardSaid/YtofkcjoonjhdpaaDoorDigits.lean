/-
  A number's digits by the document's answer: contract. Condition: it is a 64-bit number.
-/
import Derived.Test.YtofkcjoonjhdpaaDoorChain0
import Derived.Laws.BytesArg
namespace Go.Proofs.YtofkcjoonjhdpaaDoor
open Go.RowKit Go.Extern.Stop Go.Stop Go.Extern

theorem infoByte : (Tryd.prog.info? 5).map (fun i => (i.zero, i.size, i.bytes)) = some (some (.int .u8 0), 1, 1) := by kernel_rfl
/-- The digits of a number, the last one first. -/
def rd (u : Nat) : List Int := if h : u < 10 then [48 + (u : Int) % 10] else (48 + (u : Int) % 10) :: rd (u / 10)
termination_by u
decreasing_by omega
theorem rd_small {u : Nat} (h : u < 10) : rd u = [48 + (u : Int) % 10] := by rw [rd, dif_pos h]
theorem rd_big {u : Nat} (h : ¬ u < 10) : rd u = (48 + (u : Int) % 10) :: rd (u / 10) := by rw [rd, dif_neg h]
theorem rd_len : ∀ (f u : Nat), u < 10 ^ f → (rd u).length ≤ f + 1
  | 0, u, h => by simp at h; subst h; rw [rd_small (by decide)]; simp
  | f + 1, u, h => by
    by_cases h10 : u < 10
    · rw [rd_small h10]; simp
    · rw [rd_big h10]
      have := rd_len f (u / 10) (by rw [Nat.pow_succ] at h; omega)
      simp; omega
theorem dec_rd (u : Nat) : Lib.decDigits u = (rd u).reverse.map fun n => UInt8.ofNat n.toNat := by
  induction u using Nat.strongRecOn with
  | _ u ih =>
    by_cases h : u < 10
    · rw [rd_small h, Lib.decDigits, dif_pos h]
      show _ = [UInt8.ofNat (48 + (u : Int) % 10).toNat]
      rw [show (48 + (u : Int) % 10).toNat = 48 + u by omega]
    · rw [rd_big h, Lib.decDigits, dif_neg h, ih (u / 10) (by omega), List.reverse_cons, List.map_append]
      show _ = _ ++ [UInt8.ofNat (48 + (u : Int) % 10).toNat]
      rw [show (48 + (u : Int) % 10).toNat = 48 + u % 10 by omega]
def DRel (s : Int) (B : Nat) (W : World) (u0 : Nat) (n v : Value) (wl : World) : Prop :=
  ∃ (ds : List Int) (u : Nat), n = .int .i64 (s * u) ∧ rd u0 = ds ++ rd u ∧ u ≤ u0 ∧ wl.ownsRow B 5 1 v ds.length (ds.map (.int .u8)) ∧ Below B W wl
def SRel (ds : List Int) (w3 : World) (s i : Value) (wl : World) : Prop :=
  ∃ k : Nat, k ≤ ds.length ∧ i = .int .i64 ((k : Int) - 1) ∧ s = .string (strOfNums (ds.drop k).reverse) ∧ wl = w3
theorem str_step (ds : List Int) {j : Nat} (h : j < ds.length) : strOfNums (ds.drop (j + 1)).reverse ++ strOfNums [ds[j]] = strOfNums (ds.drop j).reverse := by
  have he : (ds.drop j).reverse = (ds.drop (j + 1)).reverse ++ [ds[j]] := by rw [List.drop_eq_getElem_cons h, List.reverse_cons]
  rw [he]
  unfold strOfNums
  rw [List.map_append]
  apply ByteArray.ext
  simp
theorem brow_out {w : World} {B n : Nat} {v : Value} {xs : List Value} (h : w.ownsRow B 5 1 v n xs) (hn : 0 < n) : ∃ g cap, v = .slice (some ⟨g, 0, none⟩) n cap ∧ n ≤ cap ∧ cap ≤ maxLen ∧ ∀ j, j < n → w.cell? ⟨g, j, none⟩ = xs[j]? := by
  rcases h.2 with ⟨_, h0⟩ | ⟨g, cap, cur, rfl, _, _, hc, hm, _⟩
  · omega
  · exact ⟨g, cap, rfl, hc, hm, fun j hj => h.cellAt j (by omega)⟩
theorem bone_new (w : World) (x : Value) (t : TypeId) : ∀ j u, [x][j]? = some u → (w.alloc (.cells #[x] t)).cell? ((⟨w.heap.size, 0, none⟩ : Addr).add j) = some u := by
  intro j u hj
  match j, hj with
  | 0, hj =>
    simp at hj; subst hj
    simp [Addr.add]
  | j + 1, hj => simp at hj

set_option maxRecDepth 100000 in
set_option maxHeartbeats 2000000 in
theorem digits_pos {W : World} (u0 : Nat) (hu : u0 ≤ 9223372036854775807) :
    Calls Tryd.prog 30 #[.int .i64 (u0 : Int)] W fun e w' => e = .returned (.string (⟨(Lib.decDigits u0).toArray⟩ : ByteArray)) ∧ Below W.heap.size W w' := by
  obtain ⟨i0, hi, hz0, hz1, hz2⟩ := info_parts infoByte
  have hrl := rd_len 19 u0 (by omega)
  go_enter Tryd.func30, Tryd.ntmps30
  go_wp2
  go_loopw [0, 4] (fun n v wl => DRel (1) W.heap.size W u0 n v wl) (fun n _ _ => (intOf n).toNat)
  case atStart => exact ⟨[], u0, by congr 1; omega, rfl, Nat.le_refl _, World.ownsRow_nil _ _ _ _, Below.refl _ _⟩
  case round =>
    obtain ⟨ds, u, rfl, hrd, hle, hown, hb⟩ := hrel
    have HO := Lib.hid hown
    have HB := Lib.hid hb
    have HRD := Lib.hid hrd
    have hsz : W.heap.size ≤ wr.heap.size := hb.size
    have hdl : ds.length ≤ 20 := by
      have := congrArg List.length hrd
      rw [List.length_append] at this
      omega
    clear hown hb hrd
    rw [show (1 : Int) * (u : Int) = (u : Int) by omega]
    have hu1 : u ≤ 9223372036854775808 := by omega
    by_cases h10 : u < 10
    · go_wp2_with (at_builtin; refine wpList_append_own _ rfl _ _ 65 rfl W.heap.size 5 i0 (.int .u8 0) 1 1 Tryd.underlying65 hi hz0 hz1 hz2 rfl (by decide) _ _ _ rfl (HO.out.alloc _) ⟨wr.heap.size, 0, none⟩ 1 1 [.int .u8 (48 + (u : Int) % 10)] rfl rfl (bone_new _ _ _) (fun x hx => by simp at hx; subst hx; rfl) (by unfold maxLen; omega) (by omega) (by simp; omega) ?_; intro v' w3 hown3 hgrow3 _; obtain ⟨g, cg, rfl, hgc, hgm, hcg⟩ := brow_out hown3 (by omega))
      have hlen : (rd u0).length = ds.length + 1 := by rw [HRD.out, rd_small h10]; simp
      have hcells : ∀ j, (h : j < (rd u0).length) → w3.cell? ⟨g, j, none⟩ = some (.int .u8 (rd u0)[j]) := fun j hj => by
        rw [hcg j (by omega)]
        have : ds.map (Value.int .u8) ++ [Value.int .u8 (48 + (u : Int) % 10)] = (rd u0).map (Value.int .u8) := by rw [HRD.out, rd_small h10]; simp
        rw [this]
        simp [hj]
      have HCS := Lib.hid hcells
      have HLEN := Lib.hid hlen
      have HW3 : Hid (Below W.heap.size W w3) := Lib.hid ((HB.out.alloc hsz _).grown hgrow3 (by simp; omega) (fun g hg => (HO.out.lt g hg).1))
      clear hcells hcg hgrow3
      go_loopw [6, 7] (fun s i wl => SRel (rd u0) w3 s i wl) (fun _ i _ => (intOf i + 1).toNat)
      case atStart => exact ⟨(rd u0).length, Nat.le_refl _, by rw [HLEN.out]; simp, by simp [strOfNums], rfl⟩
      case round =>
        obtain ⟨k, hk, rfl, rfl, rfl⟩ := hrel
        rcases Nat.eq_zero_or_pos k with rfl | hpos
        · go_wp2
          go_ret
          exact ⟨by rw [List.drop_zero, dec_rd]; rfl, HW3.out⟩
        · obtain ⟨j, rfl⟩ : ∃ j, k = j + 1 := ⟨k - 1, by omega⟩
          rw [show (((j + 1 : Nat) : Int) - 1) = (j : Int) by omega]
          have hj : j < (rd u0).length := by omega
          have hcell := HCS.out j hj
          generalize hx : (rd u0)[j] = x at hcell
          have HX := Lib.hid hx
          have hce : ∀ i, i < 1 → wr.cell? ⟨g, j + i, none⟩ = some (.int .u8 ([x].getD i 0)) := by
            intro i hi
            have h0 : i = 0 := by omega
            subst h0
            simpa using hcell
          have hcv := run_convert_bytes_arg (P := Tryd.prog) wr 65 5 Tryd.underlying65 Tryd.underlying5 g j 1 (cg - j) [x] rfl hce 9 Tryd.underlying9
          generalize hsv : strOfNums (List.drop (j + 1) (rd u0)).reverse = sv
          have HSV := Lib.hid hsv
          have hsvl : sv.size ≤ 20 := by rw [← hsv, strOfNums_size]; simp; omega
          have hadd : ∀ w : World, (Op.stringOp .add sv (strOfNums [x])).run Tryd.prog w = .ok (.string (sv ++ strOfNums [x])) w := fun w => run_string_add_sum w _ _ (by rw [strOfNums_size]; simp; omega)
          clear hx hsv
          go_wp2
          refine ⟨⟨j, by omega, rfl, ?_, rfl⟩, by simp [intOf]⟩
          rw [← HX.out, ← HSV.out, str_step _ hj]
    · go_wp2_with (at_builtin; refine wpList_append_own _ rfl _ _ 65 rfl W.heap.size 5 i0 (.int .u8 0) 1 1 Tryd.underlying65 hi hz0 hz1 hz2 rfl (by decide) _ _ _ rfl (HO.out.alloc _) ⟨wr.heap.size, 0, none⟩ 1 1 [.int .u8 (48 + (u : Int) % 10)] rfl rfl (bone_new _ _ _) (fun x hx => by simp at hx; subst hx; rfl) (by unfold maxLen; omega) (by omega) (by simp; omega) ?_; intro v' w3 hown3 hgrow3 _)
      refine ⟨⟨ds ++ [48 + (u : Int) % 10], u / 10, by simp, by rw [HRD.out, rd_big h10]; simp, by omega, by simpa using hown3, (HB.out.alloc hsz _).grown hgrow3 (by simp; omega) (fun g hg => (HO.out.lt g hg).1)⟩, by simp [intOf]; omega⟩

set_option maxRecDepth 100000 in
set_option maxHeartbeats 2000000 in
theorem digits_neg {W : World} (u0 : Nat) (hp : 0 < u0) (hu : u0 ≤ 9223372036854775808) :
    Calls Tryd.prog 30 #[.int .i64 (-(u0 : Int))] W fun e w' => e = .returned (.string (⟨(45 :: Lib.decDigits u0).toArray⟩ : ByteArray)) ∧ Below W.heap.size W w' := by
  obtain ⟨i0, hi, hz0, hz1, hz2⟩ := info_parts infoByte
  have hrl := rd_len 19 u0 (by omega)
  go_enter Tryd.func30, Tryd.ntmps30
  go_wp2
  go_loopw [0, 4] (fun n v wl => DRel (-1) W.heap.size W u0 n v wl) (fun n _ _ => (-(intOf n)).toNat)
  case atStart => exact ⟨[], u0, by congr 1; omega, rfl, Nat.le_refl _, World.ownsRow_nil _ _ _ _, Below.refl _ _⟩
  case round =>
    obtain ⟨ds, u, rfl, hrd, hle, hown, hb⟩ := hrel
    have HO := Lib.hid hown
    have HB := Lib.hid hb
    have HRD := Lib.hid hrd
    have hsz : W.heap.size ≤ wr.heap.size := hb.size
    have hdl : ds.length ≤ 20 := by
      have := congrArg List.length hrd
      rw [List.length_append] at this
      omega
    clear hown hb hrd
    rw [show (-1 : Int) * (u : Int) = (-(u : Int)) by omega]
    have hu1 : u ≤ 9223372036854775808 := by omega
    by_cases hz : (u : Int) % 10 = 0
    · have hm : (-(u : Int)).tmod 10 = -((u : Int) % 10) := by rw [Int.neg_tmod, Int.tmod_eq_emod_of_nonneg (by omega)]
      have hd : (-(u : Int)).tdiv 10 = -((u : Int) / 10) := by rw [Int.neg_tdiv, Int.tdiv_eq_ediv_of_nonneg (by omega)]
      rw [hz] at hm
      have hm2 : (u : Int).tmod 10 = (u : Int) % 10 := Int.tmod_eq_emod_of_nonneg (by omega)
      have hd2 : (u : Int).tdiv 10 = (u : Int) / 10 := Int.tdiv_eq_ediv_of_nonneg (by omega)
      by_cases h10 : u < 10
      · go_wp2_with (at_builtin; refine wpList_append_own _ rfl _ _ 65 rfl W.heap.size 5 i0 (.int .u8 0) 1 1 Tryd.underlying65 hi hz0 hz1 hz2 rfl (by decide) _ _ _ rfl (HO.out.alloc _) ⟨wr.heap.size, 0, none⟩ 1 1 [.int .u8 48] rfl rfl (bone_new _ _ _) (fun x hx => by simp at hx; subst hx; rfl) (by unfold maxLen; omega) (by omega) (by simp; omega) ?_; intro v' w3 hown3 hgrow3 _; rw [show (48 : Int) = 48 + (u : Int) % 10 by omega] at hown3; obtain ⟨g, cg, rfl, hgc, hgm, hcg⟩ := brow_out hown3 (by omega))
        have hlen : (rd u0).length = ds.length + 1 := by rw [HRD.out, rd_small h10]; simp
        have hcells : ∀ j, (h : j < (rd u0).length) → w3.cell? ⟨g, j, none⟩ = some (.int .u8 (rd u0)[j]) := fun j hj => by
          rw [hcg j (by omega)]
          have : ds.map (Value.int .u8) ++ [Value.int .u8 (48 + (u : Int) % 10)] = (rd u0).map (Value.int .u8) := by rw [HRD.out, rd_small h10]; simp
          rw [this]
          simp [hj]
        have HCS := Lib.hid hcells
        have HLEN := Lib.hid hlen
        have HW3 : Hid (Below W.heap.size W w3) := Lib.hid ((HB.out.alloc hsz _).grown hgrow3 (by simp; omega) (fun g hg => (HO.out.lt g hg).1))
        clear hcells hcg hgrow3
        go_loopw [6, 7] (fun s i wl => SRel (rd u0) w3 s i wl) (fun _ i _ => (intOf i + 1).toNat)
        case atStart => exact ⟨(rd u0).length, Nat.le_refl _, by rw [HLEN.out]; simp, by simp [strOfNums], rfl⟩
        case round =>
          obtain ⟨k, hk, rfl, rfl, rfl⟩ := hrel
          rcases Nat.eq_zero_or_pos k with rfl | hpos
          · generalize hsv : strOfNums (List.drop 0 (rd u0)).reverse = sv
            have HSV := Lib.hid hsv
            have hsvl : sv.size ≤ 20 := by rw [← hsv, strOfNums_size]; simp; omega
            have hadd : ∀ w : World, (Op.stringOp .add ⟨#[45]⟩ sv).run Tryd.prog w = .ok (.string (⟨#[45]⟩ ++ sv)) w := fun w => run_string_add_sum w _ _ (by show 1 + _ ≤ _; omega)
            clear hsv
            go_wp2
            go_ret
            exact ⟨by rw [← HSV.out, List.drop_zero, dec_rd]; rfl, HW3.out⟩
          · obtain ⟨j, rfl⟩ : ∃ j, k = j + 1 := ⟨k - 1, by omega⟩
            rw [show (((j + 1 : Nat) : Int) - 1) = (j : Int) by omega]
            have hj : j < (rd u0).length := by omega
            have hcell := HCS.out j hj
            generalize hx : (rd u0)[j] = x at hcell
            have HX := Lib.hid hx
            have hce : ∀ i, i < 1 → wr.cell? ⟨g, j + i, none⟩ = some (.int .u8 ([x].getD i 0)) := by
              intro i hi
              have h0 : i = 0 := by omega
              subst h0
              simpa using hcell
            have hcv := run_convert_bytes_arg (P := Tryd.prog) wr 65 5 Tryd.underlying65 Tryd.underlying5 g j 1 (cg - j) [x] rfl hce 9 Tryd.underlying9
            generalize hsv : strOfNums (List.drop (j + 1) (rd u0)).reverse = sv
            have HSV := Lib.hid hsv
            have hsvl : sv.size ≤ 20 := by rw [← hsv, strOfNums_size]; simp; omega
            have hadd : ∀ w : World, (Op.stringOp .add sv (strOfNums [x])).run Tryd.prog w = .ok (.string (sv ++ strOfNums [x])) w := fun w => run_string_add_sum w _ _ (by rw [strOfNums_size]; simp; omega)
            clear hx hsv
            go_wp2
            refine ⟨⟨j, by omega, rfl, ?_, rfl⟩, by simp [intOf]⟩
            rw [← HX.out, ← HSV.out, str_step _ hj]
      · go_wp2_with (at_builtin; refine wpList_append_own _ rfl _ _ 65 rfl W.heap.size 5 i0 (.int .u8 0) 1 1 Tryd.underlying65 hi hz0 hz1 hz2 rfl (by decide) _ _ _ rfl (HO.out.alloc _) ⟨wr.heap.size, 0, none⟩ 1 1 [.int .u8 48] rfl rfl (bone_new _ _ _) (fun x hx => by simp at hx; subst hx; rfl) (by unfold maxLen; omega) (by omega) (by simp; omega) ?_; intro v' w3 hown3 hgrow3 _; rw [show (48 : Int) = 48 + (u : Int) % 10 by omega] at hown3)
        refine ⟨⟨ds ++ [48 + (u : Int) % 10], u / 10, by simp, by rw [HRD.out, rd_big h10]; simp, by omega, by simpa using hown3, (HB.out.alloc hsz _).grown hgrow3 (by simp; omega) (fun g hg => (HO.out.lt g hg).1)⟩, by simp [intOf]; omega⟩
    · have hzp : 0 < (u : Int) % 10 := by omega
      have hm : (-(u : Int)).tmod 10 = -((u : Int) % 10) := by rw [Int.neg_tmod, Int.tmod_eq_emod_of_nonneg (by omega)]
      have hd : (-(u : Int)).tdiv 10 = -((u : Int) / 10) := by rw [Int.neg_tdiv, Int.tdiv_eq_ediv_of_nonneg (by omega)]
      have hm2 : (u : Int).tmod 10 = (u : Int) % 10 := Int.tmod_eq_emod_of_nonneg (by omega)
      have hd2 : (u : Int).tdiv 10 = (u : Int) / 10 := Int.tdiv_eq_ediv_of_nonneg (by omega)
      by_cases h10 : u < 10
      · go_wp2_with (at_builtin; refine wpList_append_own _ rfl _ _ 65 rfl W.heap.size 5 i0 (.int .u8 0) 1 1 Tryd.underlying65 hi hz0 hz1 hz2 rfl (by decide) _ _ _ rfl (HO.out.alloc _) ⟨wr.heap.size, 0, none⟩ 1 1 [.int .u8 (48 + (u : Int) % 10)] rfl rfl (bone_new _ _ _) (fun x hx => by simp at hx; subst hx; rfl) (by unfold maxLen; omega) (by omega) (by simp; omega) ?_; intro v' w3 hown3 hgrow3 _; obtain ⟨g, cg, rfl, hgc, hgm, hcg⟩ := brow_out hown3 (by omega))
        have hlen : (rd u0).length = ds.length + 1 := by rw [HRD.out, rd_small h10]; simp
        have hcells : ∀ j, (h : j < (rd u0).length) → w3.cell? ⟨g, j, none⟩ = some (.int .u8 (rd u0)[j]) := fun j hj => by
          rw [hcg j (by omega)]
          have : ds.map (Value.int .u8) ++ [Value.int .u8 (48 + (u : Int) % 10)] = (rd u0).map (Value.int .u8) := by rw [HRD.out, rd_small h10]; simp
          rw [this]
          simp [hj]
        have HCS := Lib.hid hcells
        have HLEN := Lib.hid hlen
        have HW3 : Hid (Below W.heap.size W w3) := Lib.hid ((HB.out.alloc hsz _).grown hgrow3 (by simp; omega) (fun g hg => (HO.out.lt g hg).1))
        clear hcells hcg hgrow3
        go_loopw [6, 7] (fun s i wl => SRel (rd u0) w3 s i wl) (fun _ i _ => (intOf i + 1).toNat)
        case atStart => exact ⟨(rd u0).length, Nat.le_refl _, by rw [HLEN.out]; simp, by simp [strOfNums], rfl⟩
        case round =>
          obtain ⟨k, hk, rfl, rfl, rfl⟩ := hrel
          rcases Nat.eq_zero_or_pos k with rfl | hpos
          · generalize hsv : strOfNums (List.drop 0 (rd u0)).reverse = sv
            have HSV := Lib.hid hsv
            have hsvl : sv.size ≤ 20 := by rw [← hsv, strOfNums_size]; simp; omega
            have hadd : ∀ w : World, (Op.stringOp .add ⟨#[45]⟩ sv).run Tryd.prog w = .ok (.string (⟨#[45]⟩ ++ sv)) w := fun w => run_string_add_sum w _ _ (by show 1 + _ ≤ _; omega)
            clear hsv
            go_wp2
            go_ret
            exact ⟨by rw [← HSV.out, List.drop_zero, dec_rd]; rfl, HW3.out⟩
          · obtain ⟨j, rfl⟩ : ∃ j, k = j + 1 := ⟨k - 1, by omega⟩
            rw [show (((j + 1 : Nat) : Int) - 1) = (j : Int) by omega]
            have hj : j < (rd u0).length := by omega
            have hcell := HCS.out j hj
            generalize hx : (rd u0)[j] = x at hcell
            have HX := Lib.hid hx
            have hce : ∀ i, i < 1 → wr.cell? ⟨g, j + i, none⟩ = some (.int .u8 ([x].getD i 0)) := by
              intro i hi
              have h0 : i = 0 := by omega
              subst h0
              simpa using hcell
            have hcv := run_convert_bytes_arg (P := Tryd.prog) wr 65 5 Tryd.underlying65 Tryd.underlying5 g j 1 (cg - j) [x] rfl hce 9 Tryd.underlying9
            generalize hsv : strOfNums (List.drop (j + 1) (rd u0)).reverse = sv
            have HSV := Lib.hid hsv
            have hsvl : sv.size ≤ 20 := by rw [← hsv, strOfNums_size]; simp; omega
            have hadd : ∀ w : World, (Op.stringOp .add sv (strOfNums [x])).run Tryd.prog w = .ok (.string (sv ++ strOfNums [x])) w := fun w => run_string_add_sum w _ _ (by rw [strOfNums_size]; simp; omega)
            clear hx hsv
            go_wp2
            refine ⟨⟨j, by omega, rfl, ?_, rfl⟩, by simp [intOf]⟩
            rw [← HX.out, ← HSV.out, str_step _ hj]
      · go_wp2_with (at_builtin; refine wpList_append_own _ rfl _ _ 65 rfl W.heap.size 5 i0 (.int .u8 0) 1 1 Tryd.underlying65 hi hz0 hz1 hz2 rfl (by decide) _ _ _ rfl (HO.out.alloc _) ⟨wr.heap.size, 0, none⟩ 1 1 [.int .u8 (48 + (u : Int) % 10)] rfl rfl (bone_new _ _ _) (fun x hx => by simp at hx; subst hx; rfl) (by unfold maxLen; omega) (by omega) (by simp; omega) ?_; intro v' w3 hown3 hgrow3 _)
        refine ⟨⟨ds ++ [48 + (u : Int) % 10], u / 10, by simp, by rw [HRD.out, rd_big h10]; simp, by omega, by simpa using hown3, (HB.out.alloc hsz _).grown hgrow3 (by simp; omega) (fun g hg => (HO.out.lt g hg).1)⟩, by simp [intOf]; omega⟩
end Go.Proofs.YtofkcjoonjhdpaaDoor
