/-
  FaultKinds: the walk. Condition: the links and the numbers are read as lists; the library's own two variables hold what they hold from the start.
-/
import Derived.Test.YtekligmejngkaaaDoorKinds0
import Derived.OwnWalk
namespace Go.Proofs.YtekligmejngkaaaDoor
open Go.RowKit Go.Extern.Stop Go.Stop Go.Extern

theorem infoErrno : (Tryd.prog.info? 30).map (fun i => (i.zero, i.size, i.bytes)) = some (some (.int .i64 0), 1, 8) := by kernel_rfl
theorem smallB_len' {l : List (ByteArray × Int)} (h : smallB l = true) : l.length ≤ 50 := by
  unfold smallB at h
  rw [Bool.and_eq_true] at h
  simpa using h.1
def m20 (z : Int) : Int := z % 20

def KRel (B : Nat) (W : World) (zs : List Int) (K : Int) (q v i : Value) (wl : World) : Prop :=
  ∃ k : Nat, k ≤ zs.length ∧ i = .int .i64 k ∧ q = .bool (((zs.take k).map m20).any (fun m => K == m)) ∧ wl.ownsRow B 30 1 v k (((zs.take k).map m20).map (Value.int .i64)) ∧ Below B W wl

theorem one_new (w : World) (x : Value) (t : TypeId) : ∀ j u, [x][j]? = some u → (w.alloc (.cells #[x] t)).cell? ((⟨w.heap.size, 0, none⟩ : Addr).add j) = some u := by
  intro j u hj
  match j, hj with
  | 0, hj =>
    simp at hj; subst hj
    simp [Addr.add]
  | j + 1, hj => simp at hj
theorem any_false (zs : List Int) : ((zs.map m20).any fun _ => false) = false := by simp
theorem take_step (zs : List Int) {k : Nat} (h : k < zs.length) : (zs.take (k + 1)).map m20 = (zs.take k).map m20 ++ [m20 zs[k]] := by
  rw [List.take_succ_eq_append_getElem h, List.map_append]; rfl
theorem krel_step {B : Nat} {W wl w1 : World} {zs : List Int} {K : Int} {q : Bool} {v v' : Value} {k : Nat} {z : Int} (h : k < zs.length) (hzk : zs[k] = z) (hB : B ≤ W.heap.size) (hb : Below B W wl) (hq : ((zs.take k).map m20).any (fun m => K == m) = q) (q' : Bool) (hq' : q' = (q || (K == m20 z))) (o : Obj) (hv : ∀ g, v.ownBlock = some g → B ≤ g)
    (hown : w1.ownsRow B 30 1 v' (k + 1) (((zs.take k).map m20).map (Value.int .i64) ++ [.int .i64 (m20 z)])) (hgrow : (wl.alloc o).grownBy w1 v.ownBlock) :
    KRel B W zs K (.bool q') v' (.int .i64 (k + 1)) w1 := by
  subst hzk
  refine ⟨k + 1, h, rfl, ?_, ?_, ?_⟩
  · rw [take_step zs h, List.any_append, hq, hq']; simp
  · rw [take_step zs h, List.map_append]; exact hown
  · exact (hb.alloc (Nat.le_trans hB hb.size) o).grown hgrow (by have := hb.size; simp; omega) hv

theorem row_out {w : World} {B e n : Nat} {v : Value} {xs : List Value} (h : w.ownsRow B e 1 v n xs) (hn : 0 < n) : ∃ g cap, v = .slice (some ⟨g, 0, none⟩) n cap ∧ ∀ j, j < n → w.cell? ⟨g, j, none⟩ = xs[j]? := by
  rcases h.2 with ⟨_, h0⟩ | ⟨g, cap, cur, rfl, _⟩
  · omega
  · exact ⟨g, cap, rfl, fun j hj => h.cellAt j (by omega)⟩
theorem fis_own {W : World} (E : Value) (r : Int → Bool) (zs : List Int) (g c : Nat) (hlen : zs.length ≤ 1000) (hE : E = .nilIface ∨ ∃ u v, E = .iface u v)
    (hends : Calls Tryd.prog 22 #[E] W fun e w' => e = .returned (.bool true) ∧ Below W.heap.size W w')
    (hm : ∀ (W' : World) (m : Int), Below W.heap.size W W' → Calls Tryd.prog 36 #[E, .int .i64 m] W' fun e w' => e = .returned (.bool (r m)) ∧ Below W'.heap.size W' w')
    (hx : ∀ j, (h : j < zs.length) → W.cell? ⟨g, j, none⟩ = some (.int .i64 (m20 zs[j]))) :
    Calls Tryd.prog 17 #[E, .slice (some ⟨g, 0, none⟩) zs.length c] W fun e w' => e = .returned (.bool ((zs.map m20).any r)) ∧ Below W.heap.size W w' := by
  have h := fis_row (W := W) E r (zs.map m20) g 0 c (by simpa using hlen) hE hends hm (fun j hj => by
    have hj' : j < zs.length := by simpa using hj
    rw [Nat.zero_add, List.getElem_map]
    exact hx j hj')
  rw [List.length_map] at h
  exact h

set_option maxRecDepth 100000 in
set_option maxHeartbeats 4000000 in
theorem kinds_some (v : Value) (l : List (ByteArray × Int)) (n : Int) (zs : List Int) (b off cap : Nat) (h0 : 0 ≤ n) (h1 : n ≤ 255) (hz : ∀ j, (h : j < zs.length) → 0 ≤ zs[j] ∧ zs[j] ≤ 255) (hlz : zs.length ≤ 30) (hne : 0 < zs.length) (hsm : smallB l = true) (W : World) (hL : Links W v l)
    (hc : ∀ j, (h : j < zs.length) → W.cell? ⟨b, off + j, none⟩ = some (.int .u8 zs[j])) (hg : Glob W) (ht : Tab W) :
    Calls Tryd.prog 4 #[v, .int .u8 n, .slice (some ⟨b, off, none⟩) zs.length cap] W fun e w' => e = .returned (.bool true) ∧ Below W.heap.size W w' := by
  have hlen := smallB_len' hsm
  have HL := Lib.hid hL
  have HG := Lib.hid hg
  have HT := Lib.hid ht
  have HS := Lib.hid hsm
  have HC := Lib.hid hc
  have HZ := Lib.hid hz
  obtain ⟨aa, ca, rfl⟩ := hL.slice
  obtain ⟨i0, hi, hz0, hz1, hz2⟩ := info_parts infoErrno
  clear hL hg ht hsm hc hz
  go_enter Tryd.func4, Tryd.ntmps4
  go_wp2_with fail
  refine (small_any _ l HL.out (by omega)).mono ?_
  rw [HS.out]
  rintro e w1 ⟨rfl, hb1⟩
  go_wp2_with fail
  refine (chain_any _ l _ (HL.out.keep hb1) hlen).mono ?_
  rintro e w2 ⟨E, rfl, hE, hb2⟩
  have hx2 := bthen hb1 hb2
  have HE := Lib.hid hE
  obtain ⟨u, x, rfl⟩ := hE.chain.iface
  clear hE hb1 hb2
  go_wp2
  go_loopw [9, 10, 33] (fun q v i wl => KRel w2.heap.size w2 zs (n % 18 + 1) q v i wl) (fun _ _ i _ => zs.length - (intOf i).toNat)
  case atStart => exact ⟨0, Nat.zero_le _, rfl, rfl, World.ownsRow_nil _ _ _ _, Below.refl _ _⟩
  case round =>
    obtain ⟨k, hk, rfl, rfl, hown, hb⟩ := hrel
    have HO := Lib.hid hown
    have HB := Lib.hid hb
    by_cases hlt : k < zs.length
    · have hcell := keepc hb (keepc hx2 (HC.out k hlt))
      have hza := (HZ.out k hlt).1
      have hzb := (HZ.out k hlt).2
      have hsz : w2.heap.size ≤ wr.heap.size := hb.size
      have hown' := hown
      clear hown hb
      generalize hq : (List.map m20 (List.take k zs)).any (fun m => n % 18 + 1 == m) = q
      have HQ := Lib.hid hq
      clear hq
      generalize hzk : zs[k] = z at hcell hza hzb
      have HZK := Lib.hid hzk
      clear hzk
      cases q
      · go_wp2_with (at_builtin; refine wpList_append_own _ rfl _ _ 46 rfl w2.heap.size 30 i0 (.int .i64 0) 1 8 Tryd.underlying46 hi hz0 hz1 hz2 rfl (by decide) _ _ _ rfl (HO.out.alloc _) ⟨wr.heap.size, 0, none⟩ 1 1 [.int .i64 (m20 z)] rfl rfl (one_new _ _ _) (fun x hx => by simp at hx; subst hx; rfl) (by unfold maxLen; omega) (by omega) (by simp; omega) ?_; intro v' w3 hown3 hgrow3 _)
        exact ⟨krel_step hlt HZK.out (Nat.le_refl _) HB.out HQ.out _ (by simp [m20, Bool.beq_comm]) _ (fun g hg => (HO.out.lt g hg).1) hown3 hgrow3, by simp [intOf]; omega⟩
      · go_wp2_with (at_builtin; refine wpList_append_own _ rfl _ _ 46 rfl w2.heap.size 30 i0 (.int .i64 0) 1 8 Tryd.underlying46 hi hz0 hz1 hz2 rfl (by decide) _ _ _ rfl (HO.out.alloc _) ⟨wr.heap.size, 0, none⟩ 1 1 [.int .i64 (m20 z)] rfl rfl (one_new _ _ _) (fun x hx => by simp at hx; subst hx; rfl) (by unfold maxLen; omega) (by omega) (by simp; omega) ?_; intro v' w3 hown3 hgrow3 _)
        exact ⟨krel_step hlt HZK.out (Nat.le_refl _) HB.out HQ.out _ (by simp) _ (fun g hg => (HO.out.lt g hg).1) hown3 hgrow3, by simp [intOf]; omega⟩
    · obtain rfl : k = zs.length := by omega
      clear hlt hown hb
      obtain ⟨g, cg, rfl, hcg⟩ := row_out HO.out hne
      have hcell : ∀ j, (h : j < zs.length) → wr.cell? ⟨g, j, none⟩ = some (.int .i64 (m20 zs[j])) := fun j hj => by
        rw [hcg j hj]
        simp [hj]
      have HCL := Lib.hid hcell
      have hq : (List.map m20 (List.take zs.length zs)).any (fun m => n % 18 + 1 == m) = (zs.map m20).any (fun m => n % 18 + 1 == m) := by rw [List.take_length]
      generalize (List.map m20 (List.take zs.length zs)).any (fun m => n % 18 + 1 == m) = q at hq
      have HQ := Lib.hid hq
      have hx3 := bthen hx2 HB.out
      clear hcg hcell hq
      go_wp2_with fail
      · refine (awake1 (HG.out.keep hx3) (HT.out.keep hx3)).mono ?_
        rintro e w3 ⟨rfl, hb3⟩
        have hx4 := bthen hx3 hb3
        have HE3 := Lib.hid (HE.out.keep (bthen HB.out hb3))
        have HC3 := Lib.hid (fun j (h : j < zs.length) => keepc hb3 (HCL.out j h))
        go_wp2_with fail
        refine (fis_own _ (fun m => n % 18 + 1 == m) zs g cg (by omega) (Or.inr ⟨u, x, rfl⟩) (ends_chain _ l.length _ HE3.out.chain (by omega)) (fun W' m hb => matches_any _ l.length _ m (HE3.out.keep hb).chain) HC3.out).mono ?_
        rw [← HQ.out]
        rintro e w4 ⟨rfl, hb4⟩
        have hx5 := bthen hx4 hb4
        go_wp2_with fail
        refine (grave_chain _ l.length _ (HE3.out.keep hb4).chain (by omega) (HG.out.keep hx5) (by omega)).mono ?_
        rw [show (!([10, 11, 12, 14].any (fun m : Int => n % 18 + 1 == m))) = false by rw [show n % 18 + 1 = 10 by assumption]; rfl]
        rintro e w5 ⟨rfl, hb5⟩
        have hx6 := bthen hx5 hb5
        have hy5 := bthen hb4 hb5
        go_wp2_with fail
        refine (fis_own .nilIface (fun _ => false) zs g cg (by omega) (Or.inl rfl) (ends_nil.mono fun e w' h => ⟨h.1, h.2 ▸ Below.refl _ _⟩) (fun W' m _ => matches_nil m) (fun j hj => keepc hy5 (HC3.out j hj))).mono ?_
        rw [any_false]
        rintro e w6 ⟨rfl, hb6⟩
        have hx7 := bthen hx6 hb6
        go_wp2_with fail
        refine grave_nil.mono ?_
        rintro e w7 ⟨rfl, hb7⟩
        have hx8 := bthen hx7 hb7
        go_wp2_with fail
        refine (wrap_nil _ _).mono ?_
        rintro e w7x ⟨rfl, rfl⟩
        go_wp2_with fail
        refine code_nil.mono ?_
        rintro e w8 ⟨rfl, hb8⟩
        have hx9 := bthen hx8 hb8
        go_wp2_with fail
        refine deep_nil.mono ?_
        rintro e w9 ⟨rfl, hb9⟩
        have hx10 := bthen hx9 hb9
        go_wp2_with fail
        refine unwrap_none.mono ?_
        rintro e w9x ⟨rfl, rfl⟩
        go_wp2_with fail
        refine error_none.mono ?_
        rintro e w10 ⟨rfl, hb10⟩
        have hx11 := bthen hx10 hb10
        go_wp2
        go_ret
        exact ⟨rfl, hx11⟩
      · refine (awake1 (HG.out.keep hx3) (HT.out.keep hx3)).mono ?_
        rintro e w3 ⟨rfl, hb3⟩
        have hx4 := bthen hx3 hb3
        have HE3 := Lib.hid (HE.out.keep (bthen HB.out hb3))
        have HC3 := Lib.hid (fun j (h : j < zs.length) => keepc hb3 (HCL.out j h))
        go_wp2_with fail
        refine (fis_own _ (fun m => n % 18 + 1 == m) zs g cg (by omega) (Or.inr ⟨u, x, rfl⟩) (ends_chain _ l.length _ HE3.out.chain (by omega)) (fun W' m hb => matches_any _ l.length _ m (HE3.out.keep hb).chain) HC3.out).mono ?_
        rw [← HQ.out]
        rintro e w4 ⟨rfl, hb4⟩
        have hx5 := bthen hx4 hb4
        go_wp2_with fail
        refine (grave_chain _ l.length _ (HE3.out.keep hb4).chain (by omega) (HG.out.keep hx5) (by omega)).mono ?_
        rw [show (!([10, 11, 12, 14].any (fun m : Int => n % 18 + 1 == m))) = false by rw [show n % 18 + 1 = 11 by assumption]; rfl]
        rintro e w5 ⟨rfl, hb5⟩
        have hx6 := bthen hx5 hb5
        have hy5 := bthen hb4 hb5
        go_wp2_with fail
        refine (fis_own .nilIface (fun _ => false) zs g cg (by omega) (Or.inl rfl) (ends_nil.mono fun e w' h => ⟨h.1, h.2 ▸ Below.refl _ _⟩) (fun W' m _ => matches_nil m) (fun j hj => keepc hy5 (HC3.out j hj))).mono ?_
        rw [any_false]
        rintro e w6 ⟨rfl, hb6⟩
        have hx7 := bthen hx6 hb6
        go_wp2_with fail
        refine grave_nil.mono ?_
        rintro e w7 ⟨rfl, hb7⟩
        have hx8 := bthen hx7 hb7
        go_wp2_with fail
        refine (wrap_nil _ _).mono ?_
        rintro e w7x ⟨rfl, rfl⟩
        go_wp2_with fail
        refine code_nil.mono ?_
        rintro e w8 ⟨rfl, hb8⟩
        have hx9 := bthen hx8 hb8
        go_wp2_with fail
        refine deep_nil.mono ?_
        rintro e w9 ⟨rfl, hb9⟩
        have hx10 := bthen hx9 hb9
        go_wp2_with fail
        refine unwrap_none.mono ?_
        rintro e w9x ⟨rfl, rfl⟩
        go_wp2_with fail
        refine error_none.mono ?_
        rintro e w10 ⟨rfl, hb10⟩
        have hx11 := bthen hx10 hb10
        go_wp2
        go_ret
        exact ⟨rfl, hx11⟩
      · refine (awake1 (HG.out.keep hx3) (HT.out.keep hx3)).mono ?_
        rintro e w3 ⟨rfl, hb3⟩
        have hx4 := bthen hx3 hb3
        have HE3 := Lib.hid (HE.out.keep (bthen HB.out hb3))
        have HC3 := Lib.hid (fun j (h : j < zs.length) => keepc hb3 (HCL.out j h))
        go_wp2_with fail
        refine (fis_own _ (fun m => n % 18 + 1 == m) zs g cg (by omega) (Or.inr ⟨u, x, rfl⟩) (ends_chain _ l.length _ HE3.out.chain (by omega)) (fun W' m hb => matches_any _ l.length _ m (HE3.out.keep hb).chain) HC3.out).mono ?_
        rw [← HQ.out]
        rintro e w4 ⟨rfl, hb4⟩
        have hx5 := bthen hx4 hb4
        go_wp2_with fail
        refine (grave_chain _ l.length _ (HE3.out.keep hb4).chain (by omega) (HG.out.keep hx5) (by omega)).mono ?_
        rw [show (!([10, 11, 12, 14].any (fun m : Int => n % 18 + 1 == m))) = false by rw [show n % 18 + 1 = 12 by assumption]; rfl]
        rintro e w5 ⟨rfl, hb5⟩
        have hx6 := bthen hx5 hb5
        have hy5 := bthen hb4 hb5
        go_wp2_with fail
        refine (fis_own .nilIface (fun _ => false) zs g cg (by omega) (Or.inl rfl) (ends_nil.mono fun e w' h => ⟨h.1, h.2 ▸ Below.refl _ _⟩) (fun W' m _ => matches_nil m) (fun j hj => keepc hy5 (HC3.out j hj))).mono ?_
        rw [any_false]
        rintro e w6 ⟨rfl, hb6⟩
        have hx7 := bthen hx6 hb6
        go_wp2_with fail
        refine grave_nil.mono ?_
        rintro e w7 ⟨rfl, hb7⟩
        have hx8 := bthen hx7 hb7
        go_wp2_with fail
        refine (wrap_nil _ _).mono ?_
        rintro e w7x ⟨rfl, rfl⟩
        go_wp2_with fail
        refine code_nil.mono ?_
        rintro e w8 ⟨rfl, hb8⟩
        have hx9 := bthen hx8 hb8
        go_wp2_with fail
        refine deep_nil.mono ?_
        rintro e w9 ⟨rfl, hb9⟩
        have hx10 := bthen hx9 hb9
        go_wp2_with fail
        refine unwrap_none.mono ?_
        rintro e w9x ⟨rfl, rfl⟩
        go_wp2_with fail
        refine error_none.mono ?_
        rintro e w10 ⟨rfl, hb10⟩
        have hx11 := bthen hx10 hb10
        go_wp2
        go_ret
        exact ⟨rfl, hx11⟩
      · have hgr : (!([10, 11, 12, 14].any (fun m : Int => n % 18 + 1 == m))) = (n % 18 + 1 != 10 && n % 18 + 1 != 11 && n % 18 + 1 != 12 && n % 18 + 1 != 14) := by
          simp [List.any, bne, Bool.and_assoc]
        generalize (n % 18 + 1 != 10 && n % 18 + 1 != 11 && n % 18 + 1 != 12 && n % 18 + 1 != 14) = gv at hgr ⊢
        have HGR := Lib.hid hgr
        clear hgr
        refine (awake1 (HG.out.keep hx3) (HT.out.keep hx3)).mono ?_
        rintro e w3 ⟨rfl, hb3⟩
        have hx4 := bthen hx3 hb3
        have HE3 := Lib.hid (HE.out.keep (bthen HB.out hb3))
        have HC3 := Lib.hid (fun j (h : j < zs.length) => keepc hb3 (HCL.out j h))
        go_wp2_with fail
        refine (fis_own _ (fun m => n % 18 + 1 == m) zs g cg (by omega) (Or.inr ⟨u, x, rfl⟩) (ends_chain _ l.length _ HE3.out.chain (by omega)) (fun W' m hb => matches_any _ l.length _ m (HE3.out.keep hb).chain) HC3.out).mono ?_
        rw [← HQ.out]
        rintro e w4 ⟨rfl, hb4⟩
        have hx5 := bthen hx4 hb4
        go_wp2_with fail
        refine (grave_chain _ l.length _ (HE3.out.keep hb4).chain (by omega) (HG.out.keep hx5) (by omega)).mono ?_
        rw [HGR.out]
        rintro e w5 ⟨rfl, hb5⟩
        have hx6 := bthen hx5 hb5
        have hy5 := bthen hb4 hb5
        go_wp2_with fail
        refine (fis_own .nilIface (fun _ => false) zs g cg (by omega) (Or.inl rfl) (ends_nil.mono fun e w' h => ⟨h.1, h.2 ▸ Below.refl _ _⟩) (fun W' m _ => matches_nil m) (fun j hj => keepc hy5 (HC3.out j hj))).mono ?_
        rw [any_false]
        rintro e w6 ⟨rfl, hb6⟩
        have hx7 := bthen hx6 hb6
        go_wp2_with fail
        refine grave_nil.mono ?_
        rintro e w7 ⟨rfl, hb7⟩
        have hx8 := bthen hx7 hb7
        go_wp2_with fail
        refine (wrap_nil _ _).mono ?_
        rintro e w7x ⟨rfl, rfl⟩
        go_wp2_with fail
        refine code_nil.mono ?_
        rintro e w8 ⟨rfl, hb8⟩
        have hx9 := bthen hx8 hb8
        go_wp2_with fail
        refine deep_nil.mono ?_
        rintro e w9 ⟨rfl, hb9⟩
        have hx10 := bthen hx9 hb9
        go_wp2_with fail
        refine unwrap_none.mono ?_
        rintro e w9x ⟨rfl, rfl⟩
        go_wp2_with fail
        refine error_none.mono ?_
        rintro e w10 ⟨rfl, hb10⟩
        have hx11 := bthen hx10 hb10
        go_wp2
        go_ret
        exact ⟨rfl, hx11⟩

set_option maxRecDepth 100000 in
set_option maxHeartbeats 4000000 in
theorem kinds_none (v : Value) (l : List (ByteArray × Int)) (n : Int) (bb : Option Addr) (cap : Nat) (h0 : 0 ≤ n) (h1 : n ≤ 255) (hsm : smallB l = true) (W : World) (hL : Links W v l) (hg : Glob W) (ht : Tab W) :
    Calls Tryd.prog 4 #[v, .int .u8 n, .slice bb 0 cap] W fun e w' => e = .returned (.bool true) ∧ Below W.heap.size W w' := by
  have hlen := smallB_len' hsm
  have HL := Lib.hid hL
  have HG := Lib.hid hg
  have HT := Lib.hid ht
  have HS := Lib.hid hsm
  obtain ⟨aa, ca, rfl⟩ := hL.slice
  clear hL hg ht hsm
  go_enter Tryd.func4, Tryd.ntmps4
  go_wp2_with fail
  refine (small_any _ l HL.out (by omega)).mono ?_
  rw [HS.out]
  rintro e w1 ⟨rfl, hb1⟩
  go_wp2_with fail
  refine (chain_any _ l _ (HL.out.keep hb1) hlen).mono ?_
  rintro e w2 ⟨E, rfl, hE, hb2⟩
  have hx2 := bthen hb1 hb2
  have HE := Lib.hid hE
  obtain ⟨u, x, rfl⟩ := hE.chain.iface
  clear hE hb1 hb2
  go_wp2_with fail
  refine wp_loop_rounds 1 ?_
  rw [rounds_succ]
  go_wp2_with fail
  · refine (awake1 (HG.out.keep hx2) (HT.out.keep hx2)).mono ?_
    rintro e w3 ⟨rfl, hb3⟩
    have hx4 := bthen hx2 hb3
    have HE3 := Lib.hid (HE.out.keep hb3)
    go_wp2_with fail
    refine (fis_none _ (Or.inr ⟨u, x, rfl⟩) (ends_chain _ l.length _ HE3.out.chain (by omega))).mono ?_
    rintro e w4 ⟨rfl, hb4⟩
    have hx5 := bthen hx4 hb4
    go_wp2_with fail
    refine (grave_chain _ l.length _ (HE3.out.keep hb4).chain (by omega) (HG.out.keep hx5) (by omega)).mono ?_
    rw [show (!([10, 11, 12, 14].any (fun m : Int => n % 18 + 1 == m))) = false by rw [show n % 18 + 1 = 10 by assumption]; rfl]
    rintro e w5 ⟨rfl, hb5⟩
    have hx6 := bthen hx5 hb5
    have hy5 := bthen hb4 hb5
    go_wp2_with fail
    refine (fis_none .nilIface (Or.inl rfl) (ends_nil.mono fun e w' h => ⟨h.1, h.2 ▸ Below.refl _ _⟩)).mono ?_
    rintro e w6 ⟨rfl, hb6⟩
    have hx7 := bthen hx6 hb6
    go_wp2_with fail
    refine grave_nil.mono ?_
    rintro e w7 ⟨rfl, hb7⟩
    have hx8 := bthen hx7 hb7
    go_wp2_with fail
    refine (wrap_nil _ _).mono ?_
    rintro e w7x ⟨rfl, rfl⟩
    go_wp2_with fail
    refine code_nil.mono ?_
    rintro e w8 ⟨rfl, hb8⟩
    have hx9 := bthen hx8 hb8
    go_wp2_with fail
    refine deep_nil.mono ?_
    rintro e w9 ⟨rfl, hb9⟩
    have hx10 := bthen hx9 hb9
    go_wp2_with fail
    refine unwrap_none.mono ?_
    rintro e w9x ⟨rfl, rfl⟩
    go_wp2_with fail
    refine error_none.mono ?_
    rintro e w10 ⟨rfl, hb10⟩
    have hx11 := bthen hx10 hb10
    go_wp2
    go_ret
    exact ⟨rfl, hx11⟩
  · refine (awake1 (HG.out.keep hx2) (HT.out.keep hx2)).mono ?_
    rintro e w3 ⟨rfl, hb3⟩
    have hx4 := bthen hx2 hb3
    have HE3 := Lib.hid (HE.out.keep hb3)
    go_wp2_with fail
    refine (fis_none _ (Or.inr ⟨u, x, rfl⟩) (ends_chain _ l.length _ HE3.out.chain (by omega))).mono ?_
    rintro e w4 ⟨rfl, hb4⟩
    have hx5 := bthen hx4 hb4
    go_wp2_with fail
    refine (grave_chain _ l.length _ (HE3.out.keep hb4).chain (by omega) (HG.out.keep hx5) (by omega)).mono ?_
    rw [show (!([10, 11, 12, 14].any (fun m : Int => n % 18 + 1 == m))) = false by rw [show n % 18 + 1 = 11 by assumption]; rfl]
    rintro e w5 ⟨rfl, hb5⟩
    have hx6 := bthen hx5 hb5
    have hy5 := bthen hb4 hb5
    go_wp2_with fail
    refine (fis_none .nilIface (Or.inl rfl) (ends_nil.mono fun e w' h => ⟨h.1, h.2 ▸ Below.refl _ _⟩)).mono ?_
    rintro e w6 ⟨rfl, hb6⟩
    have hx7 := bthen hx6 hb6
    go_wp2_with fail
    refine grave_nil.mono ?_
    rintro e w7 ⟨rfl, hb7⟩
    have hx8 := bthen hx7 hb7
    go_wp2_with fail
    refine (wrap_nil _ _).mono ?_
    rintro e w7x ⟨rfl, rfl⟩
    go_wp2_with fail
    refine code_nil.mono ?_
    rintro e w8 ⟨rfl, hb8⟩
    have hx9 := bthen hx8 hb8
    go_wp2_with fail
    refine deep_nil.mono ?_
    rintro e w9 ⟨rfl, hb9⟩
    have hx10 := bthen hx9 hb9
    go_wp2_with fail
    refine unwrap_none.mono ?_
    rintro e w9x ⟨rfl, rfl⟩
    go_wp2_with fail
    refine error_none.mono ?_
    rintro e w10 ⟨rfl, hb10⟩
    have hx11 := bthen hx10 hb10
    go_wp2
    go_ret
    exact ⟨rfl, hx11⟩
  · refine (awake1 (HG.out.keep hx2) (HT.out.keep hx2)).mono ?_
    rintro e w3 ⟨rfl, hb3⟩
    have hx4 := bthen hx2 hb3
    have HE3 := Lib.hid (HE.out.keep hb3)
    go_wp2_with fail
    refine (fis_none _ (Or.inr ⟨u, x, rfl⟩) (ends_chain _ l.length _ HE3.out.chain (by omega))).mono ?_
    rintro e w4 ⟨rfl, hb4⟩
    have hx5 := bthen hx4 hb4
    go_wp2_with fail
    refine (grave_chain _ l.length _ (HE3.out.keep hb4).chain (by omega) (HG.out.keep hx5) (by omega)).mono ?_
    rw [show (!([10, 11, 12, 14].any (fun m : Int => n % 18 + 1 == m))) = false by rw [show n % 18 + 1 = 12 by assumption]; rfl]
    rintro e w5 ⟨rfl, hb5⟩
    have hx6 := bthen hx5 hb5
    have hy5 := bthen hb4 hb5
    go_wp2_with fail
    refine (fis_none .nilIface (Or.inl rfl) (ends_nil.mono fun e w' h => ⟨h.1, h.2 ▸ Below.refl _ _⟩)).mono ?_
    rintro e w6 ⟨rfl, hb6⟩
    have hx7 := bthen hx6 hb6
    go_wp2_with fail
    refine grave_nil.mono ?_
    rintro e w7 ⟨rfl, hb7⟩
    have hx8 := bthen hx7 hb7
    go_wp2_with fail
    refine (wrap_nil _ _).mono ?_
    rintro e w7x ⟨rfl, rfl⟩
    go_wp2_with fail
    refine code_nil.mono ?_
    rintro e w8 ⟨rfl, hb8⟩
    have hx9 := bthen hx8 hb8
    go_wp2_with fail
    refine deep_nil.mono ?_
    rintro e w9 ⟨rfl, hb9⟩
    have hx10 := bthen hx9 hb9
    go_wp2_with fail
    refine unwrap_none.mono ?_
    rintro e w9x ⟨rfl, rfl⟩
    go_wp2_with fail
    refine error_none.mono ?_
    rintro e w10 ⟨rfl, hb10⟩
    have hx11 := bthen hx10 hb10
    go_wp2
    go_ret
    exact ⟨rfl, hx11⟩
  · have hgr : (!([10, 11, 12, 14].any (fun m : Int => n % 18 + 1 == m))) = (n % 18 + 1 != 10 && n % 18 + 1 != 11 && n % 18 + 1 != 12 && n % 18 + 1 != 14) := by
      simp [List.any, bne, Bool.and_assoc]
    generalize (n % 18 + 1 != 10 && n % 18 + 1 != 11 && n % 18 + 1 != 12 && n % 18 + 1 != 14) = gv at hgr ⊢
    have HGR := Lib.hid hgr
    clear hgr
    refine (awake1 (HG.out.keep hx2) (HT.out.keep hx2)).mono ?_
    rintro e w3 ⟨rfl, hb3⟩
    have hx4 := bthen hx2 hb3
    have HE3 := Lib.hid (HE.out.keep hb3)
    go_wp2_with fail
    refine (fis_none _ (Or.inr ⟨u, x, rfl⟩) (ends_chain _ l.length _ HE3.out.chain (by omega))).mono ?_
    rintro e w4 ⟨rfl, hb4⟩
    have hx5 := bthen hx4 hb4
    go_wp2_with fail
    refine (grave_chain _ l.length _ (HE3.out.keep hb4).chain (by omega) (HG.out.keep hx5) (by omega)).mono ?_
    rw [HGR.out]
    rintro e w5 ⟨rfl, hb5⟩
    have hx6 := bthen hx5 hb5
    have hy5 := bthen hb4 hb5
    go_wp2_with fail
    refine (fis_none .nilIface (Or.inl rfl) (ends_nil.mono fun e w' h => ⟨h.1, h.2 ▸ Below.refl _ _⟩)).mono ?_
    rintro e w6 ⟨rfl, hb6⟩
    have hx7 := bthen hx6 hb6
    go_wp2_with fail
    refine grave_nil.mono ?_
    rintro e w7 ⟨rfl, hb7⟩
    have hx8 := bthen hx7 hb7
    go_wp2_with fail
    refine (wrap_nil _ _).mono ?_
    rintro e w7x ⟨rfl, rfl⟩
    go_wp2_with fail
    refine code_nil.mono ?_
    rintro e w8 ⟨rfl, hb8⟩
    have hx9 := bthen hx8 hb8
    go_wp2_with fail
    refine deep_nil.mono ?_
    rintro e w9 ⟨rfl, hb9⟩
    have hx10 := bthen hx9 hb9
    go_wp2_with fail
    refine unwrap_none.mono ?_
    rintro e w9x ⟨rfl, rfl⟩
    go_wp2_with fail
    refine error_none.mono ?_
    rintro e w10 ⟨rfl, hb10⟩
    have hx11 := bthen hx10 hb10
    go_wp2
    go_ret
    exact ⟨rfl, hx11⟩
end Go.Proofs.YtekligmejngkaaaDoor
