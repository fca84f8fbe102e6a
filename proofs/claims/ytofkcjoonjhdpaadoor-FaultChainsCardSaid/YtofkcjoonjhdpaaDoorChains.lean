/-
  FaultChains: the walk where there is no link. Condition: the library's own two variables hold what they hold from the start.
-/
import Derived.Test.YtofkcjoonjhdpaaDoorRefText
namespace Go.Proofs.YtofkcjoonjhdpaaDoor
open Go.RowKit Go.Extern.Stop Go.Stop Go.Extern

theorem beq_off (K : Int) : (K == K + 1) = false := by simp; omega

set_option maxRecDepth 100000 in
set_option maxHeartbeats 1000000 in
theorem chains_nil (v : Value) (l : List (ByteArray × Int)) (n : Int) (hl : l = []) (h0 : 0 ≤ n) (h1 : n ≤ 255) (hsm : smallB l = true) (W : World) (hL : Links W v l) (hg : Glob W) (ht : Tab W) :
    Calls Tryd.prog 3 #[v, .int .u8 n] W fun e w' => e = .returned (.bool true) ∧ Below W.heap.size W w' := by
  have hlen : l.length ≤ 0 := by rw [hl]; exact Nat.le_refl _
  have HLE := Lib.hid hl
  clear hl
  have HL := Lib.hid hL
  have HG := Lib.hid hg
  have HT := Lib.hid ht
  have HS := Lib.hid hsm
  obtain ⟨aa, cap, rfl⟩ := hL.slice
  clear hL hg ht hsm
  go_enter Tryd.func3, Tryd.ntmps3
  go_wp2_with fail
  refine (small_any _ l HL.out (by omega)).mono ?_
  rw [HS.out]
  rintro e w1 ⟨rfl, hb1⟩
  go_wp2_with fail
  refine (chain_any _ l _ (HL.out.keep hb1) (by omega)).mono ?_
  rintro e w2 ⟨E, rfl, hE, hb2⟩
  have hx2 := bthen hb1 hb2
  have HE := Lib.hid hE
  obtain ⟨u, x, rfl⟩ := hE.chain.iface
  clear hE hb1 hb2
  go_wp2_with fail
  refine (at_nil _ l _ HE.out (by omega) (HG.out.keep hx2) HLE.out).mono ?_
  rintro e w3 ⟨rfl, hb3⟩
  have hx3 := bthen hx2 hb3
  go_wp2_with fail
  refine (code_chain _ l.length _ (HE.out.keep hb3).chain (by omega) (HG.out.keep hx3)).mono ?_
  rintro e w4 ⟨rfl, hb4⟩
  have hx4 := bthen hx3 hb4
  have hy4 := bthen hb3 hb4
  go_wp2_with fail
  refine (deep_list _ _ _ (HE.out.keep hy4) (by omega) (HG.out.keep hx4)).mono ?_
  rintro e w5 ⟨rfl, hb5⟩
  have hx5 := bthen hx4 hb5
  have hy5 := bthen hy4 hb5
  go_wp2_with fail
  refine (lis_chain _ l.length _ _ (HE.out.keep hy5).chain (by omega)).mono ?_
  rw [beq_self_eq_true]
  rintro e w5x ⟨rfl, rfl⟩
  go_wp2_with fail
  refine (lis_chain _ l.length _ _ (HE.out.keep hy5).chain (by omega)).mono ?_
  rw [beq_off]
  rintro e w5x ⟨rfl, rfl⟩
  go_wp2_with fail
  refine (lis_zero _ _).mono ?_
  rintro e w5x ⟨rfl, rfl⟩
  go_wp2_with fail
  refine (awake1 (HG.out.keep hx5) (HT.out.keep hx5)).mono ?_
  rintro e w6 ⟨rfl, hb6⟩
  go_wp2
  go_ret
  exact ⟨rfl, bthen hx5 hb6⟩
end Go.Proofs.YtofkcjoonjhdpaaDoor
