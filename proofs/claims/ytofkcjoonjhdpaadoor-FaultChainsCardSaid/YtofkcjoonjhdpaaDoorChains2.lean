/-
  FaultChains: the walk where there are links. Condition: the library's own two variables hold what they hold from the start.
-/
import Derived.Test.YtofkcjoonjhdpaaDoorChains
import Derived.Deep.RegionHeld3
import Derived.Deep.QuietTactic
import Derived.BigQuiet
namespace Go.Proofs.YtofkcjoonjhdpaaDoor
open Go.RowKit Go.Extern.Stop Go.Stop Go.Extern

theorem smallB_len {l : List (ByteArray × Int)} (h : smallB l = true) : l.length ≤ 50 := by
  unfold smallB at h
  rw [Bool.and_eq_true] at h
  simpa using h.1
theorem s9 {a b c d e f g h B : Prop} (x : a ∧ b ∧ c ∧ d ∧ e ∧ f ∧ g ∧ h ∧ B) : B := x.2.2.2.2.2.2.2.2
theorem u9 {a b c d e f g h B : Prop} (x : a ∧ b ∧ c ∧ d ∧ e ∧ f ∧ g ∧ h ∧ B) : f := x.2.2.2.2.2.1
theorem held9 {w6 a w' : World} {p1 p2 p3 p4 p5 p6 p7 p8 o1 o2 o3 o4 o5 o6 o7 o8 : Nat} {v1 v2 v3 v4 v5 v6 v7 v8 : Value} (hb : Below a.heap.size a w')
    (h : a.cell? ⟨p1, o1, none⟩ = some v1 ∧ a.cell? ⟨p2, o2, none⟩ = some v2 ∧ a.cell? ⟨p3, o3, none⟩ = some v3 ∧ a.cell? ⟨p4, o4, none⟩ = some v4 ∧ a.cell? ⟨p5, o5, none⟩ = some v5 ∧ a.cell? ⟨p6, o6, none⟩ = some v6 ∧ a.cell? ⟨p7, o7, none⟩ = some v7 ∧ a.cell? ⟨p8, o8, none⟩ = some v8 ∧ Below w6.heap.size w6 a) :
    w'.cell? ⟨p1, o1, none⟩ = some v1 ∧ w'.cell? ⟨p2, o2, none⟩ = some v2 ∧ w'.cell? ⟨p3, o3, none⟩ = some v3 ∧ w'.cell? ⟨p4, o4, none⟩ = some v4 ∧ w'.cell? ⟨p5, o5, none⟩ = some v5 ∧ w'.cell? ⟨p6, o6, none⟩ = some v6 ∧ w'.cell? ⟨p7, o7, none⟩ = some v7 ∧ w'.cell? ⟨p8, o8, none⟩ = some v8 ∧ Below w6.heap.size w6 w' :=
  ⟨keepc hb h.1, keepc hb h.2.1, keepc hb h.2.2.1, keepc hb h.2.2.2.1, keepc hb h.2.2.2.2.1, keepc hb h.2.2.2.2.2.1, keepc hb h.2.2.2.2.2.2.1, keepc hb h.2.2.2.2.2.2.2.1, bthen h.2.2.2.2.2.2.2.2 hb⟩
theorem text_at {W : World} (b off cap : Nat) (l : List (ByteArray × Int)) (m : Nat) (n : Int) (hm : l.length = m + 1) (hc : LinkCells W b off l) (hs : Small l) (hl : m + 1 ≤ 60) (h1 : 1 ≤ n) (h2 : n ≤ 18) :
    Calls Tryd.prog 13 #[.slice (some ⟨b, off, none⟩) (m + 1) cap, .int .i64 n] W fun e w' => e = .returned (.string ⟨(textL l n).toArray⟩) ∧ Below W.heap.size W w' := by
  have := text_some b off cap l n hc hs (by omega) h1 h2
  rwa [hm] at this
theorem chain_block {W : World} {E : Value} {x : ByteArray × Int} {t : List (ByteArray × Int)} {n : Int} (h : ChainL W E (x :: t) n) :
    ∃ b u v, E = .iface 36 (.pointer (some ⟨b, 0, none⟩)) ∧ W.heap[b]? = some (.cells #[.string x.1, .int .i64 x.2, .iface u v] 40 (0, 0)) := by
  cases h with
  | fault b op seq E l n h0 hc =>
    obtain ⟨u, v, rfl⟩ := hc.chain.iface
    exact ⟨b, u, v, rfl, h0⟩

set_option maxRecDepth 100000 in
set_option maxHeartbeats 2000000 in
theorem chains_some (l : List (ByteArray × Int)) (m : Nat) (n : Int) (x0 : ByteArray × Int) (t p : List (ByteArray × Int)) (o : ByteArray) (s : Int) (hm : l.length = m + 1) (hx : l = x0 :: t) (hl : l = p ++ [(o, s)]) (b off cap : Nat) (h0 : 0 ≤ n) (h1 : n ≤ 255) (hsm : smallB l = true) (hsl : Small l) (W : World) (hC : LinkCells W b off l) (hg : Glob W) (ht : Tab W) :
    Calls Tryd.prog 3 #[.slice (some ⟨b, off, none⟩) (m + 1) cap, .int .u8 n] W fun e w' => e = .returned (.bool true) ∧ Below W.heap.size W w' := by
  have hlen : m + 1 ≤ 50 := hm ▸ smallB_len hsm
  have HM := Lib.hid hm
  have HSL := Lib.hid hsl
  clear hsl
  have HX := Lib.hid hx
  have HLE := Lib.hid hl
  have hL : Links W (.slice (some ⟨b, off, none⟩) (m + 1) cap) l := Or.inr ⟨by rw [hx]; simp, b, off, cap, by rw [hm], hC⟩
  have hf0 := (hC 0 (by omega)).1
  have hf1 := (hC 0 (by omega)).2
  have hz0 := (hC m (by omega)).1
  have hz1 := (hC m (by omega)).2
  simp only [hx, List.getElem_cons_zero, Nat.zero_mul, Nat.add_zero] at hf0 hf1
  have hlast : l[m]'(by omega) = (o, s) := by
    have : l[m]? = some (o, s) := by rw [hl]; rw [hl] at hm; simp at hm; simp [hm]
    exact (List.getElem?_eq_some_iff.1 this).2
  rw [hlast] at hz0 hz1
  have HC := Lib.hid hC
  have HF0 := Lib.hid hf0
  have HF1 := Lib.hid hf1
  have HZ0 := Lib.hid hz0
  have HZ1 := Lib.hid hz1
  have HL := Lib.hid hL
  have HG := Lib.hid hg
  have HT := Lib.hid ht
  have HS := Lib.hid hsm
  clear hL hg ht hsm hlast hf0 hf1 hz0 hz1 hC hl hx hm
  go_enter Tryd.func3, Tryd.ntmps3
  go_wp2_with fail
  refine (small_any _ l HL.out (by have := HM.out; omega)).mono ?_
  rw [HS.out]
  rintro e w1 ⟨rfl, hb1⟩
  go_wp2_with fail
  refine (chain_any _ l _ (HL.out.keep hb1) (by have := HM.out; omega)).mono ?_
  rintro e w2 ⟨E, rfl, hE, hb2⟩
  have hx2 := bthen hb1 hb2
  have hE' := hE
  rw [HX.out] at hE'
  obtain ⟨fb, u, x, rfl, hF⟩ := chain_block hE'
  have HE := Lib.hid hE
  have HF := Lib.hid hF
  clear hE hb1 hb2 hE' hF
  go_wp2_with fail
  refine (at_last _ l _ HE.out (by have := HM.out; omega) (HG.out.keep hx2) p o s HLE.out).mono ?_
  rintro e w3 ⟨rfl, hb3⟩
  have hx3 := bthen hx2 hb3
  go_wp2_with fail
  refine (code_chain _ l.length _ (HE.out.keep hb3).chain (by have := HM.out; omega) (HG.out.keep hx3)).mono ?_
  rintro e w4 ⟨rfl, hb4⟩
  have hx4 := bthen hx3 hb4
  have hy4 := bthen hb3 hb4
  go_wp2_with fail
  refine (deep_list _ _ _ (HE.out.keep hy4) (by have := HM.out; omega) (HG.out.keep hx4)).mono ?_
  rw [HM.out]
  rintro e w5 ⟨rfl, hb5⟩
  have hx5 := bthen hx4 hb5
  have hy5 := bthen hy4 hb5
  go_wp2_with fail
  refine (lis_chain _ l.length _ _ (HE.out.keep hy5).chain (by omega)).mono ?_
  rw [beq_self_eq_true]
  rintro e w5x ⟨rfl, rfl⟩
  go_wp2_with fail
  refine (lis_chain _ l.length _ _ (HE.out.keep hy5).chain (by omega)).mono ?_
  rw [beq_off]
  rintro e w5x ⟨rfl, rfl⟩
  have ez0 := keepc hx5 HZ0.out
  have ez1 := keepc hx5 HZ1.out
  go_wp2_with fail
  refine (lis_zero _ _).mono ?_
  rintro e w5x ⟨rfl, rfl⟩
  go_wp2_with fail
  refine (As_fault ⟨fb, 0, none⟩ (w5.heap.size + 1) (.pointer none) ((HG.out.keep hx5).keep (balloc (balloc (Below.refl _ _) _) _)) (new_cell (by simp)) (new_frozen (by simp))).mono ?_
  rintro e w6 ⟨rfl, w6', hb6', hw6⟩
  have hp6 : Put ((w5.alloc (.cells #[.string o, .int .i64 s] 35)).alloc (.cells #[.pointer none] 36)) (w5.heap.size + 1) (.pointer (some ⟨fb, 0, none⟩)) w6 := hw6 ▸ put_set hb6' (new_cell (by simp)) (new_frozen (by simp)) _
  have hb6 : Below w5.heap.size w5 w6 := put_from hp6 (balloc (balloc (Below.refl _ _) _) _) (by omega)
  have hc6 := hp6.2.2.1
  have hl0 : w6.cell? ⟨w5.heap.size, 0, none⟩ = some (.string o) := (hp6.1.cell (p := ⟨w5.heap.size, 0, none⟩) (by simp)).trans (by go_simp)
  have hl1 : w6.cell? ⟨w5.heap.size, 1, none⟩ = some (.int .i64 s) := (hp6.1.cell (p := ⟨w5.heap.size, 1, none⟩) (by simp)).trans (by go_simp)
  have hx6 := bthen hx5 hb6
  have hy6 := bthen hy5 hb6
  have hS : w6.cell? ⟨w5.heap.size, 0, none⟩ = some (.string o) ∧ w6.cell? ⟨w5.heap.size, 1, none⟩ = some (.int .i64 s) ∧ w6.cell? ⟨w5.heap.size + 1, 0, none⟩ = some (.pointer (some ⟨fb, 0, none⟩)) ∧ w6.cell? ⟨fb, 0, none⟩ = some (.string x0.1) ∧ w6.cell? ⟨fb, 1, none⟩ = some (.int .i64 x0.2) ∧ w6.cell? ⟨fb, 2, none⟩ = some (.iface u x) ∧ w6.cell? ⟨b, off, none⟩ = some (.string x0.1) ∧ w6.cell? ⟨b, off + 1, none⟩ = some (.int .i64 x0.2) ∧ Below w6.heap.size w6 w6 :=
    ⟨hl0, hl1, hc6, keepc hy6 (heap_cell HF.out 0), keepc hy6 (heap_cell HF.out 1), keepc hy6 (heap_cell HF.out 2), keepc hx6 HF0.out, keepc hx6 HF1.out, Below.refl _ _⟩
  clear hw6 hb6' hp6 ez0 ez1 hc6 hl0 hl1
  have HG6 := Lib.hid (HG.out.keep hx6)
  have HT6 := Lib.hid (HT.out.keep hx6)
  have HE6 := Lib.hid (HE.out.keep hy6)
  have HC6 := Lib.hid (fun (j : Nat) (hj : j < l.length) => And.intro (keepc hx6 (HC.out j hj).1) (keepc hx6 (HC.out j hj).2))
  have HB6 := Lib.hid hx6
  have hk : 1 ≤ n % 18 + 1 ∧ n % 18 + 1 ≤ 18 := by omega
  clear hb3 hb4 hb5 hb6 hx2 hx3 hx4 hx5 hx6 hy4 hy5 hy6 HF HF0 HF1 HZ0 HZ1
  go_wp2_with fail
  generalize w5.heap.size = q at *
  go_region_held3 (fun w' => w'.cell? ⟨q, 0, none⟩ = some (.string o) ∧ w'.cell? ⟨q, 1, none⟩ = some (.int .i64 s) ∧ w'.cell? ⟨q + 1, 0, none⟩ = some (.pointer (some ⟨fb, 0, none⟩)) ∧ w'.cell? ⟨fb, 0, none⟩ = some (.string x0.1) ∧ w'.cell? ⟨fb, 1, none⟩ = some (.int .i64 x0.2) ∧ w'.cell? ⟨fb, 2, none⟩ = some (.iface u x) ∧ w'.cell? ⟨b, off, none⟩ = some (.string x0.1) ∧ w'.cell? ⟨b, off + 1, none⟩ = some (.int .i64 x0.2) ∧ Below w6.heap.size w6 w') (first
      | exact held9 (by assumption) (by assumption)
      | exact held9 (Below.drew (Below.refl _ _)) (by assumption)
      | exact held9 (Below.refl _ _) (by assumption)) (first
      | (go_at_call 5; refine (awake1 (HG6.out.keep (s9 (by assumption))) (HT6.out.keep (s9 (by assumption)))).mono ?_; rintro e w7 ⟨rfl, hb7⟩)
      | (go_at_call 12; refine (error_list fb l _ (HE6.out.keep (s9 (by assumption))) HSL.out (by have := HM.out; omega) hk.1 hk.2 (HG6.out.keep (s9 (by assumption))) (HT6.out.keep (s9 (by assumption)))).mono ?_; rintro e w8 ⟨rfl, hb8⟩)
      | (go_at_call 13; refine (text_at b off cap l m _ HM.out (fun j hj => And.intro (keepc (s9 (by assumption)) (HC6.out j hj).1) (keepc (s9 (by assumption)) (HC6.out j hj).2)) HSL.out (by omega) hk.1 hk.2).mono ?_; rintro e w9 ⟨rfl, hb9⟩)
      | (go_at_call 14; refine (unwrap_any fb (.iface u x) _ (u9 (by assumption))).mono ?_; rintro e w10 ⟨rfl, rfl⟩))
  go_wp2
  go_ret
  exact ⟨rfl, bthen HB6.out (s9 (by assumption))⟩
end Go.Proofs.YtofkcjoonjhdpaaDoor
