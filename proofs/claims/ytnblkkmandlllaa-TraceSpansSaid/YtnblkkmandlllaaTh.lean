/-
  Shown and Length of package trace, by contract. Condition: at most 1000 notes.
-/
import Derived.Test.YtnblkkmandlllaaTq
import Derived.StillTailTactics
import Derived.Deep.AppendLies
namespace Go.Proofs.Ytnblkkmandlllaa
open Go.RowKit Go.Shelf
set_option linter.unusedVariables false
set_option linter.unusedSimpArgs false

theorem flatS_split {init : List Sp} {t : Sp} : flatS (init ++ [t]) = flatS init ++ [.int .i64 t.1, .int .i64 t.2] := by rw [flatS_append, flatS_one]; rfl

theorem sp_c0 (w : World) (x y : Int) (t : TypeId) : (w.alloc (.cells #[.int .i64 x, .int .i64 y] t)).cell? ⟨w.heap.size, 0, none⟩ = some (.int .i64 x) := by simp
theorem sp_c1 (w : World) (x y : Int) (t : TypeId) : (w.alloc (.cells #[.int .i64 x, .int .i64 y] t)).cell? ⟨w.heap.size, 1, none⟩ = some (.int .i64 y) := by simp
theorem bdrewN {B : Nat} {a w : World} (h : Below B a w) (n : Nat) : Below B a (w.drewN n) := ⟨h.os, h.tape, h.output, h.size, h.block⟩
/-- The last span's end, set. -/
theorem last_set {w : World} {B g n c : Nat} {init : List Sp} {t : Sp} {y : Int} (ho : w.ownsRow B 43 2 (.slice (some ⟨g, 0, none⟩) n c) n (flatS (init ++ [t]))) (hn : n = init.length + 1) :
    (w.setCell ⟨g, init.length * 2 + 1, none⟩ (.int .i64 y)).ownsRow B 43 2 (.slice (some ⟨g, 0, none⟩) n c) n (flatS (init ++ [(t.1, y)])) ∧ w.grownBy (w.setCell ⟨g, init.length * 2 + 1, none⟩ (.int .i64 y)) (some g) := by
  obtain ⟨s1, s2⟩ := ho.stored (init.length * 2 + 1) (.int .i64 y)
  refine ⟨?_, s2⟩
  have e : (flatS (init ++ [t])).set (init.length * 2 + 1) (.int .i64 y) = flatS (init ++ [(t.1, y)]) := by
    rw [flatS_split, flatS_split, List.set_append_right _ _ (by rw [flatS_len]; omega), flatS_len]
    simp
  rw [e] at s1
  exact s1

set_option maxRecDepth 100000 in
set_option maxHeartbeats 4000000 in
theorem tshown {W : World} {v : Value} {l : List Nt} {ring : Int} (hl : NtsAt W v l) (h120 : l.length ≤ 1000) :
    Calls Try.prog 16 #[v, .int .i64 ring] W fun e w' => ∃ v' out, e = .returned v' ∧ SpsAt w' v' out ∧ ShownP l ring out ∧ out.length ≤ 1000 ∧ Below W.heap.size W w' := by
  obtain ⟨i0, hi, hz0, hz1, hz2⟩ := info_parts infoSp
  have HC := Lib.hid (tpublished (ring := ring) hl h120)
  obtain ⟨p, c, rfl, hc, hm⟩ := hl.form
  clear hl
  go_enter Try.func16, Try.ntmps16
  go_wp2_with (go_at_call 33; refine HC.out.mono ?_; rintro e w1 ⟨v1, ps, rfl, hat, hp, hpw, hb⟩; have HA := Lib.hid hat; have HP := Lib.hid hp; have HW := Lib.hid hpw; have HB := Lib.hid hb; obtain ⟨p1, cq, rfl, -⟩ := hat.form; clear hat hp hpw hb)
  have HLL : Hid (ps.length ≤ 1000) := Lib.hid (by have := HP.out.length_eq; have := pubN_len l ring; omega)
  have hpl := HLL.out
  clear HC
  go_loopw [5, 13] (fun ov iv wl => ∃ k : Nat, k ≤ ps.length ∧ iv = .int .i64 k ∧ Hid (wl.ownsRow w1.heap.size 43 2 ov (merged (ps.take k)).length (flatS (merged (ps.take k))) ∧ Below w1.heap.size w1 wl)) (fun _ iv _ => ps.length - (intOf iv).toNat)
  case atStart => exact ⟨0, Nat.zero_le _, rfl, Lib.hid ⟨World.ownsRow_nil _ _ _ _, Below.refl _ _⟩⟩
  case round =>
    obtain ⟨k, hk, rfl, HJ⟩ := hrel
    by_cases hlt : k < ps.length
    · obtain ⟨b, off, s, rfl, hx, hb, c0, c1⟩ := (HA.out.keep HJ.out.2).at_ hlt
      have HS : Hid (merged (ps.take (k + 1)) = mstep (merged (ps.take k)) s) := Lib.hid (by rw [take_snocN hx, merged_snoc])
      have hps := fun x hx => pubN_ok l ring x (HP.out.mem_iff.1 hx)
      obtain ⟨lo, hM, hlo⟩ := merged_mrg k ps HW.out hps hk
      have hsok := hps s (List.mem_of_getElem? hx)
      have hlos := hlo s hx
      have hlen : (merged (ps.take k)).length ≤ 1000 := by
        have := merged_len (ps.take k) []
        rw [List.length_take] at this
        unfold merged
        simp at this
        omega
      clear hps hlo hb hx
      generalize merged (ps.take k) = ss at *
      obtain ⟨s0, s1⟩ := s
      simp only at hsok hlos c0 c1
      obtain ⟨hs1, hs2, hs3⟩ := hsok
      cases hgl : ss.getLast? with
      | none =>
        obtain rfl : ss = [] := by simpa using hgl
        clear hgl
        have HM1 : Hid (mstep [] (s0, s1) = [(s0, s1)]) := Lib.hid rfl
        obtain ⟨po, co, rfl, -⟩ := row_form HJ.out.1
        have HR : Hid (wr.ownsRow w1.heap.size 43 2 (.slice po 0 co) 0 [] ∧ Below w1.heap.size w1 wr) := HJ
        clear HJ hM hlos
        rw [List.length_nil]
        go_wp2_with fail
        go_quiet (fail)
        have c0' : ((wr.alloc (.cells #[.int .i64 s0, .int .i64 s1] 43)).drewN nq).cell? ⟨wr.heap.size, 0, none⟩ = some (.int .i64 s0) := sp_c0 wr s0 s1 _
        have c1' : ((wr.alloc (.cells #[.int .i64 s0, .int .i64 s1] 43)).drewN nq).cell? ⟨wr.heap.size, 1, none⟩ = some (.int .i64 s1) := sp_c1 wr s0 s1 _
        have HY : Hid (((wr.alloc (.cells #[.int .i64 s0, .int .i64 s1] 43)).drewN nq).ownsRow w1.heap.size 43 2 (.slice po 0 co) 0 [] ∧ Below w1.heap.size w1 ((wr.alloc (.cells #[.int .i64 s0, .int .i64 s1] 43)).drewN nq)) :=
          Lib.hid ⟨HR.out.1.alloc _, bdrewN (HR.out.2.alloc HR.out.2.size _) nq⟩
        generalize World.drewN _ nq = w2 at c0' c1' HY ⊢
        clear HR c0 c1
        go_wp2_with (at_builtin; refine wpList_append_own _ rfl _ _ 40 rfl w1.heap.size 43 i0 _ 2 16 Try.underlying40 hi hz0 hz1 hz2 rfl (by decide) (.slice po 0 co) 0 _ rfl (HY.out.1.alloc _) ⟨w2.heap.size, 0, none⟩ 1 1 (encS (s0, s1)) rfl rfl (sp_cell _ (s0, s1) _) (encS_one _) (by unfold maxLen; omega) (by omega) (by have := HY.out.2.size; simp; omega) ?_; intro v' w3 hown hg hnil; have HO3 := Lib.hid hown; have HG := Lib.hid hg; clear hown hg hnil)
        exact ⟨⟨k + 1, by omega, by go_num, Lib.hid ⟨by rw [HS.out, HM1.out]; exact HO3.out, Below.app HY.out.2 HY.out.2.size HY.out.1 HG.out⟩⟩, by simp [intOf]; omega⟩
      | some t =>
        have hsp := getLast_split hgl
        have htm : t ∈ ss := by rw [hsp]; simp
        have ht1 := hM.canon.ne t htm
        obtain ⟨-, ht0, ht2⟩ := hM.from_ t htm
        obtain ⟨t0, t1⟩ := t
        simp only at ht1 ht0 ht2
        have HMS : Hid (mstep ss (s0, s1) = if s0 ≤ t1 + 1 then ss.dropLast ++ [(t0, max t1 s1)] else ss ++ [(s0, s1)]) := Lib.hid (by unfold mstep; rw [hgl])
        have HSP : Hid (ss = ss.dropLast ++ [(t0, t1)]) := Lib.hid hsp
        have hNM : ss.length = ss.dropLast.length + 1 := by have := congrArg List.length hsp; simpa using this
        clear hgl hM hsp htm hlos
        generalize hI : ss.dropLast = ini at *
        clear hI
        obtain ⟨M, hMd⟩ : ∃ M, M = ini.length := ⟨_, rfl⟩
        obtain ⟨N, hNd⟩ : ∃ N, N = ss.length := ⟨_, rfl⟩
        have HD : Hid (M = ini.length ∧ N = ss.length ∧ N = M + 1) := Lib.hid ⟨hMd, hNd, by omega⟩
        have hMN : M < N := by omega
        have hNb : N ≤ 1000 := by omega
        have HJ2 : Hid (wr.ownsRow w1.heap.size 43 2 u5 N (flatS ss) ∧ Below w1.heap.size w1 wr) := by rw [hNd]; exact HJ
        have hsub : (N : Int) - 1 = (M : Int) := by omega
        have hge : (0 : Int) ≤ (M : Int) := by omega
        clear hlen hNM hMd hNd HJ
        obtain ⟨g, cap, rfl, hgb, -⟩ : ∃ g cap, u5 = .slice (some ⟨g, 0, none⟩) N cap ∧ w1.heap.size ≤ g ∧ g < wr.heap.size := by
          obtain ⟨g, cap, hv, h1, h2⟩ := HJ2.out.1.form (by omega)
          exact ⟨g, cap, hv, h1, h2⟩
        have cM : wr.cell? ⟨g, M * 2 + 1, none⟩ = some (.int .i64 t1) := by
          obtain ⟨hM1, hN1, hNM⟩ := HD.out
          rw [HJ2.out.1.cellAt (M * 2 + 1) (by omega)]
          have := flatS_get (l := ss) (k := M) (x := (t0, t1)) (by rw [HSP.out, hM1]; simp) (f := 1) (by decide)
          rw [this]; rfl
        have fM : wr.frozen? ⟨g, M * 2 + 1, none⟩ = false := HJ2.out.1.frozenAt _
        have HGB := Lib.hid hgb
        clear hgb
        have HA2 : Hid (Below wr.heap.size wr (wr.alloc (.cells #[.int .i64 s0, .int .i64 s1] 43))) := Lib.hid ((Below.refl _ _).alloc (Nat.le_refl _) _)
        have HJ3 : Hid ((wr.alloc (.cells #[.int .i64 s0, .int .i64 s1] 43)).ownsRow w1.heap.size 43 2 (.slice (some ⟨g, 0, none⟩) N cap) N (flatS ss) ∧ Below w1.heap.size w1 (wr.alloc (.cells #[.int .i64 s0, .int .i64 s1] 43))) :=
          Lib.hid ⟨HJ2.out.1.alloc _, HJ2.out.2.alloc HJ2.out.2.size _⟩
        have dM := keepc HA2.out cM
        have gM : (wr.alloc (.cells #[.int .i64 s0, .int .i64 s1] 43)).frozen? ⟨g, M * 2 + 1, none⟩ = false := HJ3.out.1.frozenAt _
        have d0 := sp_c0 wr s0 s1 43
        have d1 := sp_c1 wr s0 s1 43
        go_upto_region 6 with (fail)
        clear cM fM
        generalize wr.alloc (.cells #[.int .i64 s0, .int .i64 s1] 43) = wa at *
        by_cases hc : s0 ≤ t1 + 1
        · have HIF : Hid (mstep ss (s0, s1) = ini ++ [(t0, max t1 s1)]) := Lib.hid (by rw [HMS.out, if_pos hc])
          go_quiet (fail)
          have e0 : (wa.drewN nq).cell? ⟨wr.heap.size, 1, none⟩ = some (.int .i64 s1) := d1
          have eM : (wa.drewN nq).cell? ⟨g, M * 2 + 1, none⟩ = some (.int .i64 t1) := dM
          have fM : (wa.drewN nq).frozen? ⟨g, M * 2 + 1, none⟩ = false := gM
          have HJ4 : Hid ((wa.drewN nq).ownsRow w1.heap.size 43 2 (.slice (some ⟨g, 0, none⟩) N cap) N (flatS ss) ∧ Below w1.heap.size w1 (wa.drewN nq)) := Lib.hid ⟨HJ3.out.1, bdrewN HJ3.out.2 nq⟩
          clear d0 d1 dM gM hc
          generalize wa.drewN nq = w4 at e0 eM fM HJ4 ⊢
          clear HJ2 HJ3 HA2
          go_wp2_with fail
          go_still_tail 12, (by kernel_rfl)
          all_goals change wpList _ _ _ _ _ (World.drew _)
          have gM2 : w4.drew.cell? ⟨g, M * 2 + 1, none⟩ = some (.int .i64 t1) := eM
          have gF2 : w4.drew.frozen? ⟨g, M * 2 + 1, none⟩ = false := fM
          have HJ5 : Hid (w4.drew.ownsRow w1.heap.size 43 2 (.slice (some ⟨g, 0, none⟩) N cap) N (flatS ss) ∧ Below w1.heap.size w1 w4.drew) := Lib.hid ⟨HJ4.out.1, HJ4.out.2.drew⟩
          clear e0 eM fM HJ4
          generalize w4.drew = w5 at gM2 gF2 HJ5 ⊢
          have HSET : ∀ y : Int, Hid ((w5.setCell ⟨g, M * 2 + 1, none⟩ (.int .i64 y)).ownsRow w1.heap.size 43 2 (.slice (some ⟨g, 0, none⟩) N cap) N (flatS (ini ++ [(t0, y)])) ∧ Below w1.heap.size w1 (w5.setCell ⟨g, M * 2 + 1, none⟩ (.int .i64 y))) := fun y => by
            obtain ⟨q1, q2, q3⟩ := HD.out
            have h5 := HJ5.out.1
            rw [HSP.out] at h5
            have hs := last_set (y := y) h5 (by omega)
            rw [← q1] at hs
            exact Lib.hid ⟨hs.1, HJ5.out.2.setCell (p := ⟨g, M * 2 + 1, none⟩) HGB.out _⟩
          have HST := Lib.hid HSET
          clear HSET
          have HNL : Hid ((ini ++ [(t0, max t1 s1)]).length = N) := Lib.hid (by have := HD.out; simp; omega)
          generalize hmx : max t1 s1 = mx at *
          clear hmx
          go_wp2
          exact ⟨⟨k + 1, by omega, by go_num, Lib.hid ⟨by rw [HS.out, HIF.out, HNL.out]; exact (HST.out mx).out.1, (HST.out mx).out.2⟩⟩, by simp [intOf]; omega⟩
        · have HIF : Hid (mstep ss (s0, s1) = ss ++ [(s0, s1)]) := Lib.hid (by rw [HMS.out, if_neg hc])
          go_quiet (fail)
          have e0 : (wa.drewN nq).cell? ⟨wr.heap.size, 0, none⟩ = some (.int .i64 s0) := d0
          have e1 : (wa.drewN nq).cell? ⟨wr.heap.size, 1, none⟩ = some (.int .i64 s1) := d1
          have HJ4 : Hid ((wa.drewN nq).ownsRow w1.heap.size 43 2 (.slice (some ⟨g, 0, none⟩) N cap) N (flatS ss) ∧ Below w1.heap.size w1 (wa.drewN nq)) := Lib.hid ⟨HJ3.out.1, bdrewN HJ3.out.2 nq⟩
          clear d0 d1 dM gM hc
          generalize wa.drewN nq = w4 at e0 e1 HJ4 ⊢
          clear HJ2 HJ3 HA2
          go_wp2_with (at_builtin; refine wpList_append_own _ rfl _ _ 40 rfl w1.heap.size 43 i0 _ 2 16 Try.underlying40 hi hz0 hz1 hz2 rfl (by decide) (.slice (some ⟨g, 0, none⟩) N cap) N _ rfl (HJ4.out.1.alloc _) ⟨w4.heap.size, 0, none⟩ 1 1 (encS (s0, s1)) rfl rfl (sp_cell _ (s0, s1) _) (encS_one _) (by unfold maxLen; omega) (by omega) (by have := HJ4.out.2.size; simp; omega) ?_; intro v' w3 hown hg hnil; have HO3 := Lib.hid hown; have HG := Lib.hid hg; clear hown hg hnil)
          exact ⟨⟨k + 1, by omega, by go_num, Lib.hid ⟨by rw [HS.out, HIF.out, flatS_append, flatS_one, List.length_append, ← HD.out.2.1]; exact HO3.out, Below.app HJ4.out.2 HJ4.out.2.size HJ4.out.1 HG.out⟩⟩, by simp [intOf]; omega⟩
    · obtain rfl : k = ps.length := by omega
      rw [List.take_length] at HJ
      obtain ⟨po, co, rfl, -⟩ := row_form HJ.out.1
      go_wp2
      go_ret
      exact ⟨_, _, rfl, SpsAt.of_own HJ.out.1, shownP_of HP.out HW.out, by have := merged_len ps []; unfold merged; simp at this; omega, bthen HB.out HJ.out.2⟩
end Go.Proofs.Ytnblkkmandlllaa
