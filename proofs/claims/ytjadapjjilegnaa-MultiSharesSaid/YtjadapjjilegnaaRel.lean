/-
  A step of a claim, the code's and the document's, side by side in plain numbers. Conditions: the numbers are modest; at most a million who hold back.
  A step of a claim, the code's and the document's, side by side, at any of some worlds. Conditions: the numbers are modest; at most a thousand who hold back.
-/
import Derived.Test.YtjadapjjilegnaaRs2
import Derived.Test.YtjadapjjilegnaaRs3
import Derived.Test.YtjadapjjilegnaaRs5
namespace Go.Proofs.Ytjadapjjilegnaa
open Go.RowKit
set_option linter.unusedVariables false

/-- A claim of the code's and one of the document's stand at one place. -/
structure RelT (K m : Nat) (t : Tr) (n g d h l a o : Int) : Prop where
  rel ::
  n : n = t.n
  g : g = t.stg - 1
  s1 : 1 ≤ t.stg
  s7 : t.stg ≤ 7
  dh : 2 ≤ t.stg → t.stg ≤ 6 → d = t.had ∧ h = t.last
  lh : 2 ≤ t.stg → t.stg ≤ 6 → t.last = t.had + t.n ∧ -1 ≤ t.had ∧ t.had ≤ 1000000
  l : t.stg = 3 ∨ t.stg = 4 → l = t.least
  sc : t.stg = 3 → a = (t.seen : Int) ∧ o = (t.ids.length : Int) ∧ t.ids = idsN K t.ids.length ∧ t.seen < t.ids.length ∧ t.ids.length ≤ m
theorem RelT.start (K m : Nat) (n : Int) : RelT K m (tr0 n) n 0 0 0 0 0 0 :=
  ⟨rfl, rfl, by simp [tr0], by simp [tr0], fun h => by simp [tr0] at h, fun h => by simp [tr0] at h, fun h => by simp [tr0] at h, fun h => by simp [tr0] at h⟩
theorem RelT.more {K m m' : Nat} {t : Tr} {n g d h l a o : Int} (r : RelT K m t n g d h l a o) (hm : m ≤ m') : RelT K m' t n g d h l a o :=
  ⟨r.n, r.g, r.s1, r.s7, r.dh, r.lh, r.l, fun e => by have := r.sc e; exact ⟨this.1, this.2.1, this.2.2.1, this.2.2.2.1, by omega⟩⟩
/-- What a claim asks of the cells. -/
theorem RelT.ok {m : Nat} {t : Tr} {n g d h l a o c sn : Int} {sh gv : List Int} (r : RelT sh.length m t n g d h l a o) (hm : m = gv.length) (hn : 1 ≤ n ∧ n ≤ 1000) (hc : -1 ≤ c ∧ c ≤ 1000000) (hg : gv.length ≤ 32) (h0 : -1 ≤ t.last) (h1 : t.last ≤ 2000000) : TOk (mk c sn sh gv) t := by
  refine ⟨by have := r.n; omega, by have := r.n; omega, r.s1, r.s7, ?_, ?_, by omega, by omega, by rw [mk_len]; omega, fun e => ?_⟩
  · show -1 ≤ c
    omega
  · show c ≤ 4611686018427387904 - t.n
    have := r.n
    omega
  · obtain ⟨h1, h2, h3, h4, h5⟩ := r.sc e
    have e1 : t.ids.getD t.seen 0 = ((sh.length + 2 + t.seen : Nat) : Int) := by
      rw [h3]
      exact idsN_at _ _ h4
    refine ⟨by omega, h4, by rw [e1]; omega, by rw [e1, mk_len]; omega⟩
theorem mk_gate {c sn : Int} {sh gv : List Int} {j : Nat} (hj : j < gv.length) : (mk c sn sh gv).getD (sh.length + 2 + j) 0 = gv.getD j 0 := by
  rw [List.getD_eq_getElem?_getD, mk_g c sn sh gv hj]
  rfl

/-- What the judge leaves stands at one place too. -/
theorem RelT.judge {K m : Nat} {N : Int} {t : Tr} {n d h l a o : Int} (hn : n = t.n) (hd : d = t.had) (hh : h = t.last) (hlh : t.last = t.had + t.n ∧ -1 ≤ t.had ∧ t.had ≤ 1000000) (hl : l = t.least) (hs : t.seen = t.ids.length) : RelT K m (judgeT N t) n (judg N h l) d h l a o := by
  unfold judgeT judg
  rw [if_neg (by omega)]
  by_cases e : t.last - N ≤ t.least
  · rw [if_pos e, if_neg (by omega)]
    exact ⟨hn, by simp, by simp, by simp, fun _ _ => ⟨hd, hh⟩, fun _ _ => hlh, fun _ => hl, fun h => by simp at h⟩
  · rw [if_neg e, if_pos (by omega)]
    exact ⟨hn, by simp, by simp, by simp, fun _ h => by simp at h, fun _ h => by simp at h, fun h => by simp at h, fun h => by simp at h⟩
theorem judgeT_on {N : Int} {t : Tr} (h : t.seen < t.ids.length) : judgeT N t = { t with stg := 3 } := by
  unfold judgeT
  rw [if_pos h]

set_option maxHeartbeats 1000000 in
theorem rstep_any {W : World} {t : Tr} {N c sn n g d h l a o sw : Int} {sh gv : List Int} {pg ps : Option Addr} {cg ns cs : Nat} (r : RelT sh.length gv.length t n g d h l a o) (hg : LngAt W (.slice pg gv.length cg) gv) (hN : 1 ≤ N ∧ N ≤ 1048576) (hn : 1 ≤ n ∧ n ≤ 1000) (hc : -1 ≤ c ∧ c ≤ 1000000) (hgl : gv.length ≤ 1000) :
    ∃ c' sn' sw' t' g' d' h' l' a' o', stepT N (idsN sh.length gv.length) (mk c sn sh gv) sw t = (mk c' sn' sh gv, sw', t') ∧ RelT sh.length gv.length t' n g' d' h' l' a' o' ∧
      Calls Try.prog 108 #[.agg (s10 N c (.slice pg gv.length cg) sn (.slice ps ns cs)), .agg (t10 n g d h l a o)] W fun e w' => e = .returned (.tuple #[.agg (s10 N c' (.slice pg gv.length cg) sn' (.slice ps ns cs)), .agg (t10 n g' d' h' l' a' o'), .int .i64 0]) ∧ Below W.heap.size W w' := by
  obtain ⟨n0, s0, h0, l0, i0, q0, m0⟩ := t
  obtain ⟨r1, r2, r3, r4, r5, r6, r7, r8⟩ := r
  simp only at r1 r2 r3 r4 r5 r6 r7 r8
  subst r1
  have hs : s0 = 1 ∨ s0 = 2 ∨ s0 = 3 ∨ s0 = 4 ∨ s0 = 5 ∨ s0 = 6 ∨ s0 = 7 := by omega
  rcases hs with rfl | rfl | rfl | rfl | rfl | rfl | rfl
  · obtain rfl : g = 0 := by omega
    refine ⟨c, sn, sw, _, 1, c, c + n, l, a, o, rfl, ⟨rfl, by simp, by simp, by simp, fun _ _ => ⟨rfl, rfl⟩, fun _ _ => ⟨rfl, hc.1, hc.2⟩, fun h => by simp at h, fun h => by simp at h⟩, ?_⟩
    exact rstep_0 N c sn n d h l a o pg ps _ cg ns cs (by omega) (by omega)
  · obtain rfl : g = 1 := by omega
    obtain ⟨rfl, rfl⟩ := r5 (by omega) (by omega)
    have hb := r6 (by omega) (by omega)
    by_cases h1 : h - N ≤ sn
    · by_cases h2 : sn ≤ d
      · refine ⟨c, sn, sw, ⟨n, 5, d, h, i0, q0, m0⟩, 4, d, h, l, a, o, ?_, ⟨rfl, by simp, by simp, by simp, fun _ _ => ⟨rfl, rfl⟩, fun _ _ => hb, fun h => by simp at h, fun h => by simp at h⟩, rstep_1y N c sn n d h l a o pg ps _ cg ns cs hN (by omega) h1 h2⟩
        unfold stepT
        rw [if_neg (by simp), if_pos rfl, if_pos ⟨h2, h1⟩]
      · have hst : stepT N (idsN sh.length gv.length) (mk c sn sh gv) sw ⟨n, 2, d, h, i0, q0, m0⟩ = (mk c sn sh gv, sw, judgeT N ⟨n, 2, d, h, idsN sh.length gv.length, 0, d⟩) := by
          unfold stepT
          rw [if_neg (by simp), if_pos rfl, if_neg (fun e => h2 e.1)]
        rcases Nat.eq_zero_or_pos gv.length with hz | hz
        · exact ⟨c, sn, sw, _, _, _, _, _, _, _, hst, RelT.judge rfl rfl rfl hb rfl (by rw [idsN_len]; exact hz.symm), rstep_1mj N c sn n d h l a o pg ps _ cg ns cs hN (by omega) h1 h2 hz⟩
        · refine ⟨c, sn, sw, _, 2, d, h, d, 0, gv.length, hst, ?_, rstep_1m N c sn n d h l a o pg ps _ cg ns cs hN (by omega) h1 h2 hz (by omega)⟩
          rw [judgeT_on (by rw [idsN_len]; exact hz)]
          exact ⟨rfl, by simp, by simp, by simp, fun _ _ => ⟨rfl, rfl⟩, fun _ _ => hb, fun _ => rfl, fun _ => ⟨rfl, by rw [idsN_len], by rw [idsN_len], by rw [idsN_len]; exact hz, by rw [idsN_len]; exact Nat.le_refl _⟩⟩
    · have hst : stepT N (idsN sh.length gv.length) (mk c sn sh gv) sw ⟨n, 2, d, h, i0, q0, m0⟩ = (mk c sn sh gv, sw, judgeT N ⟨n, 2, d, h, idsN sh.length gv.length, 0, d⟩) := by
        unfold stepT
        rw [if_neg (by simp), if_pos rfl, if_neg (fun e => h1 e.2)]
      rcases Nat.eq_zero_or_pos gv.length with hz | hz
      · exact ⟨c, sn, sw, _, _, _, _, _, _, _, hst, RelT.judge rfl rfl rfl hb rfl (by rw [idsN_len]; exact hz.symm), rstep_1nj N c sn n d h l a o pg ps _ cg ns cs hN (by omega) h1 hz⟩
      · refine ⟨c, sn, sw, _, 2, d, h, d, 0, gv.length, hst, ?_, rstep_1n N c sn n d h l a o pg ps _ cg ns cs hN (by omega) h1 hz (by omega)⟩
        rw [judgeT_on (by rw [idsN_len]; exact hz)]
        exact ⟨rfl, by simp, by simp, by simp, fun _ _ => ⟨rfl, rfl⟩, fun _ _ => hb, fun _ => rfl, fun _ => ⟨rfl, by rw [idsN_len], by rw [idsN_len], by rw [idsN_len]; exact hz, by rw [idsN_len]; exact Nat.le_refl _⟩⟩
  · obtain rfl : g = 2 := by omega
    obtain ⟨rfl, rfl⟩ := r5 (by omega) (by omega)
    have hb := r6 (by omega) (by omega)
    obtain rfl := r7 (.inl rfl)
    obtain ⟨rfl, rfl, hi, hq, hm⟩ := r8 rfl
    have hjg : q0 < gv.length := by omega
    obtain ⟨gb, off, rfl, hcell⟩ : ∃ gb off, pg = some ⟨gb, off, none⟩ ∧ ∀ j, j < gv.length → W.cell? ⟨gb, off + j, none⟩ = some (.int .i64 (gv.getD j 0)) := by
      obtain ⟨p, cap, hv, hh⟩ := hg
      simp only [Value.slice.injEq] at hv
      obtain ⟨rfl, _, _⟩ := hv
      rcases hh with hh | ⟨b, off, rfl, hh⟩
      · omega
      · exact ⟨b, off, rfl, hh⟩
    have hk := hcell q0 hjg
    have hst : stepT N (idsN sh.length gv.length) (mk c sn sh gv) sw ⟨n, 3, d, h, i0, q0, l⟩ = (mk c sn sh gv, sw, judgeT N ⟨n, 3, d, h, i0, q0 + 1, min l (gv.getD q0 0)⟩) := by
      unfold stepT
      rw [if_neg (by simp), if_neg (by simp), if_pos rfl]
      have e1 : i0.getD q0 0 = ((sh.length + 2 + q0 : Nat) : Int) := by
        rw [hi]
        exact idsN_at _ _ hq
      simp only [e1, Int.toNat_natCast, mk_gate hjg]
    generalize gv.getD q0 0 = x at *
    by_cases ho : (q0 : Int) + 1 = (i0.length : Int)
    · by_cases hx : x < l
      · refine ⟨c, sn, sw, _, _, d, h, x, (q0 : Int) + 1, i0.length, hst, ?_, rstep_2lj N c sn n d h l i0.length ps gv.length cg ns cs gb off q0 x hN (by omega) hjg (by omega) hk hx ho⟩
        exact RelT.judge rfl rfl rfl hb (by simp; omega) (by simp; omega)
      · refine ⟨c, sn, sw, _, _, d, h, l, (q0 : Int) + 1, i0.length, hst, ?_, rstep_2gj N c sn n d h l i0.length ps gv.length cg ns cs gb off q0 x hN (by omega) hjg (by omega) hk hx ho⟩
        exact RelT.judge rfl rfl rfl hb (by simp; omega) (by simp; omega)
    · have hq2 : q0 + 1 < i0.length := by omega
      by_cases hx : x < l
      · refine ⟨c, sn, sw, _, 2, d, h, x, (q0 : Int) + 1, i0.length, hst, ?_, rstep_2l N c sn n d h l i0.length ps gv.length cg ns cs gb off q0 x hjg (by omega) hk hx ho⟩
        rw [judgeT_on hq2]
        exact ⟨rfl, by simp, by simp, by simp, fun _ _ => ⟨rfl, rfl⟩, fun _ _ => hb, fun _ => by simp; omega, fun _ => ⟨by simp, rfl, hi, hq2, hm⟩⟩
      · refine ⟨c, sn, sw, _, 2, d, h, l, (q0 : Int) + 1, i0.length, hst, ?_, rstep_2g N c sn n d h l i0.length ps gv.length cg ns cs gb off q0 x hjg (by omega) hk hx ho⟩
        rw [judgeT_on hq2]
        exact ⟨rfl, by simp, by simp, by simp, fun _ _ => ⟨rfl, rfl⟩, fun _ _ => hb, fun _ => by simp; omega, fun _ => ⟨by simp, rfl, hi, hq2, hm⟩⟩
  · obtain rfl : g = 3 := by omega
    obtain ⟨rfl, rfl⟩ := r5 (by omega) (by omega)
    have hb := r6 (by omega) (by omega)
    obtain rfl := r7 (.inr rfl)
    refine ⟨c, l, sw, _, 4, d, h, l, a, o, rfl, ⟨rfl, by simp, by simp, by simp, fun _ _ => ⟨rfl, rfl⟩, fun _ _ => hb, fun h => by simp at h, fun h => by simp at h⟩, rstep_3 N c sn n d h l a o pg ps _ cg ns cs⟩
  · obtain rfl : g = 4 := by omega
    obtain ⟨rfl, rfl⟩ := r5 (by omega) (by omega)
    have hb := r6 (by omega) (by omega)
    by_cases e : c = d
    · refine ⟨h, sn, h, ⟨n, 6, d, h, i0, q0, m0⟩, 5, d, h, l, a, o, ?_, ⟨rfl, by simp, by simp, by simp, fun _ _ => ⟨rfl, rfl⟩, fun _ _ => hb, fun h => by simp at h, fun h => by simp at h⟩, rstep_4y N c sn n d h l a o pg ps _ cg ns cs e⟩
      unfold stepT
      rw [if_neg (by simp), if_neg (by simp), if_neg (by simp), if_neg (by simp), if_pos rfl, if_pos (show (mk c sn sh gv).getD 0 0 = d from e)]
      rfl
    · refine ⟨c, sn, sw, tr0 n, 0, d, h, l, a, o, ?_, ⟨rfl, by simp [tr0], by simp [tr0], by simp [tr0], fun h => by simp [tr0] at h, fun h => by simp [tr0] at h, fun h => by simp [tr0] at h, fun h => by simp [tr0] at h⟩, rstep_4n N c sn n d h l a o pg ps _ cg ns cs e⟩
      unfold stepT
      rw [if_neg (by simp), if_neg (by simp), if_neg (by simp), if_neg (by simp), if_pos rfl, if_neg (show ¬ (mk c sn sh gv).getD 0 0 = d from e)]
  · obtain rfl : g = 5 := by omega
    exact ⟨c, sn, sw, _, 5, d, h, l, a, o, rfl, ⟨rfl, by simp, by simp, by simp, r5, r6, fun h => by simp at h, fun h => by simp at h⟩, rstep_done N c sn n 5 d h l a o pg ps _ cg ns cs rfl rfl rfl rfl rfl⟩
  · obtain rfl : g = 6 := by omega
    exact ⟨c, sn, sw, _, 6, d, h, l, a, o, rfl, ⟨rfl, by simp, by simp, by simp, r5, r6, fun h => by simp at h, fun h => by simp at h⟩, rstep_done N c sn n 6 d h l a o pg ps _ cg ns cs rfl rfl rfl rfl rfl⟩
end Go.Proofs.Ytjadapjjilegnaa
namespace Go.Proofs.Ytjadapjjilegnaa
open Go.RowKit
set_option linter.unusedVariables false

set_option maxHeartbeats 1000000 in
theorem rstep_all {C : World → Prop} {t : Tr} {N c sn n g d h l a o sw : Int} {sh gv : List Int} {pg ps : Option Addr} {cg ns cs : Nat} (r : RelT sh.length gv.length t n g d h l a o) (hC : ∃ w, C w) (hg : ∀ w, C w → LngAt w (.slice pg gv.length cg) gv) (hN : 1 ≤ N ∧ N ≤ 1048576) (hn : 1 ≤ n ∧ n ≤ 1000) (hc : -1 ≤ c ∧ c ≤ 1000000) (hgl : gv.length ≤ 1000) :
    ∃ c' sn' sw' t' g' d' h' l' a' o', stepT N (idsN sh.length gv.length) (mk c sn sh gv) sw t = (mk c' sn' sh gv, sw', t') ∧ RelT sh.length gv.length t' n g' d' h' l' a' o' ∧
      ∀ w, C w → Calls Try.prog 108 #[.agg (s10 N c (.slice pg gv.length cg) sn (.slice ps ns cs)), .agg (t10 n g d h l a o)] w fun e w' => e = .returned (.tuple #[.agg (s10 N c' (.slice pg gv.length cg) sn' (.slice ps ns cs)), .agg (t10 n g' d' h' l' a' o'), .int .i64 0]) ∧ Below w.heap.size w w' := by
  obtain ⟨n0, s0, h0, l0, i0, q0, m0⟩ := t
  obtain ⟨r1, r2, r3, r4, r5, r6, r7, r8⟩ := r
  simp only at r1 r2 r3 r4 r5 r6 r7 r8
  subst r1
  have hs : s0 = 1 ∨ s0 = 2 ∨ s0 = 3 ∨ s0 = 4 ∨ s0 = 5 ∨ s0 = 6 ∨ s0 = 7 := by omega
  rcases hs with rfl | rfl | rfl | rfl | rfl | rfl | rfl
  · obtain rfl : g = 0 := by omega
    refine ⟨c, sn, sw, _, 1, c, c + n, l, a, o, rfl, ⟨rfl, by simp, by simp, by simp, fun _ _ => ⟨rfl, rfl⟩, fun _ _ => ⟨rfl, hc.1, hc.2⟩, fun h => by simp at h, fun h => by simp at h⟩, ?_⟩
    exact fun w hw => rstep_0 N c sn n d h l a o pg ps _ cg ns cs (by omega) (by omega)
  · obtain rfl : g = 1 := by omega
    obtain ⟨rfl, rfl⟩ := r5 (by omega) (by omega)
    have hb := r6 (by omega) (by omega)
    by_cases h1 : h - N ≤ sn
    · by_cases h2 : sn ≤ d
      · refine ⟨c, sn, sw, ⟨n, 5, d, h, i0, q0, m0⟩, 4, d, h, l, a, o, ?_, ⟨rfl, by simp, by simp, by simp, fun _ _ => ⟨rfl, rfl⟩, fun _ _ => hb, fun h => by simp at h, fun h => by simp at h⟩, fun w hw => rstep_1y N c sn n d h l a o pg ps _ cg ns cs hN (by omega) h1 h2⟩
        unfold stepT
        rw [if_neg (by simp), if_pos rfl, if_pos ⟨h2, h1⟩]
      · have hst : stepT N (idsN sh.length gv.length) (mk c sn sh gv) sw ⟨n, 2, d, h, i0, q0, m0⟩ = (mk c sn sh gv, sw, judgeT N ⟨n, 2, d, h, idsN sh.length gv.length, 0, d⟩) := by
          unfold stepT
          rw [if_neg (by simp), if_pos rfl, if_neg (fun e => h2 e.1)]
        rcases Nat.eq_zero_or_pos gv.length with hz | hz
        · exact ⟨c, sn, sw, _, _, _, _, _, _, _, hst, RelT.judge rfl rfl rfl hb rfl (by rw [idsN_len]; exact hz.symm), fun w hw => rstep_1mj N c sn n d h l a o pg ps _ cg ns cs hN (by omega) h1 h2 hz⟩
        · refine ⟨c, sn, sw, _, 2, d, h, d, 0, gv.length, hst, ?_, fun w hw => rstep_1m N c sn n d h l a o pg ps _ cg ns cs hN (by omega) h1 h2 hz (by omega)⟩
          rw [judgeT_on (by rw [idsN_len]; exact hz)]
          exact ⟨rfl, by simp, by simp, by simp, fun _ _ => ⟨rfl, rfl⟩, fun _ _ => hb, fun _ => rfl, fun _ => ⟨rfl, by rw [idsN_len], by rw [idsN_len], by rw [idsN_len]; exact hz, by rw [idsN_len]; exact Nat.le_refl _⟩⟩
    · have hst : stepT N (idsN sh.length gv.length) (mk c sn sh gv) sw ⟨n, 2, d, h, i0, q0, m0⟩ = (mk c sn sh gv, sw, judgeT N ⟨n, 2, d, h, idsN sh.length gv.length, 0, d⟩) := by
        unfold stepT
        rw [if_neg (by simp), if_pos rfl, if_neg (fun e => h1 e.2)]
      rcases Nat.eq_zero_or_pos gv.length with hz | hz
      · exact ⟨c, sn, sw, _, _, _, _, _, _, _, hst, RelT.judge rfl rfl rfl hb rfl (by rw [idsN_len]; exact hz.symm), fun w hw => rstep_1nj N c sn n d h l a o pg ps _ cg ns cs hN (by omega) h1 hz⟩
      · refine ⟨c, sn, sw, _, 2, d, h, d, 0, gv.length, hst, ?_, fun w hw => rstep_1n N c sn n d h l a o pg ps _ cg ns cs hN (by omega) h1 hz (by omega)⟩
        rw [judgeT_on (by rw [idsN_len]; exact hz)]
        exact ⟨rfl, by simp, by simp, by simp, fun _ _ => ⟨rfl, rfl⟩, fun _ _ => hb, fun _ => rfl, fun _ => ⟨rfl, by rw [idsN_len], by rw [idsN_len], by rw [idsN_len]; exact hz, by rw [idsN_len]; exact Nat.le_refl _⟩⟩
  · obtain rfl : g = 2 := by omega
    obtain ⟨rfl, rfl⟩ := r5 (by omega) (by omega)
    have hb := r6 (by omega) (by omega)
    obtain rfl := r7 (.inl rfl)
    obtain ⟨rfl, rfl, hi, hq, hm⟩ := r8 rfl
    have hjg : q0 < gv.length := by omega
    obtain ⟨w0, hw0⟩ := hC
    obtain ⟨gb, off, rfl⟩ : ∃ gb off, pg = some ⟨gb, off, none⟩ := by
      obtain ⟨p, cap, hv, hh⟩ := hg w0 hw0
      simp only [Value.slice.injEq] at hv
      obtain ⟨rfl, _, _⟩ := hv
      rcases hh with hh | ⟨b, off, rfl, hh⟩
      · omega
      · exact ⟨b, off, rfl⟩
    have hk : ∀ w, C w → w.cell? ⟨gb, off + q0, none⟩ = some (.int .i64 (gv.getD q0 0)) := fun w hw => by
      obtain ⟨p, cap, hv, hh⟩ := hg w hw
      simp only [Value.slice.injEq] at hv
      obtain ⟨rfl, _, _⟩ := hv
      rcases hh with hh | ⟨b, off', he, hh⟩
      · omega
      · simp only [Option.some.injEq, Addr.mk.injEq] at he
        obtain ⟨rfl, rfl, _⟩ := he
        exact hh q0 hjg
    have hst : stepT N (idsN sh.length gv.length) (mk c sn sh gv) sw ⟨n, 3, d, h, i0, q0, l⟩ = (mk c sn sh gv, sw, judgeT N ⟨n, 3, d, h, i0, q0 + 1, min l (gv.getD q0 0)⟩) := by
      unfold stepT
      rw [if_neg (by simp), if_neg (by simp), if_pos rfl]
      have e1 : i0.getD q0 0 = ((sh.length + 2 + q0 : Nat) : Int) := by
        rw [hi]
        exact idsN_at _ _ hq
      simp only [e1, Int.toNat_natCast, mk_gate hjg]
    generalize gv.getD q0 0 = x at *
    by_cases ho : (q0 : Int) + 1 = (i0.length : Int)
    · by_cases hx : x < l
      · refine ⟨c, sn, sw, _, _, d, h, x, (q0 : Int) + 1, i0.length, hst, ?_, fun w hw => rstep_2lj N c sn n d h l i0.length ps gv.length cg ns cs gb off q0 x hN (by omega) hjg (by omega) (hk w hw) hx ho⟩
        exact RelT.judge rfl rfl rfl hb (by simp; omega) (by simp; omega)
      · refine ⟨c, sn, sw, _, _, d, h, l, (q0 : Int) + 1, i0.length, hst, ?_, fun w hw => rstep_2gj N c sn n d h l i0.length ps gv.length cg ns cs gb off q0 x hN (by omega) hjg (by omega) (hk w hw) hx ho⟩
        exact RelT.judge rfl rfl rfl hb (by simp; omega) (by simp; omega)
    · have hq2 : q0 + 1 < i0.length := by omega
      by_cases hx : x < l
      · refine ⟨c, sn, sw, _, 2, d, h, x, (q0 : Int) + 1, i0.length, hst, ?_, fun w hw => rstep_2l N c sn n d h l i0.length ps gv.length cg ns cs gb off q0 x hjg (by omega) (hk w hw) hx ho⟩
        rw [judgeT_on hq2]
        exact ⟨rfl, by simp, by simp, by simp, fun _ _ => ⟨rfl, rfl⟩, fun _ _ => hb, fun _ => by simp; omega, fun _ => ⟨by simp, rfl, hi, hq2, hm⟩⟩
      · refine ⟨c, sn, sw, _, 2, d, h, l, (q0 : Int) + 1, i0.length, hst, ?_, fun w hw => rstep_2g N c sn n d h l i0.length ps gv.length cg ns cs gb off q0 x hjg (by omega) (hk w hw) hx ho⟩
        rw [judgeT_on hq2]
        exact ⟨rfl, by simp, by simp, by simp, fun _ _ => ⟨rfl, rfl⟩, fun _ _ => hb, fun _ => by simp; omega, fun _ => ⟨by simp, rfl, hi, hq2, hm⟩⟩
  · obtain rfl : g = 3 := by omega
    obtain ⟨rfl, rfl⟩ := r5 (by omega) (by omega)
    have hb := r6 (by omega) (by omega)
    obtain rfl := r7 (.inr rfl)
    refine ⟨c, l, sw, _, 4, d, h, l, a, o, rfl, ⟨rfl, by simp, by simp, by simp, fun _ _ => ⟨rfl, rfl⟩, fun _ _ => hb, fun h => by simp at h, fun h => by simp at h⟩, fun w hw => rstep_3 N c sn n d h l a o pg ps _ cg ns cs⟩
  · obtain rfl : g = 4 := by omega
    obtain ⟨rfl, rfl⟩ := r5 (by omega) (by omega)
    have hb := r6 (by omega) (by omega)
    by_cases e : c = d
    · refine ⟨h, sn, h, ⟨n, 6, d, h, i0, q0, m0⟩, 5, d, h, l, a, o, ?_, ⟨rfl, by simp, by simp, by simp, fun _ _ => ⟨rfl, rfl⟩, fun _ _ => hb, fun h => by simp at h, fun h => by simp at h⟩, fun w hw => rstep_4y N c sn n d h l a o pg ps _ cg ns cs e⟩
      unfold stepT
      rw [if_neg (by simp), if_neg (by simp), if_neg (by simp), if_neg (by simp), if_pos rfl, if_pos (show (mk c sn sh gv).getD 0 0 = d from e)]
      rfl
    · refine ⟨c, sn, sw, tr0 n, 0, d, h, l, a, o, ?_, ⟨rfl, by simp [tr0], by simp [tr0], by simp [tr0], fun h => by simp [tr0] at h, fun h => by simp [tr0] at h, fun h => by simp [tr0] at h, fun h => by simp [tr0] at h⟩, fun w hw => rstep_4n N c sn n d h l a o pg ps _ cg ns cs e⟩
      unfold stepT
      rw [if_neg (by simp), if_neg (by simp), if_neg (by simp), if_neg (by simp), if_pos rfl, if_neg (show ¬ (mk c sn sh gv).getD 0 0 = d from e)]
  · obtain rfl : g = 5 := by omega
    exact ⟨c, sn, sw, _, 5, d, h, l, a, o, rfl, ⟨rfl, by simp, by simp, by simp, r5, r6, fun h => by simp at h, fun h => by simp at h⟩, fun w hw => rstep_done N c sn n 5 d h l a o pg ps _ cg ns cs rfl rfl rfl rfl rfl⟩
  · obtain rfl : g = 6 := by omega
    exact ⟨c, sn, sw, _, 6, d, h, l, a, o, rfl, ⟨rfl, by simp, by simp, by simp, r5, r6, fun h => by simp at h, fun h => by simp at h⟩, fun w hw => rstep_done N c sn n 6 d h l a o pg ps _ cg ns cs rfl rfl rfl rfl rfl⟩
end Go.Proofs.Ytjadapjjilegnaa
