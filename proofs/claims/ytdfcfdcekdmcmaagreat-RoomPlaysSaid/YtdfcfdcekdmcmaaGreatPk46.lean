/-
  A claim on both sides, step by step: where it stands, what is read of it, a step of the document's and a step of the room's. Conditions: Pl's.
  A claim on both sides: the document's step, then the room's. Conditions: Pl's.
  A claim begins on both sides: the room's, then the document's. Conditions: BoN's.
-/
import Derived.Test.YtdfcfdcekdmcmaaGreatPk37
import Derived.Test.YtdfcfdcekdmcmaaGreatPk45
set_option linter.unusedVariables false
set_option linter.unusedSimpArgs false
namespace Go.Proofs.YtdfcfdcekdmcmaaGreat
open Go.RowKit
set_option linter.unusedVariables false
set_option linter.unusedSimpArgs false
def Mid (W0 : World) (a : Nat) (P : List Int → Int → Cw → Dw → Prop) (R : Rest) (w : World) : Prop := ∃ cs st C d, P cs st C d ∧ Mv (lay W0.heap.size (C.lys a ++ d.lys) R) W0 w a cs st
theorem lay_bm {W0 : World} : ∀ (ls : List Ly) {Pd : Rest → World → Prop}, Bm W0 Pd → Bm W0 fun R w => Pd (lay W0.heap.size ls R) w
  | [], _, h => h
  | .box p cs T :: ls, _, h => lay_bm ls (bm_box h p cs T)
  | .row T z v n xs :: ls, _, h => lay_bm ls (bm_row h T z v n xs)
theorem mid_bx (W0 : World) (a : Nat) (P : List Int → Int → Cw → Dw → Prop) : Bx W0 (Mid W0 a P) :=
  bx_ex fun cs => bx_ex fun st => bx_ex fun C => bx_ex fun d => bx_and _ (lay_bm _ (mv_bm W0 a cs st)).toBx
theorem gstep_none {R : Rest} {W0 W : World} {p a k cur : Nat} {xs l : List Int} {cl pub sn sc st last least : Int} {ts : Array Value} {seen : Nat} (h : TsF ts p cl last false l seen least) (hm : Sg R W0 W p a k cur [] cl pub sn sc xs st) (hk : k ≤ 20) (hx : xs[cur]? = some pub) (hl : ¬ last - two k ≤ pub) (h0 : 0 ≤ st) (h1 : st < 4611686018427387904) (h2 : -4611686018427387905 ≤ last) (h3 : last ≤ 4611686018427387904) :
    Calls Tryz.prog 86 #[.agg ts] W fun e w' => ∃ ts', e = .returned (.tuple #[.agg ts', .nilIface]) ∧ TsD ts' 0 false true ∧ Sg R W0 w' p a k cur [] cl pub pub sc xs (st + 1) :=
  gstep_end h hm (fun R w hw => gload_first h hw hx h0 h1) (by simp) fun ts2 h2' R w hw => (gend_full h2' rfl hw.c hk hl h2 h3).mono fun e w' ⟨ts', he, hd, hb⟩ => ⟨ts', he, hd, hw.keep hb⟩
def ClR (x : Cr) (y : Dr) (i : Nat) (n : Int) (c t : Array Value) (ds : Int) (far : Nat) : Prop :=
  (1 ≤ n ∧ n ≤ two y.k) ∧
  ((y.many = false ∧ ds = 0 ∧ far = 1 ∧ t = t14 i n 0 y.c (y.c + n) 0 (.slice none 0 0) ∧ ∃ u, c = clA false u tyz ∧ TsF u x.sp y.c (y.c + n) false [] 0 0) ∨
   (y.many = false ∧ ds = 5 ∧ far = 0 ∧ (∃ c0 l, t = t14 i n 5 c0 y.c l (.slice none 0 0)) ∧ ∃ u, c = clA false u tyz ∧ TsD u y.c true false) ∨
   (y.many = false ∧ ds = 6 ∧ far = 0 ∧ (∃ c0 h l, t = t14 i n 6 c0 h l (.slice none 0 0)) ∧ ∃ u, c = clA false u tyz ∧ TsD u 0 false true) ∨
   (y.many = true ∧ ∃ u tr, c = clA true tsZ u ∧ TyF u x.sp tr ∧ tr.n = n ∧
     ((ds = 0 ∧ far = 4 ∧ t = t14 i n 0 0 0 0 (.slice none 0 0) ∧ tr = tr0 n) ∨
      (ds = 1 ∧ far = 3 ∧ (∃ l, t = t14 i n 1 y.c (y.c + n) l (.slice none 0 0)) ∧ tr.stg = 2 ∧ tr.had = y.c ∧ tr.last = y.c + n) ∨
      (ds = 3 ∧ far = 2 ∧ t = t14 i n 3 y.c (y.c + n) y.c (.slice none 0 0) ∧ tr.stg = 4 ∧ tr.had = y.c ∧ tr.last = y.c + n ∧ tr.least = y.c) ∨
      (ds = 4 ∧ far = 1 ∧ (∃ l, t = t14 i n 4 y.c (y.c + n) l (.slice none 0 0)) ∧ tr.stg = 5 ∧ tr.had = y.c ∧ tr.last = y.c + n) ∨
      (ds = 5 ∧ far = 0 ∧ (∃ c0 l, t = t14 i n 5 c0 y.c l (.slice none 0 0)) ∧ tr.stg = 6 ∧ tr.last = y.c))))
def MsR (x : Cr) (y y' : Dr) (i : Nat) (n : Int) (c t : Array Value) (ds : Int) (far : Nat) : Prop :=
  (1 ≤ n ∧ n ≤ two y.k) ∧
  ((y.many = false ∧ y.p < y.c + n - two y.k ∧ y' = { y with sn := y.p } ∧ ds = 6 ∧ far = 0 ∧ (∃ c0 h l, t = t14 i n 6 c0 h l (.slice none 0 0)) ∧ ∃ u, c = clA false u tyz ∧ TsF u x.sp y.c (y.c + n) false [] 0 0) ∨
   (y.many = false ∧ ¬ y.p < y.c + n - two y.k ∧ y' = { y with sn := y.p, c := y.c + n } ∧ ds = 5 ∧ far = 0 ∧ (∃ c0 l, t = t14 i n 5 c0 (y.c + n) l (.slice none 0 0)) ∧ ∃ u, c = clA false u tyz ∧ TsF u x.sp y.c (y.c + n) false [] 0 0) ∨
   (y.many = true ∧ ∃ u tr, c = clA true tsZ u ∧ TyF u x.sp tr ∧ tr.n = n ∧
     ((tr = tr0 n ∧ y' = y ∧ ds = 1 ∧ far = 3 ∧ (∃ l, t = t14 i n 1 y.c (y.c + n) l (.slice none 0 0))) ∨
      ((tr.stg = 2 ∧ tr.had = y.c ∧ tr.last = y.c + n) ∧ (y.c + n - two y.k ≤ y.sn ∧ y.sn ≤ y.c) ∧ y' = y ∧ ds = 4 ∧ far = 1 ∧ (∃ l, t = t14 i n 4 y.c (y.c + n) l (.slice none 0 0))) ∨
      ((tr.stg = 2 ∧ tr.had = y.c ∧ tr.last = y.c + n) ∧ ¬ (y.c + n - two y.k ≤ y.sn ∧ y.sn ≤ y.c) ∧ y' = y ∧ ds = 3 ∧ far = 2 ∧ t = t14 i n 3 y.c (y.c + n) y.c (.slice none 0 0)) ∨
      ((tr.stg = 4 ∧ tr.had = y.c ∧ tr.last = y.c + n ∧ tr.least = y.c) ∧ y' = { y with sn := y.c } ∧ ds = 4 ∧ far = 1 ∧ (∃ l, t = t14 i n 4 y.c (y.c + n) l (.slice none 0 0))) ∨
      ((tr.stg = 5 ∧ tr.had = y.c ∧ tr.last = y.c + n) ∧ y' = { y with c := y.c + n } ∧ ds = 5 ∧ far = 0 ∧ (∃ c0 l, t = t14 i n 5 c0 (y.c + n) l (.slice none 0 0))))))
section
variable {x : Cr} {y : Dr} {i : Nat} {n ds : Int} {c t : Array Value} {far : Nat}
theorem ClR.size (h : ClR x y i n c t ds far) : c.size = 82 ∧ c.all (·.oneCell') = true := by
  obtain ⟨_, ⟨_, _, _, _, u, rfl, hu⟩ | ⟨_, _, _, _, u, rfl, hu⟩ | ⟨_, _, _, _, u, rfl, hu⟩ | ⟨_, u, tr, rfl, hu, _⟩⟩ := h
  · exact ⟨clA_size hu.size tyz_size, clA_one hu.one tyz_f.one⟩
  · exact ⟨clA_size hu.size tyz_size, clA_one hu.one tyz_f.one⟩
  · exact ⟨clA_size hu.size tyz_size, clA_one hu.one tyz_f.one⟩
  · exact ⟨clA_size tsZ_size hu.size, clA_one tsZ_one hu.one⟩
theorem ClR.tt (h : ClR x y i n c t ds far) : (∃ c0 h l, t = t14 i n ds c0 h l (.slice none 0 0)) ∧ (far = 0 ↔ ¬ ds < 5) ∧ far ≤ 4 := by
  obtain ⟨_, ⟨_, rfl, rfl, rfl, _⟩ | ⟨_, rfl, rfl, ⟨_, _, rfl⟩, _⟩ | ⟨_, rfl, rfl, ⟨_, _, _, rfl⟩, _⟩ | ⟨_, u, tr, _, _, _, ⟨rfl, rfl, rfl, _⟩ | ⟨rfl, rfl, ⟨_, rfl⟩, _⟩ | ⟨rfl, rfl, rfl, _⟩ | ⟨rfl, rfl, ⟨_, rfl⟩, _⟩ | ⟨rfl, rfl, ⟨_, _, rfl⟩, _⟩⟩⟩ := h <;> exact ⟨⟨_, _, _, rfl⟩, by omega, by omega⟩
theorem ClR.done (h : ClR x y i n c t ds far) (W : World) : Calls Tryz.prog 25 #[.agg c] W fun e w' => e = .returned (.bool (decide (far = 0))) ∧ Below W.heap.size W w' := by
  obtain ⟨_, ⟨_, rfl, rfl, _, u, rfl, hu⟩ | ⟨_, rfl, rfl, _, u, rfl, hu⟩ | ⟨_, rfl, rfl, _, u, rfl, hu⟩ | ⟨_, u, tr, rfl, hu, _, h⟩⟩ := h
  · exact cdone_one hu.size tyz_size (fun w => gdone_no hu.c0 w) W
  · exact cdone_one hu.size tyz_size (fun w => gdone_yes hu.c0 w) W
  · exact cdone_one hu.size tyz_size (fun w => gdone_yes hu.c0 w) W
  · have e : (tr.stg == 0 || tr.stg == 6 || tr.stg == 7) = decide (far = 0) := by
      rcases h with ⟨_, rfl, _, rfl⟩ | ⟨_, rfl, _, e, _⟩ | ⟨_, rfl, _, e, _⟩ | ⟨_, rfl, _, e, _⟩ | ⟨_, rfl, _, e, _⟩
      · rfl
      all_goals rw [e]; rfl
    rw [← e]
    exact cdone_all tsZ_size hu.size (fun w => tdone hu.c2 w) W
theorem ClR.full (h : ClR x y i n c t ds far) (W : World) : Calls Tryz.prog 27 #[.agg c] W fun e w' => e = .returned (.bool (decide (ds = 6))) ∧ Below W.heap.size W w' := by
  obtain ⟨_, ⟨_, rfl, rfl, _, u, rfl, hu⟩ | ⟨_, rfl, rfl, _, u, rfl, hu⟩ | ⟨_, rfl, rfl, _, u, rfl, hu⟩ | ⟨_, u, tr, rfl, hu, _, h⟩⟩ := h
  · exact cfull_one hu.size tyz_size (fun w => gfull hu.c40 w) W
  · exact cfull_one hu.size tyz_size (fun w => gfull hu.c40 w) W
  · exact cfull_one hu.size tyz_size (fun w => gfull hu.c40 w) W
  · have e : (tr.stg == 7) = decide (ds = 6) := by
      rcases h with ⟨rfl, rfl, _, rfl⟩ | ⟨rfl, rfl, _, e, _⟩ | ⟨rfl, rfl, _, e, _⟩ | ⟨rfl, rfl, _, e, _⟩ | ⟨rfl, rfl, _, e, _⟩
      · rfl
      all_goals rw [e]; rfl
    rw [← e]
    exact cfull_all tsZ_size hu.size (fun w => tfull hu.c2 w) W
theorem ClR.last (h : ClR x y i n c t ds far) : ∃ z : Int, (0 < far → z = -1) ∧ (∀ W : World, Calls Tryz.prog 28 #[.agg c] W fun e w' => e = .returned (.int .i64 z) ∧ Below W.heap.size W w') ∧ ∀ W : World, Calls Tryz.prog 112 #[.agg t] W fun e w' => e = .returned (.int .i64 z) ∧ Below W.heap.size W w' := by
  obtain ⟨_, ⟨_, rfl, rfl, rfl, u, rfl, hu⟩ | ⟨_, rfl, rfl, ⟨_, _, rfl⟩, u, rfl, hu⟩ | ⟨_, rfl, rfl, ⟨_, _, _, rfl⟩, u, rfl, hu⟩ | ⟨_, u, tr, rfl, hu, _, h⟩⟩ := h
  · exact ⟨-1, fun _ => rfl, clast_one hu.size tyz_size (fun w => glast_no hu.c39 w), fun W => dlast W _ _ _ _ _ _⟩
  · exact ⟨_, fun h => absurd h (by decide), clast_one hu.size tyz_size (fun w => glast_yes hu.c2 hu.c39 w), fun W => dlast W _ _ _ _ _ _⟩
  · exact ⟨-1, fun _ => rfl, clast_one hu.size tyz_size (fun w => glast_no hu.c39 w), fun W => dlast W _ _ _ _ _ _⟩
  · have hl : ∀ W : World, Calls Tryz.prog 28 #[.agg (clA true tsZ u)] W fun e w' => e = .returned (.int .i64 (lastOf tr.stg tr.last)) ∧ Below W.heap.size W w' := clast_all tsZ_size hu.size (fun w => tlast hu.c2 hu.c4 w)
    rcases h with ⟨rfl, rfl, rfl, rfl⟩ | ⟨rfl, rfl, ⟨_, rfl⟩, e, _⟩ | ⟨rfl, rfl, rfl, e, _⟩ | ⟨rfl, rfl, ⟨_, rfl⟩, e, _⟩ | ⟨rfl, rfl, ⟨_, _, rfl⟩, e, e2⟩
    · exact ⟨-1, fun _ => rfl, hl, fun W => dlast W _ _ _ _ _ _⟩
    · rw [e] at hl
      exact ⟨-1, fun _ => rfl, hl, fun W => dlast W _ _ _ _ _ _⟩
    · rw [e] at hl
      exact ⟨-1, fun _ => rfl, hl, fun W => dlast W _ _ _ _ _ _⟩
    · rw [e] at hl
      exact ⟨-1, fun _ => rfl, hl, fun W => dlast W _ _ _ _ _ _⟩
    · rw [e, e2] at hl
      exact ⟨_, fun h => absurd h (by decide), hl, fun W => dlast W _ _ _ _ _ _⟩
end
end Go.Proofs.YtdfcfdcekdmcmaaGreat
namespace Go.Proofs.YtdfcfdcekdmcmaaGreat
open Go.RowKit
set_option linter.unusedVariables false
set_option linter.unusedSimpArgs false
def ClP (a q r wb : Nat) (c t : Array Value) (ds : Int) (far : Nat) (cs : List Int) (st : Int) (C : Cw) (d : Dw) : Prop :=
  C.r = r ∧ d.wb = wb ∧ Pl a cs st C d (q + 1) ∧ ∃ i x y n, C.L[i]? = some x ∧ d.L[i]? = some y ∧ (0 < far → y.c ≤ 64 * (q : Int)) ∧ st + far ≤ 2000000 * q + 10 ∧ ClR x y i n c t ds far
def MsP (a q r wb : Nat) (c t : Array Value) (ds : Int) (far : Nat) (cs : List Int) (st : Int) (C : Cw) (d : Dw) : Prop :=
  ∃ d0 i x y y' n, C.r = r ∧ d0.wb = wb ∧ Pl a cs st C d0 (q + 1) ∧ C.L[i]? = some x ∧ d0.L[i]? = some y ∧ d = { d0 with L := d0.L.set i y' } ∧ y.c ≤ 64 * (q : Int) ∧ st + 1 + far ≤ 2000000 * q + 10 ∧ MsR x y y' i n c t ds far
section
variable {R : Rest} {W0 W w : World} {a : Nat} {cs cs' : List Int} {st st' : Int} {C : Cw} {d : Dw} {q i r wb : Nat} {x x' : Cr} {y y' : Dr} {c t : Array Value} {ds : Int} {far : Nat}
theorem mv_dm (h : Mv (lay W0.heap.size (C.lys a ++ d.lys) R) W0 w a cs st) : Dm (lay W0.heap.size (C.lys a) R) W0 w a cs st d := by
  have := Mv.le h (lay_perm List.perm_append_comm)
  rw [lay_app] at this
  exact this
theorem mv_cm (h : Mv (lay W0.heap.size (C.lys a ++ d.lys) R) W0 w a cs st) : Cm (lay W0.heap.size d.lys R) W0 w a cs st C := by
  rw [lay_app] at h
  exact h
theorem dw_same (hy : d.L[i]? = some y) : d = { d with L := d.L.set i y } := by rw [set_same hy]
theorem two64 {k : Nat} (h : k ≤ 6) : two k ≤ 64 := two_mono (b := 6) h
set_option maxHeartbeats 1000000 in
theorem cl_dstep (h : Mid W0 a (ClP a q r wb c t ds far) R W) (hq : q ≤ 1000) (hf : 0 < far) :
    Calls Tryz.prog 111 #[.pointer (some ⟨wb, 0, none⟩), .agg t] W fun e w1 => ∃ t' ds' far', far' < far ∧ e = .returned (.tuple #[.agg t', .int .i64 0]) ∧ Mid W0 a (MsP a q r wb c t' ds' far') R w1 := by
  obtain ⟨cs, st, C, d, ⟨rfl, rfl, pl, i, x, y, n, hx, hy, hc, hst, hn, hr⟩, hmv⟩ := h
  have hc1 := hc hf
  have tw := pl.tw i x y hx hy
  have hl8 := pl.l8
  have hk6 := tw.k6
  have hk : y.k ≤ 20 := by omega
  have h64 := two64 hk6
  have hp := two_pos y.k
  have c0 := tw.c0
  have hdm := mv_dm hmv
  rcases hr with ⟨hm, rfl, rfl, rfl, u, rfl, hu⟩ | ⟨_, _, rfl, _⟩ | ⟨_, _, rfl, _⟩ | ⟨hm, u, tr, rfl, hu, htn, ⟨rfl, rfl, rfl, rfl⟩ | ⟨rfl, rfl, ⟨l, rfl⟩, h2, h3, h4⟩ | ⟨rfl, rfl, rfl, h2, h3, h4, h5⟩ | ⟨rfl, rfl, ⟨l, rfl⟩, h2, h3, h4⟩ | ⟨_, rfl, _⟩⟩
  · by_cases hfull : y.p < y.c + n - two y.k
    · refine (dstep_0full hdm hy hl8 hk hm n y.c (y.c + n) 0 (by omega) (by omega) hfull).mono ?_
      rintro e w1 ⟨rfl, hd⟩
      exact ⟨_, 6, 0, by omega, rfl, cs, st, C, _, ⟨d, i, x, y, _, n, rfl, rfl, pl, hx, hy, rfl, hc1, by omega, hn, .inl ⟨hm, hfull, rfl, rfl, rfl, ⟨_, _, _, rfl⟩, u, rfl, hu⟩⟩, mv_of_dm hd⟩
    · refine (dstep_0got hdm hy hl8 hk hm n y.c (y.c + n) 0 (by omega) (by omega) hfull).mono ?_
      rintro e w1 ⟨rfl, hd⟩
      exact ⟨_, 5, 0, by omega, rfl, cs, st, C, _, ⟨d, i, x, y, _, n, rfl, rfl, pl, hx, hy, rfl, hc1, by omega, hn, .inr (.inl ⟨hm, hfull, rfl, rfl, rfl, ⟨_, _, rfl⟩, u, rfl, hu⟩)⟩, mv_of_dm hd⟩
  · omega
  · omega
  · refine (dstep_0m hdm hy hl8 hk hm n 0 0 0 hn.1 hn.2 c0 (by omega)).mono ?_
    rintro e w1 ⟨rfl, hd⟩
    exact ⟨_, 1, 3, by omega, rfl, cs, st, C, d, ⟨d, i, x, y, y, n, rfl, rfl, pl, hx, hy, dw_same hy, hc1, by omega, hn, .inr (.inr ⟨hm, u, _, rfl, hu, htn, .inl ⟨rfl, rfl, rfl, rfl, _, rfl⟩⟩)⟩, mv_of_dm hd⟩
  · by_cases he : y.c + n - two y.k ≤ y.sn ∧ y.sn ≤ y.c
    · refine (dstep_1y hdm hy hl8 hk hm n y.c (y.c + n) l (by omega) (by omega) he).mono ?_
      rintro e w1 ⟨rfl, hd⟩
      exact ⟨_, 4, 1, by omega, rfl, cs, st, C, d, ⟨d, i, x, y, y, n, rfl, rfl, pl, hx, hy, dw_same hy, hc1, by omega, hn, .inr (.inr ⟨hm, u, tr, rfl, hu, htn, .inr (.inl ⟨⟨h2, h3, h4⟩, he, rfl, rfl, rfl, _, rfl⟩)⟩)⟩, mv_of_dm hd⟩
    · refine (dstep_1n hdm hy hl8 hk hm n y.c (y.c + n) l (by omega) (by omega) (by omega) he).mono ?_
      rintro e w1 ⟨rfl, hd⟩
      exact ⟨_, 3, 2, by omega, rfl, cs, st, C, d, ⟨d, i, x, y, y, n, rfl, rfl, pl, hx, hy, dw_same hy, hc1, by omega, hn, .inr (.inr ⟨hm, u, tr, rfl, hu, htn, .inr (.inr (.inl ⟨⟨h2, h3, h4⟩, he, rfl, rfl, rfl, rfl⟩))⟩)⟩, mv_of_dm hd⟩
  · refine (dstep_3 hdm hy hl8 hk hm n y.c (y.c + n) y.c).mono ?_
    rintro e w1 ⟨rfl, hd⟩
    exact ⟨_, 4, 1, by omega, rfl, cs, st, C, _, ⟨d, i, x, y, _, n, rfl, rfl, pl, hx, hy, rfl, hc1, by omega, hn, .inr (.inr ⟨hm, u, tr, rfl, hu, htn, .inr (.inr (.inr (.inl ⟨⟨h2, h3, h4, h5⟩, rfl, rfl, rfl, _, rfl⟩)))⟩)⟩, mv_of_dm hd⟩
  · refine (dstep_4 hdm hy hl8 hk hm n (y.c + n) l).mono ?_
    rintro e w1 ⟨rfl, hd⟩
    exact ⟨_, 5, 0, by omega, rfl, cs, st, C, _, ⟨d, i, x, y, _, n, rfl, rfl, pl, hx, hy, rfl, hc1, by omega, hn, .inr (.inr ⟨hm, u, tr, rfl, hu, htn, .inr (.inr (.inr (.inr ⟨⟨h2, h3, h4⟩, rfl, rfl, rfl, _, _, rfl⟩)))⟩)⟩, mv_of_dm hd⟩
  · omega
theorem Pl.ring0 (h : Pl a cs st C d q) (hx : C.L[i]? = some x) (hy : d.L[i]? = some y) (ha : Arn cs' (C.L.set i x')) (hcl : cs'.length = cs.length) (tw' : Tw a q x' y') (hst0 : 0 ≤ st') (hst1 : st' ≤ 2000000 * q) : Pl a cs' st' { C with L := C.L.set i x' } { d with L := d.L.set i y' } q :=
  { arn := ha, csl := by simp only [hcl, List.length_set]; exact h.csl, len := by simp only [List.length_set]; exact h.len, l8 := by simp only [List.length_set]; exact h.l8,
    tw := by
      intro k u v hu hv
      simp only at hu hv
      by_cases e : i = k
      · subst e
        rw [List.getElem?_set_self (List.getElem?_eq_some_iff.1 hx).1, Option.some.injEq] at hu
        rw [List.getElem?_set_self (List.getElem?_eq_some_iff.1 hy).1, Option.some.injEq] at hv
        subst hu hv
        exact tw'
      · rw [List.getElem?_set_ne e] at hu hv
        exact h.tw k u v hu hv
    now := h.now, n0 := h.n0, n1 := h.n1, ts := h.ts, xs := h.xs, xl := h.xl, tim := h.tim, dis := h.dis, wb := h.wb, sv := h.sv, st0 := hst0, st1 := hst1 }
theorem many_cstep {u : Array Value} {tr : Tr} {xs' : List Int} {sw' : Int} {tr' : Tr} (hcm : Cm R W0 W a cs st C) (pl : Pl a cs st C d q) (hq : q ≤ 1001) (hx : C.L[i]? = some x) (hmx : x.many = true) (hk : x.k ≤ 20) (hsq : SqF x.cs (x.seq a) [] x.sw) (hu : TyF u x.sp tr) (hok : TOkG x.o (x.o + 1) cs tr)
    (hs : stepG x.o (x.o + 1) (two x.k) [] cs x.sw tr = (xs', sw', tr')) :
    Calls Tryz.prog 26 #[.agg (clA true tsZ u)] W fun e w' => ∃ u' st' k1, e = .returned (.tuple #[.agg (clA true tsZ u'), .nilIface]) ∧ TyF u' x.sp tr' ∧ st ≤ st' ∧ st' ≤ st + 1 ∧ SqF k1 (x.seq a) [] sw' ∧ ∀ c' sn' sh', Cm R W0 w' a xs' st' { C with L := C.L.set i { x with c := c', sn := sn', sw := sw', sh := sh', cs := k1 } } := by
  have hms := hcm.many' hx hmx hk (by have := pl.csl2; have := hok.lc; omega) hsq
  have st0 := pl.st0
  have st1 := pl.st1
  refine (cstep_all (Pd := fun R w => Ms R W0 w (x.seq a) [] x.sw cs st) (Pe := fun R w => ∃ st', (st ≤ st' ∧ st' ≤ st + 1) ∧ Ms R W0 w (x.seq a) [] sw' xs' st') (D := fun u => TyF u x.sp tr') (ms_bx _ _ _ _ _ _) (bx_ex fun _ => bx_and _ (ms_bx _ _ _ _ _ _)) tsZ_size hu.size tsZ_one hu.one hms (fun R w hw => (tstep_gen (s := x.seq a) hu hw hok st0 (by omega)).mono fun e w' hd => by
    obtain ⟨st', a1, a2, ts', he, hf, hm⟩ := hd
    have hs2 : stepG (x.seq a).cur (x.seq a).cch (two (x.seq a).k) [] cs x.sw tr = (xs', sw', tr') := hs
    rw [hs2] at hf hm
    exact ⟨ts', he, hf, st', ⟨a1, a2⟩, hm⟩) (fun u hu => ⟨hu.size, hu.one, _, fun w => tlast hu.c2 hu.c4 w⟩)).mono ?_
  rintro e w' ⟨u', rfl, hu', st', ⟨a1, a2⟩, hm⟩
  obtain ⟨k1, hk1, h2⟩ := hm.boxed
  refine ⟨u', st', k1, rfl, hu', a1, a2, hk1, fun c' sn' sh' => Mv.le h2 ?_⟩
  have e : ({ x with c := c', sn := sn', sw := sw', sh := sh', cs := k1 } : Cr).sq = .box x.sp k1 219 := by simp [Cr.sq, hmx]
  have := lay_perm (B := W0.heap.size) (R := R) (Cw.inY (a := a) (x' := { x with c := c', sn := sn', sw := sw', sh := sh', cs := k1 }) hx rfl rfl rfl rfl)
  rw [e] at this
  exact this
theorem judge_now {N n c : Int} {t : Tr} (hs : t.seen = 0) (hi : t.ids = []) (h1 : t.least = c) (h2 : t.last = c + n) (hn : n ≤ N) : judgeT N t = { t with stg := 4 } := by
  unfold judgeT
  rw [if_neg (by rw [hs, hi]; simp), if_pos (by rw [h1, h2]; omega)]
theorem clp_mk {n : Int} (hcm : Cm (lay W0.heap.size d.lys R) W0 w a cs st C) (hp : Pl a cs st C d (q + 1)) (hr : C.r = r) (hw : d.wb = wb) (hx : C.L[i]? = some x) (hy : d.L[i]? = some y) (h1 : 0 < far → y.c ≤ 64 * (q : Int)) (h2 : st + far ≤ 2000000 * q + 10) (h : ClR x y i n c t ds far) : Mid W0 a (ClP a q r wb c t ds far) R w :=
  ⟨cs, st, C, d, ⟨hr, hw, hp, i, x, y, n, hx, hy, h1, h2, h⟩, mv_of_cm hcm⟩
set_option maxHeartbeats 2000000 in
theorem cl_cstep (h : Mid W0 a (MsP a q r wb c t ds far) R W) (hq : q ≤ 1000) :
    Calls Tryz.prog 26 #[.agg c] W fun e w1 => ∃ c', e = .returned (.tuple #[.agg c', .nilIface]) ∧ Mid W0 a (ClP a q r wb c' t ds far) R w1 := by
  obtain ⟨cs, st, C, d, ⟨d0, i, x, y, y', n, rfl, rfl, pl, hx, hy, rfl, hc1, hst, hn, hr⟩, hmv⟩ := h
  have tw := pl.tw i x y hx hy
  have hk6 := tw.k6
  have hkx : x.k ≤ 20 := by rw [tw.k]; omega
  have h64 := two64 hk6
  have hp := two_pos y.k
  have c0 := tw.c0
  have p0 := tw.p0
  have p1 := tw.p1
  have st0 := pl.st0
  have hcm := mv_cm hmv
  have hil : i < C.L.length := (List.getElem?_eq_some_iff.1 hx).1
  have hil2 : i < d0.L.length := (List.getElem?_eq_some_iff.1 hy).1
  rcases hr with ⟨hm, hfull, rfl, rfl, rfl, ⟨b0, b1, b2, rfl⟩, u, rfl, hu⟩ | ⟨hm, hfull, rfl, rfl, rfl, ⟨b0, b1, rfl⟩, u, rfl, hu⟩ | ⟨hm, u, tr, rfl, hu, htn, hr⟩
  · have hmx : x.many = false := by rw [tw.m, hm]
    have hsg := hcm.one' hx hmx (tw.sg hm).1
    have hcur := pl.cur1 hx tw hm
    refine (cstep_one (Pd := fun R w => Sg R W0 w x.sp a x.k x.o [] x.c x.p x.sn x.sc cs st) (Pe := fun R w => Sg R W0 w x.sp a x.k x.o [] x.c x.p x.p x.sc cs (st + 1)) (D := fun u => TsD u 0 false true) (sg_bx _ _ _ _ _ _ _ _ _ _ _ _) (sg_bx _ _ _ _ _ _ _ _ _ _ _ _) hu.size tyz_size hu.one tyz_f.one hsg (fun R w hw => gstep_none (by rw [tw.c]; exact hu) hw hkx hcur (by rw [tw.p hm, tw.k]; omega) st0 (by omega) (by omega) (by omega)) (fun u hu => ⟨hu.size, hu.one, _, fun w => glast_no hu.c39 w⟩)).mono ?_
    rintro e w1 ⟨u', rfl, hu', hg⟩
    obtain ⟨k1, hk1, hcm1⟩ := Sg.cm hx hmx hg
    have hpl := pl.ring0 (st' := st + 1) (y' := { y with sn := y.p }) (x' := { x with c := x.c, p := x.p, sn := x.p, sc := x.sc, cs := k1 }) hx hy (pl.arn.same hx rfl (by simp [Cr.cells, hmx])) rfl { tw with sn := tw.p hm, s0 := p0, s1 := p1, sg := fun _ => ⟨hk1, Int.le_refl _⟩, sq := fun e => absurd (hm.symm.trans e) (by decide) } (by omega) (by omega)
    exact ⟨_, rfl, clp_mk hcm1 hpl rfl rfl (List.getElem?_set_self hil) (List.getElem?_set_self hil2) (fun e => absurd e (by decide)) (by omega) ⟨hn, .inr (.inr (.inl ⟨hm, rfl, rfl, ⟨_, _, _, rfl⟩, u', rfl, hu'⟩))⟩⟩
  · have hmx : x.many = false := by rw [tw.m, hm]
    have hsg := hcm.one' hx hmx (tw.sg hm).1
    have hcur := pl.cur1 hx tw hm
    refine (cstep_one (Pd := fun R w => Sg R W0 w x.sp a x.k x.o [] x.c x.p x.sn x.sc cs st) (Pe := fun R w => Sg R W0 w x.sp a x.k x.o [] (y.c + n) x.p x.p x.sc cs (st + 1)) (D := fun u => TsD u (y.c + n) true false) (sg_bx _ _ _ _ _ _ _ _ _ _ _ _) (sg_bx _ _ _ _ _ _ _ _ _ _ _ _) hu.size tyz_size hu.one tyz_f.one hsg (fun R w hw => gstep_alone (by rw [tw.c]; exact hu) hw hkx hcur (by rw [tw.p hm, tw.k]; omega) st0 (by omega) (by omega) (by omega)) (fun u hu => ⟨hu.size, hu.one, _, fun w => glast_yes hu.c2 hu.c39 w⟩)).mono ?_
    rintro e w1 ⟨u', rfl, hu', hg⟩
    obtain ⟨k1, hk1, hcm1⟩ := Sg.cm hx hmx hg
    have hpl := pl.ring0 (st' := st + 1) (y' := { y with sn := y.p, c := y.c + n }) (x' := { x with c := y.c + n, p := x.p, sn := x.p, sc := x.sc, cs := k1 }) hx hy (pl.arn.same hx rfl (by simp [Cr.cells, hmx])) rfl { tw with c := rfl, sn := tw.p hm, s0 := p0, s1 := by simp only; omega, shn := fun s v hv => by have := tw.shn s v hv; simp only; omega, c0 := by simp only; omega, c1 := by simp only; omega, p1 := by simp only; omega, sg := fun _ => ⟨hk1, Int.le_refl _⟩, sq := fun e => absurd (hm.symm.trans e) (by decide) } (by omega) (by omega)
    exact ⟨_, rfl, clp_mk hcm1 hpl rfl rfl (List.getElem?_set_self hil) (List.getElem?_set_self hil2) (fun e => absurd e (by decide)) (by omega) ⟨hn, .inr (.inl ⟨hm, rfl, rfl, ⟨_, _, rfl⟩, u', rfl, hu'⟩)⟩⟩
  · have hmx : x.many = true := by rw [tw.m, hm]
    obtain ⟨u1, u2, u3⟩ := pl.curm hx tw hm
    have hc' : cs.getD x.o 0 = y.c := by rw [← tw.c]; exact getD_of u1
    have hs' : cs.getD (x.o + 1) 0 = y.sn := by rw [← tw.sn]; exact getD_of u2
    have hlu := (List.getElem?_eq_some_iff.1 u1).1
    have hlc := (List.getElem?_eq_some_iff.1 u2).1
    have hsq := (tw.sq hm).1
    have hsw := (tw.sq hm).2
    have hnk : n ≤ two x.k := by rw [tw.k]; exact hn.2
    have hok : ∀ {tr : Tr}, tr.n = n → (1 ≤ tr.stg ∧ tr.stg ≤ 7 ∧ tr.stg ≠ 3) → -1 ≤ tr.last → tr.last ≤ y.c + n + 1 → TOkG x.o (x.o + 1) cs tr := fun h1 h2 h3 h4 => ⟨by omega, by omega, h2.1, h2.2.1, by omega, by omega, by omega, by omega, hlu, hlc, fun e => absurd e h2.2.2⟩
    -- nothing of the arena turns, nor of the list's numbers
    have same : ∀ {tr' : Tr} {t' : Array Value} {ds' : Int} {far' : Nat}, tr'.n = n → stepG x.o (x.o + 1) (two x.k) [] cs x.sw tr = (cs, x.sw, tr') → TOkG x.o (x.o + 1) cs tr → st + 1 + far' ≤ 2000000 * q + 10 →
        ((ds' = 1 ∧ far' = 3 ∧ (∃ l, t' = t14 i n 1 y.c (y.c + n) l (.slice none 0 0)) ∧ tr'.stg = 2 ∧ tr'.had = y.c ∧ tr'.last = y.c + n) ∨ (ds' = 3 ∧ far' = 2 ∧ t' = t14 i n 3 y.c (y.c + n) y.c (.slice none 0 0) ∧ tr'.stg = 4 ∧ tr'.had = y.c ∧ tr'.last = y.c + n ∧ tr'.least = y.c) ∨ (ds' = 4 ∧ far' = 1 ∧ (∃ l, t' = t14 i n 4 y.c (y.c + n) l (.slice none 0 0)) ∧ tr'.stg = 5 ∧ tr'.had = y.c ∧ tr'.last = y.c + n)) →
        y' = y → Calls Tryz.prog 26 #[.agg (clA true tsZ u)] W fun e w1 => ∃ c', e = .returned (.tuple #[.agg c', .nilIface]) ∧ Mid W0 a (ClP a q C.r d0.wb c' t' ds' far') R w1 := by
      intro tr' t' ds' far' h1 h2 h3 h4 h5 h6
      subst h6
      refine (many_cstep hcm pl (by omega) hx hmx hkx hsq hu h3 h2).mono ?_
      rintro e w1 ⟨u', st', k1, rfl, hu', a1, a2, hk1, hcm1⟩
      have hpl := pl.ring0 (st' := st') (y' := y') (x' := { x with c := x.c, sn := x.sn, sw := x.sw, sh := x.sh, cs := k1 }) hx hy (pl.arn.same hx rfl rfl) rfl { tw with sg := fun e => absurd (hm.symm.trans e) (by decide), sq := fun _ => ⟨hk1, hsw⟩ } (by omega) (by omega)
      refine ⟨_, rfl, clp_mk (hcm1 x.c x.sn x.sh) hpl rfl rfl (List.getElem?_set_self hil) (List.getElem?_set_self hil2) (fun _ => hc1) (by omega) ⟨hn, .inr (.inr (.inr ⟨hm, u', tr', rfl, hu', h1, ?_⟩))⟩⟩
      rcases h5 with h5 | h5 | h5
      · exact .inr (.inl h5)
      · exact .inr (.inr (.inl h5))
      · exact .inr (.inr (.inr (.inl h5)))
    rcases hr with ⟨rfl, hy', rfl, rfl, ⟨l, rfl⟩⟩ | ⟨⟨h2, h3, h4⟩, he, hy', rfl, rfl, ⟨l, rfl⟩⟩ | ⟨⟨h2, h3, h4⟩, he, hy', rfl, rfl, rfl⟩ | ⟨⟨h2, h3, h4, h5⟩, rfl, rfl, rfl, ⟨l, rfl⟩⟩ | ⟨⟨h2, h3, h4⟩, rfl, rfl, rfl, ⟨l0, l, rfl⟩⟩
    · exact same (tr' := { tr0 n with had := y.c, last := y.c + n, stg := 2 }) rfl (by unfold stepG; rw [if_pos (show (tr0 n).stg = 1 from rfl), hc']; rfl) (hok rfl ⟨by simp [tr0], by simp [tr0], by simp [tr0]⟩ (by simp [tr0]) (by simp [tr0]; omega)) hst (.inl ⟨rfl, rfl, ⟨l, rfl⟩, rfl, rfl, rfl⟩) hy'
    · exact same (tr' := { tr with stg := 5 }) htn (by unfold stepG; rw [if_neg (by omega), if_pos h2, hs', if_pos ⟨by omega, by rw [h4, tw.k]; omega⟩]) (hok htn ⟨by omega, by omega, by omega⟩ (by omega) (by omega)) hst (.inr (.inr ⟨rfl, rfl, ⟨l, rfl⟩, rfl, h3, h4⟩)) hy'
    · exact same (tr' := { tr with ids := [], seen := 0, least := tr.had, stg := 4 }) htn (by unfold stepG; rw [if_neg (by omega), if_pos h2, hs', if_neg (fun e => he ⟨by have := e.2; rw [h4, tw.k] at this; omega, by have := e.1; omega⟩), judge_now (t := { tr with ids := [], seen := 0, least := tr.had }) (c := y.c) (n := n) rfl rfl h3 h4 hnk]) (hok htn ⟨by omega, by omega, by omega⟩ (by omega) (by omega)) hst (.inr (.inl ⟨rfl, rfl, rfl, rfl, h3, h4, h3⟩)) hy'
    · refine (many_cstep (tr' := { tr with stg := 5 }) (xs' := cs.set (x.o + 1) y.c) (sw' := x.sw) hcm pl (by omega) hx hmx hkx hsq hu (hok htn ⟨by omega, by omega, by omega⟩ (by omega) (by omega)) (by unfold stepG; rw [if_neg (by omega), if_neg (by omega), if_neg (by omega), if_pos h2, h5])).mono ?_
      rintro e w1 ⟨u', st', k1, rfl, hu', a1, a2, hk1, hcm1⟩
      have hpl := pl.ring0 (cs' := cs.set (x.o + 1) y.c) (st' := st') (y' := { y with sn := y.c }) (x' := { x with c := x.c, sn := y.c, sw := x.sw, sh := x.sh, cs := k1 }) hx hy (pl.arn.put (m := 1) hx (by rw [tw.cells_many hm]; simp) rfl (by simp [Cr.cells, hmx])) (by simp) { tw with sn := rfl, s0 := c0, s1 := Int.le_refl _, sg := fun e => absurd (hm.symm.trans e) (by decide), sq := fun _ => ⟨hk1, hsw⟩ } (by omega) (by omega)
      exact ⟨_, rfl, clp_mk (hcm1 x.c y.c x.sh) hpl rfl rfl (List.getElem?_set_self hil) (List.getElem?_set_self hil2) (fun _ => hc1) (by omega) ⟨hn, .inr (.inr (.inr ⟨hm, u', _, rfl, hu', htn, .inr (.inr (.inr (.inl ⟨rfl, rfl, ⟨l, rfl⟩, rfl, h3, h4⟩)))⟩))⟩⟩
    · refine (many_cstep (tr' := { tr with stg := 6 }) (xs' := cs.set x.o (y.c + n)) (sw' := y.c + n) hcm pl (by omega) hx hmx hkx hsq hu (hok htn ⟨by omega, by omega, by omega⟩ (by omega) (by omega)) (by unfold stepG; rw [if_neg (by omega), if_neg (by omega), if_neg (by omega), if_neg (by omega), if_pos h2, hc', if_pos h3.symm, h4])).mono ?_
      rintro e w1 ⟨u', st', k1, rfl, hu', a1, a2, hk1, hcm1⟩
      have hpl := pl.ring0 (cs' := cs.set x.o (y.c + n)) (st' := st') (y' := { y with c := y.c + n }) (x' := { x with c := y.c + n, sn := x.sn, sw := y.c + n, sh := x.sh, cs := k1 }) hx hy (pl.arn.put (m := 0) hx (by rw [tw.cells_many hm]; simp) rfl (by simp [Cr.cells, hmx])) (by simp) { tw with c := rfl, s1 := by have := tw.s1; simp only; omega, shn := fun s v hv => by have := tw.shn s v hv; simp only; omega, c0 := by simp only; omega, c1 := by simp only; omega, p1 := by simp only; omega, sg := fun e => absurd (hm.symm.trans e) (by decide), sq := fun _ => ⟨hk1, Int.le_refl _⟩ } (by omega) (by omega)
      exact ⟨_, rfl, clp_mk (hcm1 (y.c + n) x.sn x.sh) hpl rfl rfl (List.getElem?_set_self hil) (List.getElem?_set_self hil2) (fun e => absurd e (by decide)) (by omega) ⟨hn, .inr (.inr (.inr ⟨hm, u', _, rfl, hu', htn, .inr (.inr (.inr (.inr ⟨rfl, rfl, ⟨l0, l, rfl⟩, rfl, h4⟩)))⟩))⟩⟩
end
end Go.Proofs.YtdfcfdcekdmcmaaGreat
namespace Go.Proofs.YtdfcfdcekdmcmaaGreat
open Go.RowKit
set_option linter.unusedVariables false
set_option linter.unusedSimpArgs false
def PlP (a q r wb : Nat) (cs : List Int) (st : Int) (C : Cw) (d : Dw) : Prop := C.r = r ∧ d.wb = wb ∧ Pl a cs st C d q
def MnP (a q r wb : Nat) (z n : Int) (c : Array Value) (f : Int) (cs : List Int) (st : Int) (C : Cw) (d : Dw) : Prop :=
  C.r = r ∧ d.wb = wb ∧
  ((f = 3 ∧ Pl a cs st C d (q + 1) ∧ (z < 0 ∨ (d.L.length : Int) ≤ z) ∧ c = clA false tsZ tyz) ∨
   (f = 1 ∧ Pl a cs st C d (q + 1) ∧ (∃ (i : Nat) (y : Dr), z = i ∧ d.L[i]? = some y ∧ (n < 1 ∨ two y.k < n)) ∧ c = clA false tsZ tyz) ∨
   (f = 0 ∧ Pl a cs st C d (q + 1) ∧ st ≤ 2000000 * q ∧ (∃ (i : Nat) (x : Cr) (y : Dr), z = i ∧ C.L[i]? = some x ∧ d.L[i]? = some y ∧ y.c ≤ 64 * (q : Int) ∧ 1 ≤ n ∧ n ≤ two y.k ∧
      ((y.many = true ∧ ∃ u, c = clA true tsZ u ∧ TyF u x.sp (tr0 n)) ∨ (y.many = false ∧ ¬ (y.c + n - two y.k ≤ y.sn ∧ y.sn ≤ y.c) ∧ ∃ u, c = clA false u tyz ∧ TsF u x.sp y.c (y.c + n) false [] 0 0)))) ∨
   (f = 0 ∧ st ≤ 2000000 * q ∧ (∃ (i : Nat) (x : Cr) (y : Dr), z = i ∧ C.L[i]? = some x ∧ d.L[i]? = some y ∧ Pl a cs st C { d with L := d.L.set i { y with c := y.c + n } } (q + 1) ∧ y.k ≤ 6 ∧ -1 ≤ y.c ∧ y.c ≤ 64 * (q : Int) ∧ -1 ≤ y.sn ∧ 1 ≤ n ∧ n ≤ two y.k ∧ d.L.length ≤ 8 ∧
      (y.many = false ∧ (y.c + n - two y.k ≤ y.sn ∧ y.sn ≤ y.c) ∧ ∃ u, c = clA false u tyz ∧ TsD u (y.c + n) true false))))
section
variable {R : Rest} {W0 W w : World} {a : Nat} {cs : List Int} {st : Int} {C : Cw} {d : Dw} {q r wb : Nat} {c t : Array Value} {z n f ds : Int} {far : Nat}
theorem tsZ_d : TsD tsZ 0 false false := tsA_d sc_nil
theorem Refused.errat {W w : World} {q : Nat} {n : Int} (h : Refused W w (Flt q) n) (hn : n ≠ 0) : ErrAt w (Flt q) n := errat1 hn (NewE.ofR h).1
set_option maxHeartbeats 2000000 in
theorem cl_new (h : Bo R W0 W a cs st C d q) (hq : q ≤ 1000) (z n : Int) :
    Calls Tryz.prog 24 #[.pointer (some ⟨C.r, 0, none⟩), .int .i64 z, .int .i64 n] W fun e w1 => ∃ c E f, e = .returned (.tuple #[.agg c, E]) ∧ ErrAt w1 E f ∧ Mid W0 a (MnP a q C.r d.wb z n c f) R w1 := by
  by_cases hz : z < 0 ∨ (d.L.length : Int) ≤ z
  · obtain ⟨p, cap, _, c3⟩ := h.cm.c3
    refine (rclaim_out c3 (by rw [h.pl.len]; exact h.pl.l8) z n (by rw [h.pl.len]; exact hz)).mono ?_
    rintro e w1 ⟨q1, rfl, hr⟩
    exact ⟨_, _, 3, rfl, hr.errat (by decide), cs, st, C, d, ⟨rfl, rfl, .inl ⟨rfl, h.pl.up (by omega), hz, rfl⟩⟩, mv_of_cm (h.cm.keep hr.below)⟩
  obtain ⟨i, rfl⟩ : ∃ i : Nat, z = i := ⟨z.toNat, by omega⟩
  obtain ⟨x, y, hx, hy, tw⟩ := h.pl.at (i := i) (by omega)
  have hl8 : C.L.length ≤ 8 := by rw [h.pl.len]; exact h.pl.l8
  have hil : i < C.L.length := (List.getElem?_eq_some_iff.1 hx).1
  have hk6 := tw.k6
  have hkx : x.k ≤ 20 := by rw [tw.k]; omega
  have h64 := two64 hk6
  have c0 := tw.c0
  have c1 := tw.c1
  have sc := tw.sc
  have st0 := h.pl.st0
  have st1 := h.pl.st1
  have tw1 := tw.up (Nat.le_succ q)
  rcases Bool.eq_false_or_eq_true y.many with hm | hm
  case inr =>
    have hmx : x.many = false := by rw [tw.m, hm]
    obtain ⟨o1, o2⟩ := one_f hmx
    have hsg := h.cm.one' hx hmx (tw.sg hm).1
    have hfd := fun op w hi => Cw.Y_find (a := a) (W0 := W0) (R := lay W0.heap.size d.lys R) hx hl8 (h.cm.one hx) op w hi
    have hgr : ∀ w : World, (lay W0.heap.size (C.Y a i x) (lay W0.heap.size d.lys R)).inv w → w.cell? ⟨x.g, 1, none⟩ = some (.pointer (some ⟨x.sp, 0, none⟩)) ∧ w.cell? ⟨x.g, 2, none⟩ = some (.pointer none) := fun w hi => by
      obtain ⟨rg, cap, _, hr⟩ := Cw.Y_at (a := a) hx hl8 (h.cm.one hx) hi
      have h1 := hr.rn
      rw [o1, o2] at h1
      exact ⟨(obj_cell h1 1).trans rfl, (obj_cell h1 2).trans rfl⟩
    by_cases hn : n < 1 ∨ two y.k < n
    · refine (rclaim_bad_one (Pd := fun R w => Sg R W0 w x.sp a x.k x.o [] x.c x.p x.sn x.sc cs st) (sg_bx _ _ _ _ _ _ _ _ _ _ _ _) hsg n hfd hgr (fun R w hw => (gtry_bad hw hkx n (by rw [tw.k]; exact hn)).mono fun e w' ⟨q1, he, hr⟩ => ⟨q1, he, NewE.ofR hr⟩)).mono ?_
      rintro e w1 ⟨q1, rfl, hch, hg⟩
      obtain ⟨k1, hk1, hcm1⟩ := Sg.cm hx hmx hg
      have hpl := (h.pl.up (Nat.le_succ q)).ring0 (y' := y) (st' := st) (x' := { x with c := x.c, p := x.p, sn := x.sn, sc := x.sc, cs := k1 }) hx hy (h.pl.arn.same hx rfl rfl) rfl { tw1 with sg := fun e => ⟨hk1, (tw.sg e).2⟩, sq := fun e => absurd (hm.symm.trans e) (by decide) } (by omega) (by omega)
      rw [← dw_same hy] at hpl
      exact ⟨_, _, 1, rfl, errat2 (by decide) hch, cs, st, { C with L := C.L.set i _ }, d, ⟨rfl, rfl, .inr (.inl ⟨rfl, hpl, ⟨i, y, rfl, hy, hn⟩, rfl⟩)⟩, mv_of_cm hcm1⟩
    · have hn1 : 1 ≤ n := by omega
      have hn2 : n ≤ two y.k := by omega
      have hs1 := tw.s1
      by_cases he : y.c + n - two y.k ≤ y.sn
      · refine (rclaim_one (Pd := fun R w => Sg R W0 w x.sp a x.k x.o [] x.c x.p x.sn x.sc cs st) (Pe := fun R w => Sg R W0 w x.sp a x.k x.o [] (y.c + n) x.p x.sn x.sc cs st) (D := fun u => TsD u (y.c + n) true false) (sg_bx _ _ _ _ _ _ _ _ _ _ _ _) (sg_bx _ _ _ _ _ _ _ _ _ _ _ _) hsg n hfd hgr (fun R w hw => by
          have := gtry_got hw hkx n hn1 (by rw [tw.k]; exact hn2) (by rw [tw.c]; exact c0) (by rw [tw.c]; omega) (by rw [tw.c, tw.k, tw.sn]; exact he)
          rw [tw.c] at this
          exact this) (fun u hu => ⟨hu.size, hu.one⟩)).mono ?_
        rintro e w1 ⟨u, rfl, hu, hg⟩
        obtain ⟨k1, hk1, hcm1⟩ := Sg.cm hx hmx hg
        have hpl := (h.pl.up (Nat.le_succ q)).ring0 (y' := { y with c := y.c + n }) (st' := st) (x' := { x with c := y.c + n, p := x.p, sn := x.sn, sc := x.sc, cs := k1 }) hx hy (h.pl.arn.same hx rfl (by simp [Cr.cells, hmx])) rfl { tw1 with c := rfl, s1 := by simp only; omega, shn := fun s v hv => by have := tw.shn s v hv; simp only; omega, c0 := by simp only; omega, c1 := by simp only; omega, p1 := by have := tw.p1; simp only; omega, sg := fun e => ⟨hk1, (tw.sg e).2⟩, sq := fun e => absurd (hm.symm.trans e) (by decide) } (by omega) (by omega)
        exact ⟨_, _, 0, rfl, ErrAt.none _, cs, st, { C with L := C.L.set i _ }, d, ⟨rfl, rfl, .inr (.inr (.inr ⟨rfl, st1, i, _, y, rfl, List.getElem?_set_self hil, hy, hpl, hk6, c0, c1, tw.s0, hn1, hn2, h.pl.l8, hm, ⟨he, hs1⟩, u, rfl, hu⟩))⟩, mv_of_cm hcm1⟩
      · refine (rclaim_one (Pd := fun R w => Sg R W0 w x.sp a x.k x.o [] x.c x.p x.sn x.sc cs st) (Pe := fun R w => Sg R W0 w x.sp a x.k x.o [] x.c x.p x.sn (x.sc + 1) cs st) (D := fun u => TsF u x.sp y.c (y.c + n) false [] 0 0) (sg_bx _ _ _ _ _ _ _ _ _ _ _ _) (sg_bx _ _ _ _ _ _ _ _ _ _ _ _) hsg n hfd hgr (fun R w hw => by
          have := gtry_scan hw hkx n hn1 (by rw [tw.k]; exact hn2) (by rw [tw.c]; exact c0) (by rw [tw.c]; omega) (by rw [tw.c, tw.k, tw.sn]; exact he) sc.1 (by omega)
          rw [tw.c] at this ⊢
          exact this) (fun u hu => ⟨hu.size, hu.one⟩)).mono ?_
        rintro e w1 ⟨u, rfl, hu, hg⟩
        obtain ⟨k1, hk1, hcm1⟩ := Sg.cm hx hmx hg
        have hpl := (h.pl.up (Nat.le_succ q)).ring0 (y' := y) (st' := st) (x' := { x with c := x.c, p := x.p, sn := x.sn, sc := x.sc + 1, cs := k1 }) hx hy (h.pl.arn.same hx rfl rfl) rfl { tw1 with sc := by simp only; omega, sg := fun e => ⟨hk1, (tw.sg e).2⟩, sq := fun e => absurd (hm.symm.trans e) (by decide) } (by omega) (by omega)
        rw [← dw_same hy] at hpl
        exact ⟨_, _, 0, rfl, ErrAt.none _, cs, st, { C with L := C.L.set i _ }, d, ⟨rfl, rfl, .inr (.inr (.inl ⟨rfl, hpl, st1, i, _, y, rfl, List.getElem?_set_self hil, hy, c1, hn1, hn2, .inr ⟨hm, fun e => he e.1, u, rfl, hu⟩⟩))⟩, mv_of_cm hcm1⟩
  case inl =>
    have hmx : x.many = true := by rw [tw.m, hm]
    obtain ⟨o1, o2⟩ := one_t hmx
    have cl2 := h.pl.csl2
    obtain ⟨u1, u2, u3⟩ := h.pl.curm hx tw hm
    have hlc := (List.getElem?_eq_some_iff.1 u2).1
    have hms := h.cm.many' hx hmx hkx (by omega) (tw.sq hm).1
    have hfd := fun op w hi => Cw.Y_find (a := a) (W0 := W0) (R := lay W0.heap.size d.lys R) hx hl8 (h.cm.one hx) op w hi
    have hgr : ∀ w : World, (lay W0.heap.size (C.Y a i x) (lay W0.heap.size d.lys R)).inv w → w.cell? ⟨x.g, 2, none⟩ = some (.pointer (some ⟨x.sp, 0, none⟩)) := fun w hi => by
      obtain ⟨rg, cap, _, hr⟩ := Cw.Y_at (a := a) hx hl8 (h.cm.one hx) hi
      have h1 := hr.rn
      rw [o1, o2] at h1
      exact (obj_cell h1 2).trans rfl
    by_cases hn : n < 1 ∨ two y.k < n
    · refine (rclaim_bad_all (Pd := fun R w => Ms R W0 w (x.seq a) [] x.sw cs st) (ms_bx _ _ _ _ _ _) hms n hfd hgr (fun R w hw => (mtry_arg hw.c hkx n (by show n < 1 ∨ two x.k < n; rw [tw.k]; exact hn)).mono fun e w' ⟨ts, E, he, hz, hr⟩ => by
        obtain ⟨q1, rfl, hr⟩ := hr
        exact ⟨ts, q1, he, hz, hr⟩)).mono ?_
      rintro e w1 ⟨q1, rfl, hch, hg⟩
      obtain ⟨k1, hk1, hcm1⟩ := Ms.cm (c := x.c) (sn := x.sn) (sh := x.sh) hx hmx hg
      have hpl := (h.pl.up (Nat.le_succ q)).ring0 (y' := y) (st' := st) (x' := { x with c := x.c, sn := x.sn, sw := x.sw, sh := x.sh, cs := k1 }) hx hy (h.pl.arn.same hx rfl rfl) rfl { tw1 with sg := fun e => absurd (hm.symm.trans e) (by decide), sq := fun e => ⟨hk1, (tw.sq e).2⟩ } (by omega) (by omega)
      rw [← dw_same hy] at hpl
      exact ⟨_, _, 1, rfl, errat2 (by decide) hch, cs, st, { C with L := C.L.set i _ }, d, ⟨rfl, rfl, .inr (.inl ⟨rfl, hpl, ⟨i, y, rfl, hy, hn⟩, rfl⟩)⟩, mv_of_cm hcm1⟩
    · have hn1 : 1 ≤ n := by omega
      have hn2 : n ≤ two y.k := by omega
      refine (rclaim_all (Pd := fun R w => Ms R W0 w (x.seq a) [] x.sw cs st) (Pe := fun R w => Ms R W0 w (x.seq a) [] x.sw cs st) (D := fun u => TyF u x.sp (tr0 n)) (ms_bx _ _ _ _ _ _) (ms_bx _ _ _ _ _ _) hms n hfd hgr (fun R w hw => (mtry_ok hw.c hkx n hn1 (by show n ≤ two x.k; rw [tw.k]; exact hn2)).mono fun e w' ⟨ts, he, hf, hb⟩ => ⟨ts, he, hf, hw.keep hb⟩) (fun u hu => ⟨hu.size, hu.one⟩)).mono ?_
      rintro e w1 ⟨u, rfl, hu, hg⟩
      obtain ⟨k1, hk1, hcm1⟩ := Ms.cm (c := x.c) (sn := x.sn) (sh := x.sh) hx hmx hg
      have hpl := (h.pl.up (Nat.le_succ q)).ring0 (y' := y) (st' := st) (x' := { x with c := x.c, sn := x.sn, sw := x.sw, sh := x.sh, cs := k1 }) hx hy (h.pl.arn.same hx rfl rfl) rfl { tw1 with sg := fun e => absurd (hm.symm.trans e) (by decide), sq := fun e => ⟨hk1, (tw.sq e).2⟩ } (by omega) (by omega)
      rw [← dw_same hy] at hpl
      exact ⟨_, _, 0, rfl, ErrAt.none _, cs, st, { C with L := C.L.set i _ }, d, ⟨rfl, rfl, .inr (.inr (.inl ⟨rfl, hpl, st1, i, _, y, rfl, List.getElem?_set_self hil, hy, c1, hn1, hn2, .inl ⟨hm, u, rfl, hu⟩⟩))⟩, mv_of_cm hcm1⟩
def NwP (a q r wb : Nat) (c t : Array Value) (f : Int) (cs : List Int) (st : Int) (C : Cw) (d : Dw) : Prop :=
  (f ≠ 0 ∧ t = t14 0 0 0 0 0 0 (.slice none 0 0) ∧ c = clA false tsZ tyz ∧ PlP a (q + 1) r wb cs st C d) ∨ (f = 0 ∧ ∃ ds far, ClP a q r wb c t ds far cs st C d)
set_option maxHeartbeats 1000000 in
theorem cl_dnew (h : Mid W0 a (MnP a q r wb z n c f) R W) (hq : q ≤ 1000) :
    Calls Tryz.prog 110 #[.pointer (some ⟨wb, 0, none⟩), .int .i64 z, .int .i64 n] W fun e w2 => ∃ t, e = .returned (.tuple #[.agg t, .int .i64 f]) ∧ (f ≠ 0 → Below W.heap.size W w2) ∧ Mid W0 a (NwP a q r wb c t f) R w2 := by
  obtain ⟨cs, st, C, d, ⟨rfl, rfl, h⟩, hmv⟩ := h
  have hdm := mv_dm hmv
  rcases h with ⟨rfl, pl, hz, rfl⟩ | ⟨rfl, pl, ⟨i, y, rfl, hy, hn⟩, rfl⟩ | ⟨rfl, pl, hst, i, x, y, rfl, hx, hy, hc, hn1, hn2, h⟩ | ⟨rfl, hst, i, x, y, rfl, hx, hy, pl, hk6, c0, c1, s0, hn1, hn2, hl8, hm, he, u, rfl, hu⟩
  · refine (dtrynew_none hdm z n hz pl.l8).mono ?_
    rintro e w2 ⟨rfl, hd, hb⟩
    exact ⟨_, rfl, fun _ => hb, cs, st, C, d, .inl ⟨by decide, rfl, rfl, rfl, rfl, pl⟩, mv_of_dm hd⟩
  · refine (dtrynew_arg hdm hy pl.l8 n hn).mono ?_
    rintro e w2 ⟨rfl, hd, hb⟩
    exact ⟨_, rfl, fun _ => hb, cs, st, C, d, .inl ⟨by decide, rfl, rfl, rfl, rfl, pl⟩, mv_of_dm hd⟩
  · have tw := pl.tw i x y hx hy
    have hk6 := tw.k6
    have hk : y.k ≤ 20 := by omega
    have h64 := two64 hk6
    have c0 := tw.c0
    rcases h with ⟨hm, u, rfl, hu⟩ | ⟨hm, he, u, rfl, hu⟩
    · refine (dtrynew_many hdm hy pl.l8 hk hm n hn1 hn2).mono ?_
      rintro e w2 ⟨rfl, hd⟩
      exact ⟨_, rfl, fun e => absurd rfl e, cs, st, C, d, .inr ⟨rfl, 0, 4, rfl, rfl, pl, i, x, y, n, hx, hy, fun _ => hc, by omega, ⟨hn1, hn2⟩, .inr (.inr (.inr ⟨hm, u, _, rfl, hu, rfl, .inl ⟨rfl, rfl, rfl, rfl⟩⟩))⟩, mv_of_dm hd⟩
    · refine (dtrynew_short hdm hy pl.l8 hk hm n hn1 hn2 c0 (by omega) tw.s0 he).mono ?_
      rintro e w2 ⟨rfl, hd⟩
      exact ⟨_, rfl, fun e => absurd rfl e, cs, st, C, d, .inr ⟨rfl, 0, 1, rfl, rfl, pl, i, x, y, n, hx, hy, fun _ => hc, by omega, ⟨hn1, hn2⟩, .inl ⟨hm, rfl, rfl, rfl, u, rfl, hu⟩⟩, mv_of_dm hd⟩
  · have hk : y.k ≤ 20 := by omega
    have h64 := two64 hk6
    refine (dtrynew_got hdm hy hl8 hk hm n hn1 hn2 c0 (by omega) s0 he).mono ?_
    rintro e w2 ⟨rfl, hd⟩
    have hil2 : i < d.L.length := (List.getElem?_eq_some_iff.1 hy).1
    exact ⟨_, rfl, fun e => absurd rfl e, cs, st, C, { d with L := d.L.set i { y with c := y.c + n } }, .inr ⟨rfl, 5, 0, rfl, rfl, pl, i, x, _, n, hx, List.getElem?_set_self hil2, fun e => absurd e (by decide), by omega, ⟨hn1, hn2⟩, .inr (.inl ⟨hm, rfl, rfl, ⟨_, _, rfl⟩, u, rfl, hu⟩)⟩, mv_of_dm hd⟩
theorem mn_size (h : Mid W0 a (MnP a q r wb z n c f) R w) : c.size = 82 ∧ c.all (·.oneCell') = true := by
  obtain ⟨cs, st, C, d, ⟨_, _, h⟩, _⟩ := h
  rcases h with ⟨_, _, _, rfl⟩ | ⟨_, _, _, rfl⟩ | ⟨_, _, _, i, x, y, _, _, _, _, _, _, ⟨_, u, rfl, hu⟩ | ⟨_, _, u, rfl, hu⟩⟩ | ⟨_, _, i, x, y, _, _, _, _, _, _, _, _, _, _, _, _, _, u, rfl, hu⟩
  · exact ⟨clA_size tsZ_size tyz_size, clA_one tsZ_one tyz_f.one⟩
  · exact ⟨clA_size tsZ_size tyz_size, clA_one tsZ_one tyz_f.one⟩
  · exact ⟨clA_size tsZ_size hu.size, clA_one tsZ_one hu.one⟩
  · exact ⟨clA_size hu.size tyz_size, clA_one hu.one tyz_f.one⟩
  · exact ⟨clA_size hu.size tyz_size, clA_one hu.one tyz_f.one⟩
theorem cl_c (h : Mid W0 a (ClP a q r wb c t ds far) R w) : (c.size = 82 ∧ c.all (·.oneCell') = true) ∧ (∃ i n c0 h l, t = t14 i n ds c0 h l (.slice none 0 0)) ∧ (far = 0 ↔ ¬ ds < 5) ∧ far ≤ 4 ∧ (∀ W : World, Calls Tryz.prog 25 #[.agg c] W fun e w' => e = .returned (.bool (decide (far = 0))) ∧ Below W.heap.size W w') ∧ (∀ W : World, Calls Tryz.prog 27 #[.agg c] W fun e w' => e = .returned (.bool (decide (ds = 6))) ∧ Below W.heap.size W w') ∧
    ∃ z : Int, (0 < far → z = -1) ∧ (∀ W : World, Calls Tryz.prog 28 #[.agg c] W fun e w' => e = .returned (.int .i64 z) ∧ Below W.heap.size W w') ∧ ∀ W : World, Calls Tryz.prog 112 #[.agg t] W fun e w' => e = .returned (.int .i64 z) ∧ Below W.heap.size W w' := by
  obtain ⟨cs, st, C, d, ⟨_, _, _, i, x, y, n, _, _, _, _, h⟩, _⟩ := h
  obtain ⟨⟨c0, h1, l, e⟩, h2, h3⟩ := h.tt
  exact ⟨h.size, ⟨_, _, _, _, _, e⟩, h2, h3, h.done, h.full, h.last⟩
theorem cl_over (h : Mid W0 a (ClP a q r wb c t ds far) R w) : Mid W0 a (PlP a (q + 1) r wb) R w := by
  obtain ⟨cs, st, C, d, ⟨h1, h2, h3, _⟩, hm⟩ := h
  exact ⟨cs, st, C, d, ⟨h1, h2, h3⟩, hm⟩
theorem clz_done (W : World) : Calls Tryz.prog 25 #[.agg (clA false tsZ tyz)] W fun e w' => e = .returned (.bool true) ∧ Below W.heap.size W w' := cdone_one tsZ_size tyz_size (fun w => gdone_yes tsZ_d.c0 w) W
theorem clz_last (W : World) : Calls Tryz.prog 28 #[.agg (clA false tsZ tyz)] W fun e w' => e = .returned (.int .i64 (-1)) ∧ Below W.heap.size W w' := clast_one tsZ_size tyz_size (fun w => glast_no tsZ_d.c39 w) W
theorem run_alloc_t14 (w : World) : (Instr.alloc 193 true (.tuple #[])).run Tryz.prog w = .ok (.pointer (some ⟨w.heap.size, 0, none⟩)) (w.alloc (.cells (t14 0 0 0 0 0 0 (.slice none 0 0)) 193)) := by kernel_rfl
theorem wpList_alloc_t14 {ops : Array Oper} {rest : List Oper} {o : Oper} {a : Act} {w : World} {Q : Exit → Act → World → Prop} (hg : o.guard = none) (ho : o.op = .alloc 193)
    (h : ∀ zs : Array Value, zs.size = 7 → wpList Tryz.prog ops Q rest (a.put o.dst (.pointer (some ⟨w.heap.size, 0, none⟩))) (w.alloc (.cells zs 193))) : wpList Tryz.prog ops Q (o :: rest) a w := by
  refine Great.wpList_runTo hg o.dst rfl _ _ ?_ (h (t14 0 0 0 0 0 0 (.slice none 0 0)) rfl)
  unfold execOp
  simp only [ho, Sem.run_bind, run_alloc_t14, Result.andThen_ok, Sem.run_pure]
end
end Go.Proofs.YtdfcfdcekdmcmaaGreat
