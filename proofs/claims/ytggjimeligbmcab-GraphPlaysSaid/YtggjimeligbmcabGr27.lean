/-
  The document's Drop of layer 13, by contract. Conditions: a graph in which nobody is behind itself.
-/
import Derived.Test.YtggjimeligbmcabGr26
namespace Go.Proofs.Ytggjimeligbmcab
open Go.RowKit
set_option linter.unusedVariables false

section
variable {B : Nat} {W w w' : World} {va vg va' vg' : Value} {G G' : List Nd} {N N' : List Value}
/-- Two new blocks: the graph's box, the result's. -/
structure Bx (W w : World) (va vg ra rg : Value) : Prop where
  b : w.heap[W.heap.size]? = some (.cells #[va, vg] 30 (0, 0))
  r : w.heap[W.heap.size + 1]? = some (.cells #[ra, rg] 30 (0, 0))
  lo : Below W.heap.size W w
theorem Bx.start (W : World) (va vg : Value) : Bx W ((W.alloc (.cells #[va, vg] 30)).alloc (.cells #[.slice none 0 0, .slice none 0 0] 30)) va vg (.slice none 0 0) (.slice none 0 0) :=
  ⟨obj_old _ (obj_new _ _), by have := obj_new (W.alloc (.cells #[va, vg] 30)) (.cells #[.slice none 0 0, .slice none 0 0] 30); simpa using this, balloc (balloc (Below.refl _ _) _) _⟩
theorem Bx.keep {ra rg : Value} (h : Bx W w va vg ra rg) (hb : Below w.heap.size w w') : Bx W w' va vg ra rg := ⟨(hb.block _ (lt_of_block h.b)).trans h.b, (hb.block _ (lt_of_block h.r)).trans h.r, bthen h.lo hb⟩
theorem Bx.frm {ra rg : Value} {S : Nat → Prop} (h : Bx W w va vg ra rg) (hf : Frm S w w') (hS : ∀ k, S k → k < W.heap.size) : w'.heap[W.heap.size]? = some (.cells #[va, vg] 30 (0, 0)) ∧ w'.heap[W.heap.size + 1]? = some (.cells #[ra, rg] 30 (0, 0)) :=
  ⟨hf.obj h.b fun hk => Nat.lt_irrefl _ (hS _ hk), hf.obj h.r fun hk => by have := hS _ hk; omega⟩
theorem Rz.ret {w3 w4 y : World} (h : Rw B W va vg G N) (hb : Below W.heap.size W w3) (h3 : W.heap.size + 1 < w3.heap.size) (hs : Rz B w3 w4 va vg N va' vg' G') (hf : Frm (fun k => k = W.heap.size + 1) w4 y) : Rz B W y va vg N va' vg' G' := by
  obtain ⟨⟨N', h1, h2⟩, h4⟩ := hs
  refine ⟨⟨N', h1.frm hf fun k hk e => ?_, fun k hk => (h2 k hk).imp id fun hk => by have := hb.size; omega⟩, ((Frm.of_below hb _).then h4 fun _ _ hk => hk).then hf fun k hk e => by omega⟩
  rcases h2 k hk with hk | hk
  · have := (h.own_lt hk).2
    omega
  · omega
set_option maxRecDepth 100000 in
set_option maxHeartbeats 2000000 in
theorem rdrop (h : Rw B W va vg G N) (hG : GOk G) (x : Int) :
    Calls Try.prog 18 #[.agg #[va, vg], .int .i64 x] W fun e w' => e = .returned (.tuple #[.agg #[va, vg], .int .i64 (dropBadG G x)]) ∧ Rz B W w' va vg N va vg (dropN G x) := by
  obtain ⟨qa, qg, hr⟩ := h.rr
  have HH := Lib.hid hr
  have HW := Lib.hid h
  have HG := Lib.hid hG
  have hlen := hG.len
  have HX := Lib.hid (Bx.start W va vg)
  obtain ⟨pa, ca, rfl, ha⟩ := hr.a
  obtain ⟨pg, cg, rfl, hg⟩ := hr.g
  have HA := Lib.hid ha
  have HGG := Lib.hid hg
  clear h hG hr ha hg
  cases hb : hasI G x with
  | false =>
    have HB := Lib.hid hb
    have HD : Hid (dropBadG G x = 3 ∧ dropN G x = G) := Lib.hid (by simp [dropN, dropBadG, hb])
    clear hb
    go_enter Try.func18, Try.ntmps18
    go_upto_region 1 with fail
    generalize (W.alloc (.cells #[.slice pa G.length ca, .slice pg G.length cg] 30)).alloc (.cells #[.slice none 0 0, .slice none 0 0] 30) = w1 at *
    have b0 : w1.cell? ⟨W.heap.size, 0, none⟩ = some (.slice pa G.length ca) := (obj_cell HX.out.b 0).trans rfl
    have b1 : w1.cell? ⟨W.heap.size, 1, none⟩ = some (.slice pg G.length cg) := (obj_cell HX.out.b 1).trans rfl
    go_upto_region 2 with (go_at_call 23; refine (rhas (HH.out.keep HX.out.lo) _ hlen).mono ?_; rintro e w2 ⟨rfl, hb⟩; rw [HB.out]; have HX2 := Lib.hid (HX.out.keep hb); clear hb b0 b1)
    have b0 : w2.cell? ⟨W.heap.size, 0, none⟩ = some (.slice pa G.length ca) := (obj_cell HX2.out.b 0).trans rfl
    have b1 : w2.cell? ⟨W.heap.size, 1, none⟩ = some (.slice pg G.length cg) := (obj_cell HX2.out.b 1).trans rfl
    have r0 : w2.cell? ⟨W.heap.size + 1, 0, none⟩ = some (.slice none 0 0) := (obj_cell HX2.out.r 0).trans rfl
    have r1 : w2.cell? ⟨W.heap.size + 1, 1, none⟩ = some (.slice none 0 0) := (obj_cell HX2.out.r 1).trans rfl
    have f0 := obj_free HX2.out.r 0
    have f1 := obj_free HX2.out.r 1
    go_wp2_with fail
    refine bodyPost_ret (by simp [results, Try.results18, go_sem, r0, r1]; try rfl) rfl ?_
    rw [HD.out.1, HD.out.2]
    exact ⟨rfl, .of_below HW.out ((HX2.out.lo.setCell (p := ⟨W.heap.size + 1, 0, none⟩) (by simp) _).setCell (p := ⟨W.heap.size + 1, 1, none⟩) (by simp) _)⟩
  | true =>
    obtain ⟨n, rfl, hk⟩ := hasI_yes hb
    have hnl := has_lt hk
    obtain rfl := HA.out (by omega)
    obtain rfl := HGG.out (by omega)
    have HB := Lib.hid hb
    have HDB : Hid (dropBadG G (n : Int) = if behL G (n : Int) G.length = [] then 0 else 18) := Lib.hid (by simp [dropBadG, hb])
    clear hb hk
    have hbl : (behL G (n : Int) G.length).length ≤ G.length := filter_len _ _
    go_enter Try.func18, Try.ntmps18
    go_upto_region 1 with fail
    generalize (W.alloc (.cells #[.slice (some ⟨qa, 0, none⟩) G.length ca, .slice (some ⟨qg, 0, none⟩) G.length cg] 30)).alloc (.cells #[.slice none 0 0, .slice none 0 0] 30) = w1 at *
    have b0 : w1.cell? ⟨W.heap.size, 0, none⟩ = some (.slice (some ⟨qa, 0, none⟩) G.length ca) := (obj_cell HX.out.b 0).trans rfl
    have b1 : w1.cell? ⟨W.heap.size, 1, none⟩ = some (.slice (some ⟨qg, 0, none⟩) G.length cg) := (obj_cell HX.out.b 1).trans rfl
    go_upto_region 3 with (go_at_call 23; refine (rhas (HH.out.keep HX.out.lo) _ hlen).mono ?_; rintro e w2 ⟨rfl, hb⟩; rw [HB.out]; have HX2 := Lib.hid (HX.out.keep hb); clear hb b0 b1)
    have b0 : w2.cell? ⟨W.heap.size, 0, none⟩ = some (.slice (some ⟨qa, 0, none⟩) G.length ca) := (obj_cell HX2.out.b 0).trans rfl
    have b1 : w2.cell? ⟨W.heap.size, 1, none⟩ = some (.slice (some ⟨qg, 0, none⟩) G.length cg) := (obj_cell HX2.out.b 1).trans rfl
    cases hem : behL G (n : Int) G.length with
    | nil =>
      have HEM := Lib.hid hem
      have HE0 : Hid (dropBadG G (n : Int) = 0 ∧ dropN G (n : Int) = dropG G n) := Lib.hid (by
        have : dropBadG G (n : Int) = 0 := by rw [HDB.out, hem]; rfl
        exact ⟨this, by unfold dropN; rw [if_pos this]; simp⟩)
      clear hem hbl
      go_upto_region 5 with (go_at_call 28; refine (rbehind (HH.out.keep HX2.out.lo) HG.out _).mono ?_; rintro e w3 ⟨v3, rfl, hf⟩; rw [HEM.out] at hf; obtain ⟨p3, c3, rfl, -⟩ := row_form hf.1; have HX3 := Lib.hid (HX2.out.keep hf.2); clear hf b0 b1)
      have HW3 := Lib.hid (HW.out.keep HX3.out.lo)
      have HFR : Hid (∀ S : Nat → Prop, (∀ k, S k → k < W.heap.size) → ∀ y, Frm S w3 y → y.heap[W.heap.size]? = some (.cells #[.slice (some ⟨qa, 0, none⟩) G.length ca, .slice (some ⟨qg, 0, none⟩) G.length cg] 30 (0, 0)) ∧ y.heap[W.heap.size + 1]? = some (.cells #[.slice none 0 0, .slice none 0 0] 30 (0, 0))) := Lib.hid fun S hS y hf => HX3.out.frm hf hS
      have HQL : Hid (qa < W.heap.size ∧ qg < W.heap.size ∧ qa ≠ qg) := Lib.hid ⟨(HW.out.ra.lt qa rfl).2, (HW.out.rg.lt qg rfl).2, fun e => row_t_ne HW.out.ra HW.out.rg (by decide) (k := qa) rfl (by rw [e]; rfl)⟩
      have HGA := Lib.hid (HW3.out.gone_at rfl rfl hnl)
      have HK3 := Lib.hid (HH.out.keep HX3.out.lo)
      have ka := HK3.out.af n hnl
      have kg := HK3.out.gn n hnl
      have fa := HW3.out.fa rfl n
      have fg := HW3.out.fg rfl n
      have hq := HQL.out
      have b0 : w3.cell? ⟨W.heap.size, 0, none⟩ = some (.slice (some ⟨qa, 0, none⟩) G.length ca) := (obj_cell HX3.out.b 0).trans rfl
      have b1 : w3.cell? ⟨W.heap.size, 1, none⟩ = some (.slice (some ⟨qg, 0, none⟩) G.length cg) := (obj_cell HX3.out.b 1).trans rfl
      go_upto_region 6 with fail
      have HY1 : Hid (Frm (fun k => k = qg) w3 (w3.setCell ⟨qg, n, none⟩ (.bool true))) := Lib.hid ((Frm.refl (fun k => k = qg) w3).setCell (p := ⟨qg, n, none⟩) rfl _)
      have ka2 := HY1.out.cell ka hq.2.2
      have b02 : (w3.setCell ⟨qg, n, none⟩ (.bool true)).cell? ⟨W.heap.size, 0, none⟩ = some (.slice (some ⟨qa, 0, none⟩) G.length ca) := HY1.out.cell b0 (by omega)
      go_upto_region 7 with fail
      have HY2 : Hid (Frm (fun k => k = qg ∨ k = qa) w3 ((w3.setCell ⟨qg, n, none⟩ (.bool true)).setCell ⟨qa, n, none⟩ (.slice none 0 0))) := Lib.hid ((HY1.out.mono fun _ _ h => .inl h).setCell (p := ⟨qa, n, none⟩) (.inr rfl) _)
      obtain ⟨z1, z2⟩ := HFR.out (fun k => k = qg ∨ k = qa) (fun k hk => by omega) _ HY2.out
      generalize (w3.setCell ⟨qg, n, none⟩ (.bool true)).setCell ⟨qa, n, none⟩ (.slice none 0 0) = w4 at *
      clear b0 b1 ka kg fa fg ka2 b02 HY1
      have b0 : w4.cell? ⟨W.heap.size, 0, none⟩ = some (.slice (some ⟨qa, 0, none⟩) G.length ca) := (obj_cell z1 0).trans rfl
      have b1 : w4.cell? ⟨W.heap.size, 1, none⟩ = some (.slice (some ⟨qg, 0, none⟩) G.length cg) := (obj_cell z1 1).trans rfl
      have r0 : w4.cell? ⟨W.heap.size + 1, 0, none⟩ = some (.slice none 0 0) := (obj_cell z2 0).trans rfl
      have r1 : w4.cell? ⟨W.heap.size + 1, 1, none⟩ = some (.slice none 0 0) := (obj_cell z2 1).trans rfl
      have f0 := obj_free z2 0
      have f1 := obj_free z2 1
      clear z1 z2
      go_wp2_with fail
      refine bodyPost_ret (by simp [results, Try.results18, go_sem, r0, r1]; try rfl) rfl ?_
      rw [HE0.out.1, HE0.out.2]
      exact ⟨rfl, Rz.ret HW.out HX3.out.lo (lt_of_block HX3.out.r) HGA.out (((Frm.refl (fun k => k = W.heap.size + 1) w4).setCell (p := ⟨W.heap.size + 1, 0, none⟩) rfl _).setCell (p := ⟨W.heap.size + 1, 1, none⟩) rfl _)⟩
    | cons y ys =>
      have HEM := Lib.hid hem
      rw [hem] at hbl
      have HYL : Hid ((y :: ys).length = ys.length + 1) := Lib.hid rfl
      have HD : Hid (dropBadG G (n : Int) = 18 ∧ dropN G (n : Int) = G) := Lib.hid (by
        have : dropBadG G (n : Int) = 18 := by rw [HDB.out, hem, if_neg (by simp)]
        exact ⟨this, by unfold dropN; rw [if_neg (by rw [this]; decide)]⟩)
      clear hem
      go_upto_region 4 with (go_at_call 28; refine (rbehind (HH.out.keep HX2.out.lo) HG.out _).mono ?_; rintro e w3 ⟨v3, rfl, hf⟩; rw [HEM.out] at hf; obtain ⟨p3, c3, rfl, -⟩ := row_form hf.1; have HX3 := Lib.hid (HX2.out.keep hf.2); rw [HYL.out]; clear hf b0 b1)
      have b0 : w3.cell? ⟨W.heap.size, 0, none⟩ = some (.slice (some ⟨qa, 0, none⟩) G.length ca) := (obj_cell HX3.out.b 0).trans rfl
      have b1 : w3.cell? ⟨W.heap.size, 1, none⟩ = some (.slice (some ⟨qg, 0, none⟩) G.length cg) := (obj_cell HX3.out.b 1).trans rfl
      have r0 : w3.cell? ⟨W.heap.size + 1, 0, none⟩ = some (.slice none 0 0) := (obj_cell HX3.out.r 0).trans rfl
      have r1 : w3.cell? ⟨W.heap.size + 1, 1, none⟩ = some (.slice none 0 0) := (obj_cell HX3.out.r 1).trans rfl
      have f0 := obj_free HX3.out.r 0
      have f1 := obj_free HX3.out.r 1
      go_wp2_with fail
      refine bodyPost_ret (by simp [results, Try.results18, go_sem, r0, r1]; try rfl) rfl ?_
      rw [HD.out.1, HD.out.2]
      exact ⟨rfl, .of_below HW.out ((HX3.out.lo.setCell (p := ⟨W.heap.size + 1, 0, none⟩) (by simp) _).setCell (p := ⟨W.heap.size + 1, 1, none⟩) (by simp) _)⟩
end
end Go.Proofs.Ytggjimeligbmcab
