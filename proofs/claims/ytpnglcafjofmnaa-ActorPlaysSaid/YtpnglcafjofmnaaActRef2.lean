/-
  The document's Add and Runnable by contract. Conditions: its rows are its own; at most 1048576 actors.
-/
import Derived.Test.YtpnglcafjofmnaaActRef
namespace Go.Proofs.Ytpnglcafjofmnaa
open Go.RowKit

/-- Rows on their way, seen from the world that they began in. -/
def Gx (W w : World) (M : Nat) (u1 u2 u3 v1 v2 v3 : Value) (n1 n2 n3 : Nat) (x1 x2 x3 : List Value) : Prop :=
  Rg w M v1 v2 v3 n1 n2 n3 x1 x2 x3 ∧ Frm (fun k => k = M ∨ u1.ownBlock = some k ∨ u2.ownBlock = some k ∨ u3.ownBlock = some k) W w ∧
    (v1.ownBlock = u1.ownBlock ∨ ∀ g, v1.ownBlock = some g → W.heap.size ≤ g) ∧ (v2.ownBlock = u2.ownBlock ∨ ∀ g, v2.ownBlock = some g → W.heap.size ≤ g) ∧ (v3.ownBlock = u3.ownBlock ∨ ∀ g, v3.ownBlock = some g → W.heap.size ≤ g)
theorem Gx.start {W : World} {M : Nat} {v1 v2 v3 : Value} {n1 n2 n3 : Nat} {x1 x2 x3 : List Value} (h : Rg W M v1 v2 v3 n1 n2 n3 x1 x2 x3) : Gx W W M v1 v2 v3 v1 v2 v3 n1 n2 n3 x1 x2 x3 := ⟨h, Frm.refl _ _, .inl rfl, .inl rfl, .inl rfl⟩

theorem own_next {W w : World} {u v v' : Value} {o : Obj} (hs : W.heap.size ≤ w.heap.size) (h : v.ownBlock = u.ownBlock ∨ ∀ g, v.ownBlock = some g → W.heap.size ≤ g) (hv : v'.ownBlock = v.ownBlock ∨ ∀ g, v'.ownBlock = some g → (w.alloc o).heap.size ≤ g) :
    v'.ownBlock = u.ownBlock ∨ ∀ g, v'.ownBlock = some g → W.heap.size ≤ g := by
  rcases hv with hv | hv
  · rcases h with h | h
    · exact .inl (hv.trans h)
    · exact .inr fun g hg => h g (by rw [← hv]; exact hg)
  · exact .inr fun g hg => by have := hv g hg; simp at this; omega

theorem Gx.put1 {W w w5 : World} {M : Nat} {u1 u2 u3 v1 v2 v3 v' x : Value} {n1 n2 n3 : Nat} {x1 x2 x3 : List Value} {o : Obj} (h : Gx W w M u1 u2 u3 v1 v2 v3 n1 n2 n3 x1 x2 x3)
    (ho : w5.ownsRow 0 3 1 v' (n1 + 1) (x1 ++ [x])) (hf : Frm (fun q => v1.ownBlock = some q) (w.alloc o) w5) (hv : v'.ownBlock = v1.ownBlock ∨ ∀ g, v'.ownBlock = some g → (w.alloc o).heap.size ≤ g) :
    w5.heap[M]? = some (.cells #[v1, v2, v3] 84 (0, 0)) ∧ Gx W (w5.setCell ⟨M, 0, none⟩ v') M u1 u2 u3 v' v2 v3 (n1 + 1) n2 n3 (x1 ++ [x]) x2 x3 := by
  obtain ⟨hr, hF, o1, o2, o3⟩ := h
  have n1' := hr.ne1
  obtain ⟨h0, r1, r2, r3, hd⟩ := hr
  have e0 := hf.obj (obj_old o h0) n1'
  have k2 := hf.row (r2.alloc _) fun g hg e => rows_neA r1 r2 (by decide) hg e
  have k3 := hf.row (r3.alloc _) fun g hg e => hd g e hg
  have hS : Frm (fun k => k = M) w5 (w5.setCell ⟨M, 0, none⟩ v') := (Frm.refl (fun k => k = M) w5).setCell (p := ⟨M, 0, none⟩) rfl _
  have hs := hF.size
  refine ⟨e0, ⟨obj_setCell v' e0, hS.row ho fun g hg e => row_ne ho e0 (by decide) (by rw [hg, e]), hS.row k2 fun g hg e => row_ne k2 e0 (by decide) (by rw [hg, e]), hS.row k3 fun g hg e => row_ne k3 e0 (by decide) (by rw [hg, e]), ?_⟩, ?_, own_next hs o1 hv, o2, o3⟩
  · intro g hg e
    rcases hv with hv | hv
    · exact hd g (by rw [← hv]; exact hg) e
    · have := hv g hg
      have := row_lt r3 e
      simp at *
      omega
  · refine ((hF.alloc o).then hf fun k hk e => ?_).setCell (p := ⟨M, 0, none⟩) (.inl rfl) _
    rcases o1 with o1 | o1
    · exact .inr (.inl (by rw [← o1]; exact e))
    · have := o1 k e; omega

theorem Gx.put2 {W w w5 : World} {M : Nat} {u1 u2 u3 v1 v2 v3 v' x : Value} {n1 n2 n3 : Nat} {x1 x2 x3 : List Value} {o : Obj} (h : Gx W w M u1 u2 u3 v1 v2 v3 n1 n2 n3 x1 x2 x3)
    (ho : w5.ownsRow 0 4 1 v' (n2 + 1) (x2 ++ [x])) (hf : Frm (fun q => v2.ownBlock = some q) (w.alloc o) w5) (hv : v'.ownBlock = v2.ownBlock ∨ ∀ g, v'.ownBlock = some g → (w.alloc o).heap.size ≤ g) :
    w5.heap[M]? = some (.cells #[v1, v2, v3] 84 (0, 0)) ∧ Gx W (w5.setCell ⟨M, 1, none⟩ v') M u1 u2 u3 v1 v' v3 n1 (n2 + 1) n3 x1 (x2 ++ [x]) x3 := by
  obtain ⟨hr, hF, o1, o2, o3⟩ := h
  have n2' := hr.ne2
  obtain ⟨h0, r1, r2, r3, hd⟩ := hr
  have e0 := hf.obj (obj_old o h0) n2'
  have k1 := hf.row (r1.alloc _) fun g hg e => rows_neA r2 r1 (by decide) hg e
  have k3 := hf.row (r3.alloc _) fun g hg e => rows_neA r2 r3 (by decide) hg e
  have hS : Frm (fun k => k = M) w5 (w5.setCell ⟨M, 1, none⟩ v') := (Frm.refl (fun k => k = M) w5).setCell (p := ⟨M, 1, none⟩) rfl _
  have hs := hF.size
  refine ⟨e0, ⟨obj_setCell v' e0, hS.row k1 fun g hg e => row_ne k1 e0 (by decide) (by rw [hg, e]), hS.row ho fun g hg e => row_ne ho e0 (by decide) (by rw [hg, e]), hS.row k3 fun g hg e => row_ne k3 e0 (by decide) (by rw [hg, e]), hd⟩, ?_, o1, own_next hs o2 hv, o3⟩
  · refine ((hF.alloc o).then hf fun k hk e => ?_).setCell (p := ⟨M, 1, none⟩) (.inl rfl) _
    rcases o2 with o2 | o2
    · exact .inr (.inr (.inl (by rw [← o2]; exact e)))
    · have := o2 k e; omega

theorem Gx.put3 {W w w5 : World} {M : Nat} {u1 u2 u3 v1 v2 v3 v' x : Value} {n1 n2 n3 : Nat} {x1 x2 x3 : List Value} {o : Obj} (h : Gx W w M u1 u2 u3 v1 v2 v3 n1 n2 n3 x1 x2 x3)
    (ho : w5.ownsRow 0 3 1 v' (n3 + 1) (x3 ++ [x])) (hf : Frm (fun q => v3.ownBlock = some q) (w.alloc o) w5) (hv : v'.ownBlock = v3.ownBlock ∨ ∀ g, v'.ownBlock = some g → (w.alloc o).heap.size ≤ g) :
    w5.heap[M]? = some (.cells #[v1, v2, v3] 84 (0, 0)) ∧ Gx W (w5.setCell ⟨M, 2, none⟩ v') M u1 u2 u3 v1 v2 v' n1 n2 (n3 + 1) x1 x2 (x3 ++ [x]) := by
  obtain ⟨hr, hF, o1, o2, o3⟩ := h
  have n3' := hr.ne3
  obtain ⟨h0, r1, r2, r3, hd⟩ := hr
  have e0 := hf.obj (obj_old o h0) n3'
  have k1 := hf.row (r1.alloc _) fun g hg e => hd g hg e
  have k2 := hf.row (r2.alloc _) fun g hg e => rows_neA r3 r2 (by decide) hg e
  have hS : Frm (fun k => k = M) w5 (w5.setCell ⟨M, 2, none⟩ v') := (Frm.refl (fun k => k = M) w5).setCell (p := ⟨M, 2, none⟩) rfl _
  have hs := hF.size
  refine ⟨e0, ⟨obj_setCell v' e0, hS.row k1 fun g hg e => row_ne k1 e0 (by decide) (by rw [hg, e]), hS.row k2 fun g hg e => row_ne k2 e0 (by decide) (by rw [hg, e]), hS.row ho fun g hg e => row_ne ho e0 (by decide) (by rw [hg, e]), ?_⟩, ?_, o1, o2, own_next hs o3 hv⟩
  · intro g hg e
    rcases hv with hv | hv
    · exact hd g hg (by rw [← hv]; exact e)
    · have := hv g e
      have := row_lt r1 hg
      simp at *
      omega
  · refine ((hF.alloc o).then hf fun k hk e => ?_).setCell (p := ⟨M, 2, none⟩) (.inl rfl) _
    rcases o3 with o3 | o3
    · exact .inr (.inr (.inr (by rw [← o3]; exact e)))
    · have := o3 k e; omega

/-- A step of the document's table. -/
def RtStep (W w' : World) (M : Nat) (u1 u2 u3 : Value) (xs : List Ac) : Prop :=
  ∃ v1 v2 v3, Rt w' M v1 v2 v3 xs ∧ Frm (fun k => k = M ∨ u1.ownBlock = some k ∨ u2.ownBlock = some k ∨ u3.ownBlock = some k) W w' ∧
    (v1.ownBlock = u1.ownBlock ∨ ∀ g, v1.ownBlock = some g → W.heap.size ≤ g) ∧ (v2.ownBlock = u2.ownBlock ∨ ∀ g, v2.ownBlock = some g → W.heap.size ≤ g) ∧ (v3.ownBlock = u3.ownBlock ∨ ∀ g, v3.ownBlock = some g → W.heap.size ≤ g)
theorem RtSet.step {W w' : World} {M : Nat} {v1 v2 v3 : Value} {xs : List Ac} (h : RtSet W w' M v1 v2 v3 xs) : RtStep W w' M v1 v2 v3 xs := ⟨v1, v2, v3, h.1, h.2.mono fun _ _ => .inr, .inl rfl, .inl rfl, .inl rfl⟩
theorem Gx.fin {W w : World} {M : Nat} {u1 u2 u3 v1 v2 v3 : Value} {xs : List Ac} (h : Gx W w M u1 u2 u3 v1 v2 v3 (xs.length + 1) (xs.length + 1) (xs.length + 1) (sts xs ++ [.int .i64 0]) (tks xs ++ [.bool false]) (wks xs ++ [.int .i64 0])) : RtStep W w M u1 u2 u3 (xs ++ [(0, false, 0)]) := by
  refine ⟨v1, v2, v3, ?_, h.2⟩
  have h1 := h.1
  unfold Rt
  rw [List.length_append]
  have e1 : sts (xs ++ [(0, false, 0)]) = sts xs ++ [.int .i64 0] := by simp [sts]
  have e2 : tks (xs ++ [(0, false, 0)]) = tks xs ++ [.bool false] := by simp [tks]
  have e3 : wks (xs ++ [(0, false, 0)]) = wks xs ++ [.int .i64 0] := by simp [wks]
  rw [e1, e2, e3]
  exact h1

theorem one_cellS (w : World) (p : Addr) (u x : Value) (t : TypeId) : ∀ j y, [x][j]? = some y → ((w.setCell p u).alloc (.cells #[x] t)).cell? ((⟨w.heap.size, 0, none⟩ : Addr).add j) = some y := by
  have h := one_cellA (w.setCell p u) x t
  have e : (w.setCell p u).heap.size = w.heap.size := by simp [World.setCell]
  rw [e] at h
  exact h

set_option maxRecDepth 100000 in
set_option maxHeartbeats 2000000 in
theorem radd_some (W : World) (M : Nat) (v1 v2 v3 : Value) (xs : List Ac) (h : Rt W M v1 v2 v3 xs) (hl : (xs.length : Int) < 64) :
    Calls Try.prog 37 #[.pointer (some ⟨M, 0, none⟩)] W fun e w' => e = .returned (.int .i64 0) ∧ RtStep W w' M v1 v2 v3 (xs ++ [(0, false, 0)]) := by
  obtain ⟨i0, hi0, hz0, hz1, hz2⟩ := info_parts infoAI
  obtain ⟨i1, hi1, hy0, hy1, hy2⟩ := info_parts infoAB
  have H := Lib.hid h
  have HG := Lib.hid (Gx.start h)
  obtain ⟨m0, m1, m2, e0, e1, e2⟩ := h.c
  obtain ⟨p1, c1, rfl, hc1⟩ := row_form h.2.1
  obtain ⟨p2, c2, rfl, hc2⟩ := row_form h.2.2.1
  obtain ⟨p3, c3, rfl, hc3⟩ := row_form h.2.2.2.1
  have hB : decide ((64 : Int) ≤ (xs.length : Int)) = false := by rw [decide_eq_false_iff_not]; omega
  have HB := Lib.hid hl
  clear h hl hc1 hc2 hc3
  go_enter Try.func37, Try.ntmps37
  go_wp2_with (first
    | (at_builtin; refine wpList_append_row rfl _ _ 62 rfl 3 i0 (.int .i64 0) 1 8 Try.underlying62 hi0 hz0 hz1 hz2 rfl (by decide) (.slice p3 xs.length c3) xs.length _ rfl (HG2.out.1.2.2.2.1.alloc _) ⟨_, 0, none⟩ 1 1 [.int .i64 0] rfl rfl (one_cellS _ _ _ _ _) (fun x hx => by simp at hx; subst hx; rfl) (by have := HB.out; unfold maxLen; omega) (by have := HB.out; omega) ?_; intro v3' w9 hown9 hf9 hv9; obtain ⟨ob9, hg9⟩ := Gx.put3 HG2.out hown9 hf9 hv9; have q0 := (obj_cell ob9 2).trans rfl; have q1 := obj_free ob9 2; obtain ⟨p9, c9, rfl, hc9⟩ := row_form hown9; have HG3 := Lib.hid hg9; clear ob9 hg9 hown9 hf9 hv9 hc9)
    | (at_builtin; refine wpList_append_row rfl _ _ 82 rfl 4 i1 (.bool false) 1 1 Try.underlying82 hi1 hy0 hy1 hy2 rfl (by decide) (.slice p2 xs.length c2) xs.length _ rfl (HG1.out.1.2.2.1.alloc _) ⟨_, 0, none⟩ 1 1 [.bool false] rfl rfl (one_cellS _ _ _ _ _) (fun x hx => by simp at hx; subst hx; rfl) (by have := HB.out; unfold maxLen; omega) (by have := HB.out; omega) ?_; intro v2' w7 hown7 hf7 hv7; obtain ⟨ob7, hg7⟩ := Gx.put2 HG1.out hown7 hf7 hv7; have r0 := (obj_cell ob7 1).trans rfl; have r1 := obj_free ob7 1; have r2 := (obj_cell ob7 2).trans rfl; obtain ⟨p7, c7, rfl, hc7⟩ := row_form hown7; have HG2 := Lib.hid hg7; clear ob7 hg7 hown7 hf7 hv7 hc7)
    | (at_builtin; refine wpList_append_row rfl _ _ 62 rfl 3 i0 (.int .i64 0) 1 8 Try.underlying62 hi0 hz0 hz1 hz2 rfl (by decide) (.slice p1 xs.length c1) xs.length _ rfl (HG.out.1.2.1.alloc _) ⟨W.heap.size, 0, none⟩ 1 1 [.int .i64 0] rfl rfl (one_cellA _ _ _) (fun x hx => by simp at hx; subst hx; rfl) (by have := HB.out; unfold maxLen; omega) (by have := HB.out; omega) ?_; intro v1' w5 hown5 hf5 hv5; obtain ⟨ob5, hg5⟩ := Gx.put1 HG.out hown5 hf5 hv5; have t0 := (obj_cell ob5 0).trans rfl; have t1 := obj_free ob5 0; have t2 := (obj_cell ob5 1).trans rfl; have t3 := (obj_cell ob5 2).trans rfl; obtain ⟨p5, c5, rfl, hc5⟩ := row_form hown5; have HG1 := Lib.hid hg5; clear ob5 hg5 hown5 hf5 hv5 hc5))
  go_ret
  exact ⟨rfl, HG3.out.fin⟩

theorem radd_many (W : World) (M : Nat) (v1 v2 v3 : Value) (xs : List Ac) (h : Rt W M v1 v2 v3 xs) (hl : 64 ≤ (xs.length : Int)) :
    Calls Try.prog 37 #[.pointer (some ⟨M, 0, none⟩)] W fun e w' => e = .returned (.int .i64 8) ∧ W = w' := by
  obtain ⟨m0, m1, m2, e0, e1, e2⟩ := h.c
  obtain ⟨p1, c1, rfl, hc1⟩ := row_form h.2.1
  have hB : decide ((64 : Int) ≤ (xs.length : Int)) = true := decide_eq_true hl
  clear h hc1
  go_enter Try.func37, Try.ntmps37
  go_wp2
  go_ret
  exact ⟨rfl, rfl⟩

set_option maxRecDepth 100000 in
set_option maxHeartbeats 2000000 in
theorem rrunnable_any (W : World) (M : Nat) (v1 v2 v3 : Value) (xs : List Ac) (h : Rt W M v1 v2 v3 xs) (hn : (xs.length : Int) ≤ 1048576) :
    Calls Try.prog 49 #[.pointer (some ⟨M, 0, none⟩)] W fun e w' => ∃ v', e = .returned v' ∧ NewI W w' v' (readyL xs xs.length) := by
  obtain ⟨i0, hi0, hz0, hz1, hz2⟩ := info_parts infoAI
  have H := Lib.hid h
  have m0 := h.c.1
  obtain ⟨p1, c1, rfl, hc1⟩ := row_form h.2.1
  have HS : Hid (NewI W W (.slice none 0 0) []) := Lib.hid ⟨Below.refl _ _, World.ownsRow_nil _ _ _ _, fun g hg => by simp [Value.ownBlock] at hg⟩
  clear h hc1
  go_enter Try.func49, Try.ntmps49
  go_wp2_with fail
  go_loopw [3, 4] (fun l i wl => ∃ k : Nat, k ≤ xs.length ∧ i = .int .i64 k ∧ Hid (NewI W wl l (readyL xs k))) (fun _ i _ => xs.length - (intOf i).toNat)
  case atStart => exact ⟨0, Nat.zero_le _, rfl, HS⟩
  case round =>
    obtain ⟨k, hk, rfl, HDS⟩ := hrel
    obtain ⟨pl, cl, rfl, hcl⟩ := row_form HDS.out.2.1
    have hkl := readyL_le xs k
    have m0' := keepc HDS.out.1 m0
    clear hcl
    by_cases hlt : k < xs.length
    · obtain ⟨a, ha⟩ : ∃ a, xs[k]? = some a := ⟨_, List.getElem?_eq_getElem hlt⟩
      obtain ⟨g1, c1', g2, c2, g3, c3, hv1, rfl, rfl, _, hm, k1, k2, k3, f1, f2, f3⟩ := H.out.at ha
      simp only [Value.slice.injEq] at hv1
      obtain ⟨rfl, _, rfl⟩ := hv1
      have g0 := keepc HDS.out.1 k1
      have HA := Lib.hid ha
      obtain ⟨st, tok, wk⟩ := a
      simp only at g0
      clear ha k1 k2 k3 f1 f2 f3
      by_cases hst : st = 0
      · subst hst
        go_wp2_with (at_builtin; refine wpList_append_row rfl _ _ 62 rfl 3 i0 (.int .i64 0) 1 8 Try.underlying62 hi0 hz0 hz1 hz2 rfl (by decide) _ (readyL xs k).length _ rfl (HDS.out.2.1.alloc _) ⟨wr.heap.size, 0, none⟩ 1 1 [.int .i64 k] rfl rfl (one_cellA _ _ _) (fun x hx => by simp at hx; subst hx; rfl) (by unfold maxLen; omega) (by omega) ?_; intro v' w5 hown5 hf5 hv5; have HE := Lib.hid (HDS.out.app hown5 hf5 hv5); clear hown5 hf5 hv5)
        rw [← readyL_yes HA.out rfl] at HE
        exact ⟨⟨k + 1, by omega, by go_num, HE⟩, by simp [intOf]; omega⟩
      · have HE : Hid (NewI W wr (.slice pl (readyL xs k).length cl) (readyL xs (k + 1))) := Lib.hid (by rw [readyL_no HA.out hst]; exact HDS.out)
        have d0 : (st == 0) = false := by simp [hst]
        go_wp2_with fail
        exact ⟨⟨k + 1, by omega, by go_num, HE⟩, by simp [intOf]; omega⟩
    · obtain rfl : k = xs.length := by omega
      clear hlt
      go_wp2_with fail
      go_ret
      exact ⟨_, rfl, HDS.out⟩

/-- A row of ints: where it lies. -/
theorem ints_atA {w : World} {p : Option Addr} {c : Nat} {os : List Int} (h : w.ownsRow 0 3 1 (.slice p os.length c) os.length (os.map (Value.int .i64))) :
    os.length = 0 ∨ ∃ g, p = some ⟨g, 0, none⟩ ∧ ∀ (j : Nat) (x : Int), os[j]? = some x → w.cell? ⟨g, j, none⟩ = some (.int .i64 x) := by
  rcases h.2 with ⟨_, h0⟩ | ⟨g, cap, cur, h', _⟩
  · exact .inl h0
  · simp only [Value.slice.injEq] at h'
    obtain ⟨rfl, _, rfl⟩ := h'
    refine .inr ⟨g, rfl, fun j x hj => ?_⟩
    have hlt : j < os.length := (List.getElem?_eq_some_iff.1 hj).1
    exact (h.cellAt j (by omega)).trans (by rw [List.getElem?_map, hj]; rfl)
end Go.Proofs.Ytpnglcafjofmnaa
