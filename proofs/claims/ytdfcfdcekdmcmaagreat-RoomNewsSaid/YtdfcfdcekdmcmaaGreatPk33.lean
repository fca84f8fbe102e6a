/-
  Layers that turn in place: their blocks stay, what they hold is another; all else stays. No condition but those that each theorem names.
  The document's Add and Runnable by contract. Conditions: its rows are its own; at most 1048576 actors.
  The document's world of layer 14: its table as layer 5's, read and turned in place; Wrong by contract. No condition but those that each theorem names.
  The document's world of layer 14: its clock is another one; Wake by contract. No condition but those that each theorem names.
  The document's world of layer 14: Halt by contract. No condition but those that each theorem names.
  The document's world of layer 14: one more who waits in a ring's list. No condition but those that each theorem names.
  The document's of layer 14: a claim's Last; Power by contract. No condition but those that each theorem names.
  All that is known of a world as layers: an arena, a clock and a table are layers like any other, and come out of them again. No condition.
-/
import Derived.Test.YtdfcfdcekdmcmaaGreatPk18
import Derived.Test.YtdfcfdcekdmcmaaGreatPk26
import Derived.Test.YtdfcfdcekdmcmaaGreatPk28
import Derived.Test.YtdfcfdcekdmcmaaGreatPk32
set_option linter.unusedVariables false
set_option linter.unusedSimpArgs false
namespace Go.Proofs.YtdfcfdcekdmcmaaGreat
open Go.RowKit
set_option linter.unusedVariables false
set_option linter.unusedSimpArgs false
def Ly.blk (k : Nat) : Ly → Prop
  | .box p _ _ => k = p
  | .row _ _ v _ _ => v.ownBlock = some k
def Ly.same : Ly → Ly → Prop
  | .box p _ T, .box q _ U => p = q ∧ T = U
  | .row T z v _ _, .row U y u _ _ => v = u ∧ T = U ∧ z = y
  | _, _ => False
inductive Sames : List Ly → List Ly → Prop
  | nil : Sames [] []
  | cons {a b : Ly} {ls ms : List Ly} : a.same b → Sames ls ms → Sames (a :: ls) (b :: ms)
section
variable {B : Nat} {R : Rest} {W w : World} {gs gs' : List Ly}
theorem lay_prot {k : Nat} : ∀ {gs : List Ly}, (lay B gs R).prot k ↔ R.prot k ∨ ∃ l ∈ gs, l.blk k
  | [] => by simp [lay]
  | a :: gs => by
    have ih : (lay B gs R).prot k ↔ R.prot k ∨ ∃ l ∈ gs, l.blk k := lay_prot
    cases a <;> simp only [lay, Ly.on, Rest.box, Rest.row, List.mem_cons, exists_eq_or_imp, Ly.blk] <;> rw [ih] <;> exact ⟨fun h => by rcases h with (h | h) | h; exact .inl h; exact .inr (.inr h); exact .inr (.inl h), fun h => by rcases h with h | h | h; exact .inl (.inl h); exact .inr h; exact .inl (.inr h)⟩
theorem lay_off {k : Nat} : ∀ {gs : List Ly}, (lay B gs R).inv W → R.prot k → ∀ l ∈ gs, ¬ l.blk k
  | [], _, _, l, hl, _ => by simp at hl
  | a :: gs, hi, hk, l, hl, hb => by
    rcases List.mem_cons.1 hl with rfl | hl2
    · cases l
      · exact hi.2.2.1 (lay_prot.2 (.inl (hb ▸ hk)))
      · exact hi.2.2 k (lay_prot.2 (.inl hk)) hb
    · cases a
      · exact lay_off hi.1 hk l hl2 hb
      · exact lay_off hi.1 hk l hl2 hb
theorem lay_low {k : Nat} : ∀ {gs : List Ly}, (lay B gs R).inv W → ∀ l ∈ gs, l.blk k → B ≤ k
  | [], _, l, hl, _ => by simp at hl
  | a :: gs, hi, l, hl, hb => by
    rcases List.mem_cons.1 hl with rfl | hl2
    · cases l
      · exact hb ▸ hi.2.2.2
      · exact (hi.2.1.lt k hb).1
    · cases a
      · exact lay_low hi.1 l hl2 hb
      · exact lay_low hi.1 l hl2 hb
theorem lay_inv (hi : (lay B gs R).inv W) : R.inv W := (lay_drop gs).2 _ hi
theorem Sames.blk {k : Nat} (h : Sames gs gs') : (∃ l ∈ gs', l.blk k) ↔ ∃ l ∈ gs, l.blk k := by
  induction h with
  | nil => exact Iff.rfl
  | @cons a b ls ms hab _ ih =>
    simp only [List.mem_cons, exists_eq_or_imp]
    rw [ih]
    have : b.blk k ↔ a.blk k := by
      cases a <;> cases b
      · obtain ⟨rfl, _⟩ := hab; exact Iff.rfl
      · exact hab.elim
      · exact hab.elim
      · obtain ⟨rfl, _⟩ := hab; exact Iff.rfl
    rw [this]
theorem Sames.prot {k : Nat} (h : Sames gs gs') : (lay B gs' R).prot k ↔ (lay B gs R).prot k := by rw [lay_prot, lay_prot, h.blk]
theorem lay_turn (hs : Sames gs gs') (hi : (lay B gs R).inv W) (hR : R.inv w) (hall : ∀ l ∈ gs', l.is B w) : (lay B gs' R).inv w := by
  induction hs with
  | nil => exact hR
  | @cons a b ls ms hab hs ih =>
    have hb := hall b (by simp)
    have hm := fun l hl => hall l (List.mem_cons_of_mem _ hl)
    cases a <;> cases b
    · obtain ⟨rfl, _⟩ := hab
      exact ⟨ih hi.1 hm, hb, fun e => hi.2.2.1 (hs.prot.1 e), hi.2.2.2⟩
    · exact hab.elim
    · exact hab.elim
    · obtain ⟨rfl, _⟩ := hab
      exact ⟨ih hi.1 hm, hb, fun k hk => hi.2.2 k (hs.prot.1 hk)⟩
end
section
variable {R : Rest} {W0 W w : World} {a : Nat} {cs : List Int} {st : Int} {gs gs' : List Ly} {S : Nat → Prop}
theorem Mv.group (h : Mv (lay W0.heap.size gs R) W0 W a cs st) (hs : Sames gs gs') (hf : Frm S W w) (hS : ∀ k, S k → ∃ l ∈ gs, l.blk k) (hall : ∀ l ∈ gs', l.is W0.heap.size w) : Mv (lay W0.heap.size gs' R) W0 w a cs st := by
  refine h.turn2 hf (fun k hk => ?_) (fun k hk => .inl (hs.prot.1 hk)) (lay_turn hs h.inv (R.ok _ _ (lay_inv h.inv) fun k hk => hf.block k (h.prot_lt (lay_prot.2 (.inl hk))) fun hSk => ?_) hall)
  · obtain ⟨l, hl, hb⟩ := hS k hk
    exact ⟨lay_low h.inv l hl hb, lay_prot.2 (.inr ⟨l, hl, hb⟩)⟩
  · obtain ⟨l, hl, hb⟩ := hS k hSk
    exact lay_off h.inv hk l hl hb
end
end Go.Proofs.YtdfcfdcekdmcmaaGreat
namespace Go.Proofs.YtdfcfdcekdmcmaaGreat
open Go.RowKit
def Gx (W w : World) (M : Nat) (u1 u2 u3 v1 v2 v3 : Value) (n1 n2 n3 : Nat) (x1 x2 x3 : List Value) : Prop :=
  Rgt w M v1 v2 v3 n1 n2 n3 x1 x2 x3 ∧ Frm (fun k => k = M ∨ u1.ownBlock = some k ∨ u2.ownBlock = some k ∨ u3.ownBlock = some k) W w ∧
    (v1.ownBlock = u1.ownBlock ∨ ∀ g, v1.ownBlock = some g → W.heap.size ≤ g) ∧ (v2.ownBlock = u2.ownBlock ∨ ∀ g, v2.ownBlock = some g → W.heap.size ≤ g) ∧ (v3.ownBlock = u3.ownBlock ∨ ∀ g, v3.ownBlock = some g → W.heap.size ≤ g)
theorem Gx.start {W : World} {M : Nat} {v1 v2 v3 : Value} {n1 n2 n3 : Nat} {x1 x2 x3 : List Value} (h : Rgt W M v1 v2 v3 n1 n2 n3 x1 x2 x3) : Gx W W M v1 v2 v3 v1 v2 v3 n1 n2 n3 x1 x2 x3 := ⟨h, Frm.refl _ _, .inl rfl, .inl rfl, .inl rfl⟩
theorem own_next {W w : World} {u v v' : Value} {o : Obj} (hs : W.heap.size ≤ w.heap.size) (h : v.ownBlock = u.ownBlock ∨ ∀ g, v.ownBlock = some g → W.heap.size ≤ g) (hv : v'.ownBlock = v.ownBlock ∨ ∀ g, v'.ownBlock = some g → (w.alloc o).heap.size ≤ g) :
    v'.ownBlock = u.ownBlock ∨ ∀ g, v'.ownBlock = some g → W.heap.size ≤ g := by
  rcases hv with hv | hv
  · rcases h with h | h
    · exact .inl (hv.trans h)
    · exact .inr fun g hg => h g (by rw [← hv]; exact hg)
  · exact .inr fun g hg => by have := hv g hg; simp at this; omega
theorem Gx.put1 {W w w5 : World} {M : Nat} {u1 u2 u3 v1 v2 v3 v' x : Value} {n1 n2 n3 : Nat} {x1 x2 x3 : List Value} {o : Obj} (h : Gx W w M u1 u2 u3 v1 v2 v3 n1 n2 n3 x1 x2 x3)
    (ho : w5.ownsRow 0 3 1 v' (n1 + 1) (x1 ++ [x])) (hf : Frm (fun q => v1.ownBlock = some q) (w.alloc o) w5) (hv : v'.ownBlock = v1.ownBlock ∨ ∀ g, v'.ownBlock = some g → (w.alloc o).heap.size ≤ g) :
    w5.heap[M]? = some (.cells #[v1, v2, v3] 113 (0, 0)) ∧ Gx W (w5.setCell ⟨M, 0, none⟩ v') M u1 u2 u3 v' v2 v3 (n1 + 1) n2 n3 (x1 ++ [x]) x2 x3 := by
  obtain ⟨hr, hF, o1, o2, o3⟩ := h
  have n1' := hr.ne1
  obtain ⟨h0, r1, r2, r3, hd⟩ := hr
  have e0 := hf.obj (obj_old o h0) n1'
  have k2 := hf.row (r2.alloc _) fun g hg e => rows_neA r1 r2 (by decide) hg e
  have k3 := hf.row (r3.alloc _) fun g hg e => hd g e hg
  have hS : Frm (fun k => k = M) w5 (w5.setCell ⟨M, 0, none⟩ v') := (Frm.refl (fun k => k = M) w5).setCell (p := ⟨M, 0, none⟩) rfl _
  have hs := hF.size
  refine ⟨e0, ⟨obj_setCell v' e0, hS.row ho fun g hg e => row_ne ho e0 (by decide) (by rw [hg, e]), hS.row k2 fun g hg e => row_ne k2 e0 (by decide) (by rw [hg, e]), hS.row k3 fun g hg e => row_ne k3 e0 (by decide) (by rw [hg, e]), ?_⟩, ?_, own_next hs o1 hv, o2, o3⟩
  · intro g hg e
    rcases hv with hv | hv
    · exact hd g (by rw [← hv]; exact hg) e
    · have := hv g hg
      have := row_lt r3 e
      simp at *
      omega
  · refine ((hF.alloc o).then hf fun k hk e => ?_).setCell (p := ⟨M, 0, none⟩) (.inl rfl) _
    rcases o1 with o1 | o1
    · exact .inr (.inl (by rw [← o1]; exact e))
    · have := o1 k e; omega
theorem Gx.put2 {W w w5 : World} {M : Nat} {u1 u2 u3 v1 v2 v3 v' x : Value} {n1 n2 n3 : Nat} {x1 x2 x3 : List Value} {o : Obj} (h : Gx W w M u1 u2 u3 v1 v2 v3 n1 n2 n3 x1 x2 x3)
    (ho : w5.ownsRow 0 4 1 v' (n2 + 1) (x2 ++ [x])) (hf : Frm (fun q => v2.ownBlock = some q) (w.alloc o) w5) (hv : v'.ownBlock = v2.ownBlock ∨ ∀ g, v'.ownBlock = some g → (w.alloc o).heap.size ≤ g) :
    w5.heap[M]? = some (.cells #[v1, v2, v3] 113 (0, 0)) ∧ Gx W (w5.setCell ⟨M, 1, none⟩ v') M u1 u2 u3 v1 v' v3 n1 (n2 + 1) n3 x1 (x2 ++ [x]) x3 := by
  obtain ⟨hr, hF, o1, o2, o3⟩ := h
  have n2' := hr.ne2
  obtain ⟨h0, r1, r2, r3, hd⟩ := hr
  have e0 := hf.obj (obj_old o h0) n2'
  have k1 := hf.row (r1.alloc _) fun g hg e => rows_neA r2 r1 (by decide) hg e
  have k3 := hf.row (r3.alloc _) fun g hg e => rows_neA r2 r3 (by decide) hg e
  have hS : Frm (fun k => k = M) w5 (w5.setCell ⟨M, 1, none⟩ v') := (Frm.refl (fun k => k = M) w5).setCell (p := ⟨M, 1, none⟩) rfl _
  have hs := hF.size
  refine ⟨e0, ⟨obj_setCell v' e0, hS.row k1 fun g hg e => row_ne k1 e0 (by decide) (by rw [hg, e]), hS.row ho fun g hg e => row_ne ho e0 (by decide) (by rw [hg, e]), hS.row k3 fun g hg e => row_ne k3 e0 (by decide) (by rw [hg, e]), hd⟩, ?_, o1, own_next hs o2 hv, o3⟩
  · refine ((hF.alloc o).then hf fun k hk e => ?_).setCell (p := ⟨M, 1, none⟩) (.inl rfl) _
    rcases o2 with o2 | o2
    · exact .inr (.inr (.inl (by rw [← o2]; exact e)))
    · have := o2 k e; omega
theorem Gx.put3 {W w w5 : World} {M : Nat} {u1 u2 u3 v1 v2 v3 v' x : Value} {n1 n2 n3 : Nat} {x1 x2 x3 : List Value} {o : Obj} (h : Gx W w M u1 u2 u3 v1 v2 v3 n1 n2 n3 x1 x2 x3)
    (ho : w5.ownsRow 0 3 1 v' (n3 + 1) (x3 ++ [x])) (hf : Frm (fun q => v3.ownBlock = some q) (w.alloc o) w5) (hv : v'.ownBlock = v3.ownBlock ∨ ∀ g, v'.ownBlock = some g → (w.alloc o).heap.size ≤ g) :
    w5.heap[M]? = some (.cells #[v1, v2, v3] 113 (0, 0)) ∧ Gx W (w5.setCell ⟨M, 2, none⟩ v') M u1 u2 u3 v1 v2 v' n1 n2 (n3 + 1) x1 x2 (x3 ++ [x]) := by
  obtain ⟨hr, hF, o1, o2, o3⟩ := h
  have n3' := hr.ne3
  obtain ⟨h0, r1, r2, r3, hd⟩ := hr
  have e0 := hf.obj (obj_old o h0) n3'
  have k1 := hf.row (r1.alloc _) fun g hg e => hd g hg e
  have k2 := hf.row (r2.alloc _) fun g hg e => rows_neA r3 r2 (by decide) hg e
  have hS : Frm (fun k => k = M) w5 (w5.setCell ⟨M, 2, none⟩ v') := (Frm.refl (fun k => k = M) w5).setCell (p := ⟨M, 2, none⟩) rfl _
  have hs := hF.size
  refine ⟨e0, ⟨obj_setCell v' e0, hS.row k1 fun g hg e => row_ne k1 e0 (by decide) (by rw [hg, e]), hS.row k2 fun g hg e => row_ne k2 e0 (by decide) (by rw [hg, e]), hS.row ho fun g hg e => row_ne ho e0 (by decide) (by rw [hg, e]), ?_⟩, ?_, o1, o2, own_next hs o3 hv⟩
  · intro g hg e
    rcases hv with hv | hv
    · exact hd g hg (by rw [← hv]; exact e)
    · have := hv g e
      have := row_lt r1 hg
      simp at *
      omega
  · refine ((hF.alloc o).then hf fun k hk e => ?_).setCell (p := ⟨M, 2, none⟩) (.inl rfl) _
    rcases o3 with o3 | o3
    · exact .inr (.inr (.inr (by rw [← o3]; exact e)))
    · have := o3 k e; omega
def RtStep (W w' : World) (M : Nat) (u1 u2 u3 : Value) (xs : List Ac) : Prop :=
  ∃ v1 v2 v3, Rt w' M v1 v2 v3 xs ∧ Frm (fun k => k = M ∨ u1.ownBlock = some k ∨ u2.ownBlock = some k ∨ u3.ownBlock = some k) W w' ∧
    (v1.ownBlock = u1.ownBlock ∨ ∀ g, v1.ownBlock = some g → W.heap.size ≤ g) ∧ (v2.ownBlock = u2.ownBlock ∨ ∀ g, v2.ownBlock = some g → W.heap.size ≤ g) ∧ (v3.ownBlock = u3.ownBlock ∨ ∀ g, v3.ownBlock = some g → W.heap.size ≤ g)
theorem Gx.fin {W w : World} {M : Nat} {u1 u2 u3 v1 v2 v3 : Value} {xs : List Ac} (h : Gx W w M u1 u2 u3 v1 v2 v3 (xs.length + 1) (xs.length + 1) (xs.length + 1) (sts xs ++ [.int .i64 0]) (tks xs ++ [.bool false]) (wks5 xs ++ [.int .i64 0])) : RtStep W w M u1 u2 u3 (xs ++ [(0, false, 0)]) := by
  refine ⟨v1, v2, v3, ?_, h.2⟩
  have h1 := h.1
  unfold Rt
  rw [List.length_append]
  have e1 : sts (xs ++ [(0, false, 0)]) = sts xs ++ [.int .i64 0] := by simp [sts]
  have e2 : tks (xs ++ [(0, false, 0)]) = tks xs ++ [.bool false] := by simp [tks]
  have e3 : wks5 (xs ++ [(0, false, 0)]) = wks5 xs ++ [.int .i64 0] := by simp [wks5]
  rw [e1, e2, e3]
  exact h1
theorem one_cellS (w : World) (p : Addr) (u x : Value) (t : TypeId) : ∀ j y, [x][j]? = some y → ((w.setCell p u).alloc (.cells #[x] t)).cell? ((⟨w.heap.size, 0, none⟩ : Addr).add j) = some y := by
  have h := one_cellA (w.setCell p u) x t
  have e : (w.setCell p u).heap.size = w.heap.size := by simp [World.setCell]
  rw [e] at h
  exact h
set_option maxRecDepth 100000 in
set_option maxHeartbeats 2000000 in
theorem r5add_some (W : World) (M : Nat) (v1 v2 v3 : Value) (xs : List Ac) (h : Rt W M v1 v2 v3 xs) (hl : (xs.length : Int) < 64) :
    Calls Tryz.prog 56 #[.pointer (some ⟨M, 0, none⟩)] W fun e w' => e = .returned (.int .i64 0) ∧ RtStep W w' M v1 v2 v3 (xs ++ [(0, false, 0)]) := by
  obtain ⟨i0, hi0, hz0, hz1, hz2⟩ := info_parts infoAI
  obtain ⟨i1, hi1, hy0, hy1, hy2⟩ := info_parts infoAB
  have H := Lib.hid h
  have HG := Lib.hid (Gx.start h)
  obtain ⟨m0, m1, m2, e0, e1, e2⟩ := h.c
  obtain ⟨p1, c1, rfl, hc1⟩ := row_form h.2.1
  obtain ⟨p2, c2, rfl, hc2⟩ := row_form h.2.2.1
  obtain ⟨p3, c3, rfl, hc3⟩ := row_form h.2.2.2.1
  have hB : decide ((64 : Int) ≤ (xs.length : Int)) = false := by rw [decide_eq_false_iff_not]; omega
  have HB := Lib.hid hl
  clear h hl hc1 hc2 hc3
  go_enter Tryz.func56, Tryz.ntmps56
  go_wp2_with (first
    | (at_builtin; refine wpList_append_row rfl _ _ 40 rfl 3 i0 (.int .i64 0) 1 8 Tryz.underlying40 hi0 hz0 hz1 hz2 rfl (by decide) (.slice p3 xs.length c3) xs.length _ rfl (HG2.out.1.2.2.2.1.alloc _) ⟨_, 0, none⟩ 1 1 [.int .i64 0] rfl rfl (one_cellS _ _ _ _ _) (fun x hx => by simp at hx; subst hx; rfl) (by have := HB.out; unfold maxLen; omega) (by have := HB.out; omega) ?_; intro v3' w9 hown9 hf9 hv9; obtain ⟨ob9, hg9⟩ := Gx.put3 HG2.out hown9 hf9 hv9; have q0 := (obj_cell ob9 2).trans rfl; have q1 := obj_free ob9 2; obtain ⟨p9, c9, rfl, hc9⟩ := row_form hown9; have HG3 := Lib.hid hg9; clear ob9 hg9 hown9 hf9 hv9 hc9)
    | (at_builtin; refine wpList_append_row rfl _ _ 111 rfl 4 i1 (.bool false) 1 1 Tryz.underlying111 hi1 hy0 hy1 hy2 rfl (by decide) (.slice p2 xs.length c2) xs.length _ rfl (HG1.out.1.2.2.1.alloc _) ⟨_, 0, none⟩ 1 1 [.bool false] rfl rfl (one_cellS _ _ _ _ _) (fun x hx => by simp at hx; subst hx; rfl) (by have := HB.out; unfold maxLen; omega) (by have := HB.out; omega) ?_; intro v2' w7 hown7 hf7 hv7; obtain ⟨ob7, hg7⟩ := Gx.put2 HG1.out hown7 hf7 hv7; have r0 := (obj_cell ob7 1).trans rfl; have r1 := obj_free ob7 1; have r2 := (obj_cell ob7 2).trans rfl; obtain ⟨p7, c7, rfl, hc7⟩ := row_form hown7; have HG2 := Lib.hid hg7; clear ob7 hg7 hown7 hf7 hv7 hc7)
    | (at_builtin; refine wpList_append_row rfl _ _ 40 rfl 3 i0 (.int .i64 0) 1 8 Tryz.underlying40 hi0 hz0 hz1 hz2 rfl (by decide) (.slice p1 xs.length c1) xs.length _ rfl (HG.out.1.2.1.alloc _) ⟨W.heap.size, 0, none⟩ 1 1 [.int .i64 0] rfl rfl (one_cellA _ _ _) (fun x hx => by simp at hx; subst hx; rfl) (by have := HB.out; unfold maxLen; omega) (by have := HB.out; omega) ?_; intro v1' w5 hown5 hf5 hv5; obtain ⟨ob5, hg5⟩ := Gx.put1 HG.out hown5 hf5 hv5; have t0 := (obj_cell ob5 0).trans rfl; have t1 := obj_free ob5 0; have t2 := (obj_cell ob5 1).trans rfl; have t3 := (obj_cell ob5 2).trans rfl; obtain ⟨p5, c5, rfl, hc5⟩ := row_form hown5; have HG1 := Lib.hid hg5; clear ob5 hg5 hown5 hf5 hv5 hc5))
  go_ret
  exact ⟨rfl, HG3.out.fin⟩
theorem r5add_many (W : World) (M : Nat) (v1 v2 v3 : Value) (xs : List Ac) (h : Rt W M v1 v2 v3 xs) (hl : 64 ≤ (xs.length : Int)) :
    Calls Tryz.prog 56 #[.pointer (some ⟨M, 0, none⟩)] W fun e w' => e = .returned (.int .i64 8) ∧ W = w' := by
  obtain ⟨m0, m1, m2, e0, e1, e2⟩ := h.c
  obtain ⟨p1, c1, rfl, hc1⟩ := row_form h.2.1
  have hB : decide ((64 : Int) ≤ (xs.length : Int)) = true := decide_eq_true hl
  clear h hc1
  go_enter Tryz.func56, Tryz.ntmps56
  go_wp2
  go_ret
  exact ⟨rfl, rfl⟩
end Go.Proofs.YtdfcfdcekdmcmaaGreat
namespace Go.Proofs.YtdfcfdcekdmcmaaGreat
open Go.RowKit
set_option linter.unusedVariables false
set_option linter.unusedSimpArgs false
section
variable {R : Rest} {W0 W w : World} {a : Nat} {cs : List Int} {st : Int} {d : Dw} {i : Nat} {x : Dr}
theorem Dm.rt (h : Dm R W0 W a cs st d) : Rt W d.tb d.v1 d.v2 d.v3 d.xs := by
  have t1 := h.is (l := .row 3 1 d.v1 d.xs.length (d.xs.map fun a => .int .i64 a.1)) (by simp [Dw.lys, Dw.table])
  have t2 := h.is (l := .row 4 1 d.v2 d.xs.length (d.xs.map fun a => .bool a.2.1)) (by simp [Dw.lys, Dw.table])
  have t3 := h.is (l := .row 3 1 d.v3 d.xs.length (d.xs.map fun a => .int .i64 a.2.2)) (by simp [Dw.lys, Dw.table])
  refine ⟨h.tbox, row_base t1 (Nat.zero_le _), row_base t2 (Nat.zero_le _), row_base t3 (Nat.zero_le _), fun g hg e => ?_⟩
  have h0 : Mv (lay W0.heap.size ((d.head ++ (d.clock ++ [.box d.tb #[d.v1, d.v2, d.v3] 113])) ++ .row 3 1 d.v1 d.xs.length (d.xs.map fun a => .int .i64 a.1) :: ([.row 4 1 d.v2 d.xs.length (d.xs.map fun a => .bool a.2.1), .row 3 1 d.v3 d.xs.length (d.xs.map fun a => .int .i64 a.2.2)] ++ lays Dr.lys d.L)) R) W0 W a cs st := by
    have h1 : Mv (lay W0.heap.size d.lys R) W0 W a cs st := h
    simpa [Dw.lys, Dw.table, List.append_assoc] using h1
  have h2 := (Mv.le h0 (lay_up _ _ _)).inv.2.2
  exact h2 g (lay_prot.2 (.inr ⟨.row 3 1 d.v3 d.xs.length (d.xs.map fun a => .int .i64 a.2.2), by simp, e⟩)) hg
theorem Dm.tab (h : Dm R W0 W a cs st d) {xs' : List Ac} (ht : RtSet W w d.tb d.v1 d.v2 d.v3 xs') : Dm R W0 w a cs st { d with xs := xs' } := by
  have h1 : Mv (lay W0.heap.size ((d.head ++ d.clock) ++ (d.table ++ lays Dr.lys d.L)) R) W0 W a cs st := by
    have h1 : Mv (lay W0.heap.size d.lys R) W0 W a cs st := h
    simpa [Dw.lys, List.append_assoc] using h1
  have h2 := Mv.le h1 (lay_upg _ _ _)
  obtain ⟨⟨r0, r1, r2, r3, r4⟩, hf⟩ := ht
  have low : ∀ {l : Ly} {k : Nat}, l ∈ d.table → l.blk k → W0.heap.size ≤ k := fun hl hb => lay_low h2.inv _ hl hb
  have up : ∀ {T : TypeId} {v : Value} {n : Nat} {ys zs : List Value}, w.ownsRow 0 T 1 v n ys → (.row T 1 v d.xs.length zs) ∈ d.table → w.ownsRow W0.heap.size T 1 v n ys := fun {T v n ys zs} ho hl => row_up ho fun g hg => low (l := .row T 1 v d.xs.length zs) hl hg
  have h3 := Mv.group (gs' := ({ d with xs := xs' } : Dw).table) h2 (.cons ⟨rfl, rfl⟩ (.cons ⟨rfl, rfl, rfl⟩ (.cons ⟨rfl, rfl, rfl⟩ (.cons ⟨rfl, rfl, rfl⟩ .nil)))) hf (fun k hk => by
    rcases hk with hk | hk | hk
    · exact ⟨.row 3 1 d.v1 d.xs.length (d.xs.map fun a => .int .i64 a.1), by simp [Dw.table], hk⟩
    · exact ⟨.row 4 1 d.v2 d.xs.length (d.xs.map fun a => .bool a.2.1), by simp [Dw.table], hk⟩
    · exact ⟨.row 3 1 d.v3 d.xs.length (d.xs.map fun a => .int .i64 a.2.2), by simp [Dw.table], hk⟩) (fun l hl => by
    simp only [Dw.table, List.mem_cons, List.not_mem_nil, or_false] at hl
    rcases hl with rfl | rfl | rfl | rfl
    · exact r0
    · exact up r1 (zs := d.xs.map fun a => .int .i64 a.1) (by simp [Dw.table])
    · exact up r2 (zs := d.xs.map fun a => .bool a.2.1) (by simp [Dw.table])
    · exact up r3 (zs := d.xs.map fun a => .int .i64 a.2.2) (by simp [Dw.table]))
  have h4 := Mv.le h3 (lay_downg _ _ _)
  show Mv (lay W0.heap.size ({ d with xs := xs' } : Dw).lys R) W0 w a cs st
  have e : ({ d with xs := xs' } : Dw).lys = (d.head ++ d.clock) ++ (({ d with xs := xs' } : Dw).table ++ lays Dr.lys d.L) := by simp [Dw.lys, Dw.head, Dw.clock, Dw.cells, List.append_assoc]
  rw [e]
  exact h4
theorem dwrong_bad (h : Dm R W0 W a cs st d) (id n : Int) (hw : Wr d.xs id n) :
    Calls Tryz.prog 104 #[.pointer (some ⟨d.wb, 0, none⟩), .int .i64 id] W fun e w' => e = .returned (.int .i64 n) ∧ W = w' := by
  have k2 : W.cell? ⟨d.wb, 2, none⟩ = some (.pointer (some ⟨d.tb, 0, none⟩)) := (obj_cell h.box 2).trans rfl
  have HW := Lib.hid (r5wrong_bad W d.tb d.v1 d.v2 d.v3 d.xs id n h.rt hw)
  clear hw
  go_enter Tryz.func104, Tryz.ntmps104
  go_wp2_with (go_at_call 140; refine HW.out.mono ?_; rintro e w1 ⟨rfl, rfl⟩)
  go_ret
  exact ⟨rfl, rfl⟩
theorem dwrong_ok (h : Dm R W0 W a cs st d) {j : Nat} {y : Ac} (hy : d.xs[j]? = some y) (hs : y.1 ≠ 2) :
    Calls Tryz.prog 104 #[.pointer (some ⟨d.wb, 0, none⟩), .int .i64 j] W fun e w' => e = .returned (.int .i64 0) ∧ W = w' := by
  have k2 : W.cell? ⟨d.wb, 2, none⟩ = some (.pointer (some ⟨d.tb, 0, none⟩)) := (obj_cell h.box 2).trans rfl
  have HW := Lib.hid (r5wrong_ok W d.tb d.v1 d.v2 d.v3 d.xs j y h.rt hy hs)
  clear hy hs
  go_enter Tryz.func104, Tryz.ntmps104
  go_wp2_with (go_at_call 140; refine HW.out.mono ?_; rintro e w1 ⟨rfl, rfl⟩)
  go_ret
  exact ⟨rfl, rfl⟩
end
end Go.Proofs.YtdfcfdcekdmcmaaGreat
namespace Go.Proofs.YtdfcfdcekdmcmaaGreat
open Go.RowKit
set_option linter.unusedVariables false
set_option linter.unusedSimpArgs false
section
variable {R : Rest} {W0 W w : World} {a : Nat} {cs : List Int} {st : Int} {d : Dw} {i : Nat} {x : Dr}
theorem Dm.rk (h : Dm R W0 W a cs st d) : Rk W d.tv d.ms := row_base (h.is (l := .row 237 2 d.tv d.ms.length (flat d.ms)) (by simp [Dw.lys, Dw.clock])) (Nat.zero_le _)
theorem Dm.clk (h : Dm R W0 W a cs st d) {v' : Value} {ms' : List (Int × Int)} (hn : NewRk W w v' ms') (now' : Int) :
    Dm R W0 ((w.setCell ⟨d.wb, 0, none⟩ (.int .i64 now')).setCell ⟨d.wb, 1, none⟩ v') a cs st { d with now := now', ms := ms', tv := v' } := by
  obtain ⟨ho, hnew, hb⟩ := hn
  have h1 : Mv (lay W0.heap.size (d.head ++ .row 237 2 d.tv d.ms.length (flat d.ms) :: (d.table ++ lays Dr.lys d.L)) R) W0 W a cs st := h
  have h2 := Mv.rowDrop (Mv.le h1 (lay_up _ _ _))
  have h3 : Mv ((lay W0.heap.size (d.head ++ (d.table ++ lays Dr.lys d.L)) R).row W0.heap.size 237 2 v' ms'.length (flat ms')) W0 w a cs st := by
    have h4 := Mv.more h2 hb (row_up (B' := W.heap.size) ho hnew)
    refine h4.less (fun k hk => hk) ⟨h4.inv.1, row_up ho fun g hg => ?_, h4.inv.2.2⟩
    have := hnew g hg
    have := h.below.size
    omega
  have h5 : Mv ((lay W0.heap.size (.row 237 2 v' ms'.length (flat ms') :: .row 139 9 d.rv d.L.length (ringsOf d.L) :: (d.table ++ lays Dr.lys d.L)) R).box W0.heap.size d.wb d.cells 120) W0 w a cs st := Mv.le h3 (lay_perm (R := R) (ls := .row 237 2 v' ms'.length (flat ms') :: .box d.wb d.cells 120 :: .row 139 9 d.rv d.L.length (ringsOf d.L) :: (d.table ++ lays Dr.lys d.L)) (ms := .box d.wb d.cells 120 :: .row 237 2 v' ms'.length (flat ms') :: .row 139 9 d.rv d.L.length (ringsOf d.L) :: (d.table ++ lays Dr.lys d.L)) (List.Perm.swap _ _ _))
  have h6 := (h5.boxSet 0 (.int .i64 now')).boxSet 1 v'
  exact Mv.le h6 (lay_perm (R := R) (ls := .box d.wb (({ d with now := now', ms := ms', tv := v' } : Dw).cells) 120 :: .row 237 2 v' ms'.length (flat ms') :: .row 139 9 d.rv d.L.length (ringsOf d.L) :: (d.table ++ lays Dr.lys d.L)) (ms := ({ d with now := now', ms := ms', tv := v' } : Dw).lys) (List.Perm.cons _ (List.Perm.swap _ _ _)))
def dropD (ms : List (Int × Int)) (who : Int) : List (Int × Int) := keptL ms (fun t => t.2 == who) ms.length
set_option maxHeartbeats 2000000 in
set_option maxRecDepth 100000 in
theorem dwake_bad (h : Dm R W0 W a cs st d) (hms : (d.ms.length : Int) ≤ 1048576) (id n : Int) (hw : Wr d.xs id n) (hn : n ≠ 0) :
    Calls Tryz.prog 60 #[.pointer (some ⟨d.wb, 0, none⟩), .int .i64 id] W fun e w' => e = .returned (.tuple #[.bool false, .int .i64 n]) ∧ (∃ v', Dm R W0 w' a cs st { d with ms := dropD d.ms id, tv := v' }) ∧ Frm (fun k => k = d.wb) W w' := by
  obtain ⟨p, cap, hv, -⟩ := row_form h.rk
  have HW := Lib.hid hw
  have HH := Lib.hid h
  have hrk := h.rk
  rw [hv] at hrk
  have HD := Lib.hid (rdrop_any W p cap d.ms d.now id hrk hms)
  have k0 : W.cell? ⟨d.wb, 0, none⟩ = some (.int .i64 d.now) := (obj_cell h.box 0).trans rfl
  have k1 : W.cell? ⟨d.wb, 1, none⟩ = some (.slice p d.ms.length cap) := (obj_cell h.box 1).trans (by simp [Dw.cells, hv])
  clear h hw hv hrk
  go_enter Tryz.func60, Tryz.ntmps60
  go_upto_region 2 with (go_at_call 106; refine HD.out.mono ?_; rintro e w1 ⟨v', rfl, hnr⟩; obtain ⟨pn, cn, rfl, -⟩ := row_form hnr.1; have HNR := Lib.hid hnr; have j0 := keepc hnr.2.2 k0; have j1 := keepc hnr.2.2 k1; have f0 := obj_free ((HH.out.keep hnr.2.2).box) 0; have f1 := obj_free ((HH.out.keep hnr.2.2).box) 1; clear hnr k0 k1)
  have HE := Lib.hid (HH.out.clk HNR.out d.now)
  have HF := Lib.hid (((Frm.of_below HNR.out.2.2 fun k => k = d.wb).setCell (p := ⟨d.wb, 0, none⟩) rfl (.int .i64 d.now)).setCell (p := ⟨d.wb, 1, none⟩) rfl (.slice pn (dropD d.ms id).length cn))
  simp only [dropD] at HF
  generalize World.setCell (World.setCell _ _ _) _ _ = w2 at *
  have k2 : w2.cell? ⟨d.wb, 2, none⟩ = some (.pointer (some ⟨d.tb, 0, none⟩)) := (obj_cell HE.out.box 2).trans rfl
  have HK := Lib.hid (r5wake_bad w2 d.tb d.v1 d.v2 d.v3 d.xs id n HE.out.rt HW.out hn)
  clear j0 j1 f0 f1 HNR HD
  go_wp2_with (go_at_call 108; refine HK.out.mono ?_; rintro e w3 ⟨rfl, rfl⟩)
  go_ret2
  exact ⟨rfl, ⟨_, HE.out⟩, HF.out⟩
set_option maxHeartbeats 2000000 in
set_option maxRecDepth 100000 in
theorem dwake_ok (h : Dm R W0 W a cs st d) (hms : (d.ms.length : Int) ≤ 1048576) {j : Nat} {y : Ac} (hy : d.xs[j]? = some y) (hs : y.1 ≠ 2) (h0 : 0 ≤ y.2.2) (h1 : y.2.2 < 4611686018427387904) :
    Calls Tryz.prog 60 #[.pointer (some ⟨d.wb, 0, none⟩), .int .i64 j] W fun e w' => e = .returned (.tuple #[.bool (y.1 == 1), .int .i64 0]) ∧ ∃ v', Dm R W0 w' a cs st { d with ms := dropD d.ms j, tv := v', xs := d.xs.set j (wakeS y) } := by
  obtain ⟨p, cap, hv, -⟩ := row_form h.rk
  have HY := Lib.hid hy
  have HH := Lib.hid h
  have hrk := h.rk
  rw [hv] at hrk
  have HD := Lib.hid (rdrop_any W p cap d.ms d.now j hrk hms)
  have k0 : W.cell? ⟨d.wb, 0, none⟩ = some (.int .i64 d.now) := (obj_cell h.box 0).trans rfl
  have k1 : W.cell? ⟨d.wb, 1, none⟩ = some (.slice p d.ms.length cap) := (obj_cell h.box 1).trans (by simp [Dw.cells, hv])
  clear h hy hv hrk
  go_enter Tryz.func60, Tryz.ntmps60
  go_upto_region 2 with (go_at_call 106; refine HD.out.mono ?_; rintro e w1 ⟨v', rfl, hnr⟩; obtain ⟨pn, cn, rfl, -⟩ := row_form hnr.1; have HNR := Lib.hid hnr; have j0 := keepc hnr.2.2 k0; have j1 := keepc hnr.2.2 k1; have f0 := obj_free ((HH.out.keep hnr.2.2).box) 0; have f1 := obj_free ((HH.out.keep hnr.2.2).box) 1; clear hnr k0 k1)
  have HE := Lib.hid (HH.out.clk HNR.out d.now)
  generalize World.setCell (World.setCell _ _ _) _ _ = w2 at *
  have k2 : w2.cell? ⟨d.wb, 2, none⟩ = some (.pointer (some ⟨d.tb, 0, none⟩)) := (obj_cell HE.out.box 2).trans rfl
  have HK := Lib.hid (r5wake_ok w2 d.tb d.v1 d.v2 d.v3 d.xs j y HE.out.rt HY.out hs h0 h1)
  clear j0 j1 f0 f1 HNR HD
  go_wp2_with (go_at_call 108; refine HK.out.mono ?_; rintro e w3 ⟨rfl, hr⟩; have HF := Lib.hid (HE.out.tab hr); clear hr)
  go_ret2
  exact ⟨rfl, _, HF.out⟩
end
end Go.Proofs.YtdfcfdcekdmcmaaGreat
namespace Go.Proofs.YtdfcfdcekdmcmaaGreat
open Go.RowKit
set_option linter.unusedVariables false
set_option linter.unusedSimpArgs false
section
variable {R : Rest} {W0 W w : World} {a : Nat} {cs : List Int} {st : Int} {d : Dw} {i : Nat} {x : Dr}
theorem dhalt_bad (h : Dm R W0 W a cs st d) (id n : Int) (hw : Wr d.xs id n) (hn : n ≠ 0) :
    Calls Tryz.prog 63 #[.pointer (some ⟨d.wb, 0, none⟩), .int .i64 id] W fun e w' => e = .returned (.int .i64 n) ∧ W = w' := by
  have HW := Lib.hid (dwrong_bad h id n hw)
  have d1 : (n != 0) = true := by simp [hn]
  clear h hw hn
  go_enter Tryz.func63, Tryz.ntmps63
  go_wp2_with (go_at_call 104; refine HW.out.mono ?_; rintro e w1 ⟨rfl, rfl⟩)
  go_ret
  exact ⟨rfl, rfl⟩
set_option maxHeartbeats 2000000 in
set_option maxRecDepth 100000 in
theorem dhalt_ok (h : Dm R W0 W a cs st d) (hms : (d.ms.length : Int) ≤ 1048576) {j : Nat} {y : Ac} (hy : d.xs[j]? = some y) (hs : y.1 ≠ 2) :
    Calls Tryz.prog 63 #[.pointer (some ⟨d.wb, 0, none⟩), .int .i64 j] W fun e w' => e = .returned (.int .i64 0) ∧ ∃ v', Dm R W0 w' a cs st { d with ms := dropD d.ms j, tv := v', xs := d.xs.set j (2, false, y.2.2) } := by
  obtain ⟨p, cap, hv, -⟩ := row_form h.rk
  have HY := Lib.hid hy
  have HH := Lib.hid h
  have hrk := h.rk
  rw [hv] at hrk
  have HD := Lib.hid (rdrop_any W p cap d.ms d.now j hrk hms)
  have HWR := Lib.hid (dwrong_ok h hy hs)
  have k0 : W.cell? ⟨d.wb, 0, none⟩ = some (.int .i64 d.now) := (obj_cell h.box 0).trans rfl
  have k1 : W.cell? ⟨d.wb, 1, none⟩ = some (.slice p d.ms.length cap) := (obj_cell h.box 1).trans (by simp [Dw.cells, hv])
  clear h hy hv hrk
  go_enter Tryz.func63, Tryz.ntmps63
  go_upto_region 5 with (first
    | (go_at_call 104; refine HWR.out.mono ?_; rintro e wx ⟨rfl, rfl⟩)
    | (go_at_call 106; refine HD.out.mono ?_; rintro e w1 ⟨v', rfl, hnr⟩; obtain ⟨pn, cn, rfl, -⟩ := row_form hnr.1; have HNR := Lib.hid hnr; have j0 := keepc hnr.2.2 k0; have j1 := keepc hnr.2.2 k1; have f0 := obj_free ((HH.out.keep hnr.2.2).box) 0; have f1 := obj_free ((HH.out.keep hnr.2.2).box) 1; clear hnr k0 k1))
  have HE := Lib.hid (HH.out.clk HNR.out d.now)
  generalize World.setCell (World.setCell _ _ _) _ _ = w2 at *
  have k2 : w2.cell? ⟨d.wb, 2, none⟩ = some (.pointer (some ⟨d.tb, 0, none⟩)) := (obj_cell HE.out.box 2).trans rfl
  clear j0 j1 f0 f1 HNR HD HWR
  obtain ⟨v', hv'⟩ : ∃ v' : Value, v' = .slice pn (keptL d.ms (fun t => t.2 == (j : Int)) d.ms.length).length cn := ⟨_, rfl⟩
  rw [← hv'] at HE
  clear hv'
  have m0 : w2.cell? ⟨d.tb, 0, none⟩ = some d.v1 := HE.out.rt.c.1
  obtain ⟨g1, c1, g2, c2, g3, c3, hv1, hv2, hv3, hlt, hm, q1, q2, q3, f1, f2, f3⟩ := HE.out.rt.at HY.out
  simp only at hv1 hv2 hv3 hlt hm
  rw [hv1] at m0
  have b0 : (0 : Int) ≤ (j : Int) := by omega
  have b1 : (j : Int) < (d.xs.length : Int) := by omega
  have HV1 := Lib.hid hv1
  have HLT := Lib.hid hlt
  have HE1 := Lib.hid (HE.out.tab (xs' := d.xs.set j (2, y.2.1, y.2.2)) (w := w2.setCell ⟨g1, j, none⟩ (.int .i64 2)) (by
    have h0 := RtSet.refl HE.out.rt
    simp only at h0 ⊢
    rw [hv1] at h0 ⊢
    exact h0.s0 HY.out 2))
  clear hv1 hv2 hv3 q2 q3 f2 f3
  go_upto_region 6 with fail
  generalize World.setCell w2 _ _ = w3 at *
  clear k2 m0 q1 f1 hlt
  have k2 : w3.cell? ⟨d.wb, 2, none⟩ = some (.pointer (some ⟨d.tb, 0, none⟩)) := (obj_cell HE1.out.box 2).trans rfl
  have m1 : w3.cell? ⟨d.tb, 1, none⟩ = some d.v2 := HE1.out.rt.c.2.1
  have HY1 : Hid ((d.xs.set j (2, y.2.1, y.2.2))[j]? = some (2, y.2.1, y.2.2)) := Lib.hid (List.getElem?_set_self HLT.out)
  obtain ⟨g1', c1', g2', c2', g3', c3', hv1, hv2, hv3, hlt, -, q1, q2, q3, f1, f2, f3⟩ := HE1.out.rt.at HY1.out
  simp only [List.length_set] at hv1 hv2 hv3 hlt q2
  rw [hv2] at m1
  have HE2 := Lib.hid (HE1.out.tab (xs' := d.xs.set j (2, false, y.2.2)) (w := w3.setCell ⟨g2', j, none⟩ (.bool false)) (by
    have h0 := RtSet.refl HE1.out.rt
    simp only at h0 ⊢
    rw [hv2] at h0 ⊢
    have h1 := h0.s1 HY1.out false
    rwa [List.set_set] at h1))
  clear hv1 hv2 hv3 q1 q3 f1 f3 hlt
  go_wp2
  go_ret
  exact ⟨rfl, v', HE2.out⟩
end
end Go.Proofs.YtdfcfdcekdmcmaaGreat
namespace Go.Proofs.YtdfcfdcekdmcmaaGreat
open Go.RowKit
set_option linter.unusedVariables false
set_option linter.unusedSimpArgs false
section
variable {R : Rest} {W0 W w : World} {a : Nat} {cs : List Int} {st : Int} {d : Dw} {i : Nat} {x : Dr}
theorem Dm.wapp (h : Dm R W0 W a cs st d) (hx : d.L[i]? = some x) {rb cap : Nat} (hv : d.rv = .slice (some ⟨rb, 0, none⟩) d.L.length cap) {v' : Value} {ws' : List Int} (ho : w.ownsRow 0 3 1 v' ws'.length (ws'.map (Value.int .i64))) (hf : Frm (fun k => x.wv.ownBlock = some k) W w) (hn : v'.ownBlock = x.wv.ownBlock ∨ ∀ g, v'.ownBlock = some g → W.heap.size ≤ g) :
    Dm R W0 (w.setCell ⟨rb, i * 9 + 8, none⟩ v') a cs st { d with L := d.L.set i { x with ws := ws', wv := v' } } := by
  have hi := (List.getElem?_eq_some_iff.1 hx).1
  have h1 : Mv (lay W0.heap.size d.lys R) W0 W a cs st := h
  have e1 : d.lys = (.box d.wb d.cells 120 :: .row 139 9 d.rv d.L.length (ringsOf d.L) :: (d.clock ++ (d.table ++ (lays Dr.lys (d.L.take i) ++ [.row 2 1 x.shv x.shown.length (x.shown.map (Value.int .i64)), .row 86 2 x.slv (two x.k).toNat x.sl])))) ++ .row 3 1 x.wv x.ws.length (x.ws.map (Value.int .i64)) :: lays Dr.lys (d.L.drop (i + 1)) := by
    unfold Dw.lys
    rw [lays_split hx]
    simp [List.append_assoc, Dw.head, Dr.lys]
  rw [e1] at h1
  have h2 := Mv.app (Mv.le h1 (lay_up _ _ _)) ho hf hn
  generalize hP : (d.clock ++ (d.table ++ (lays Dr.lys (d.L.take i) ++ [.row 2 1 x.shv x.shown.length (x.shown.map (Value.int .i64)), .row 86 2 x.slv (two x.k).toNat x.sl]))) = P at *
  generalize hC : lays Dr.lys (d.L.drop (i + 1)) = C at *
  generalize hq : (Ly.row 3 1 v' ws'.length (ws'.map (Value.int .i64)) : Ly) = q at *
  have h2' : Mv (lay W0.heap.size (q :: .box d.wb d.cells 120 :: .row 139 9 d.rv d.L.length (ringsOf d.L) :: (P ++ C)) R) W0 w a cs st := by
    subst hq
    exact h2
  have h3 : Mv ((lay W0.heap.size (q :: .box d.wb d.cells 120 :: (P ++ C)) R).row W0.heap.size 139 9 d.rv d.L.length (ringsOf d.L)) W0 w a cs st := Mv.le h2' (lay_perm (R := R) (ms := .row 139 9 d.rv d.L.length (ringsOf d.L) :: q :: .box d.wb d.cells 120 :: (P ++ C)) (List.perm_middle (l₁ := [q, .box d.wb d.cells 120]) (l₂ := P ++ C)))
  rw [hv] at h3
  have h4 := Mv.rowSet h3 (i * 9 + 8) v'
  rw [show (ringsOf d.L).set (i * 9 + 8) v' = ringsOf (d.L.set i { x with ws := ws', wv := v' }) from fl_set Dr.cells 9 { x with ws := ws', wv := v' } 8 v' d.L i x (fun x _ => rfl) hx rfl (by decide), ← hv] at h4
  generalize hr : (Ly.row 139 9 d.rv d.L.length (ringsOf (d.L.set i { x with ws := ws', wv := v' })) : Ly) = r at *
  have h4' : Mv (lay W0.heap.size (r :: q :: .box d.wb d.cells 120 :: (P ++ C)) R) W0 (w.setCell ⟨rb, i * 9 + 8, none⟩ v') a cs st := by
    subst hr
    exact h4
  have h5 := Mv.le h4' (lay_perm (R := R) (ms := .box d.wb d.cells 120 :: r :: (P ++ q :: C)) ((List.perm_middle (l₁ := [r, q]) (a := .box d.wb d.cells 120) (l₂ := P ++ C)).trans (List.Perm.cons _ (List.Perm.cons _ (List.perm_middle (l₁ := P)).symm))))
  subst hr hq
  have e2 : ({ d with L := d.L.set i { x with ws := ws', wv := v' } } : Dw).lys = .box d.wb d.cells 120 :: .row 139 9 d.rv d.L.length (ringsOf (d.L.set i { x with ws := ws', wv := v' })) :: (P ++ .row 3 1 v' ws'.length (ws'.map (Value.int .i64)) :: C) := by
    unfold Dw.lys
    simp only [Dw.clock, Dw.table, Dw.head]
    rw [lays_set { x with ws := ws', wv := v' } hi, List.length_set, ← hP, ← hC]
    simp [List.append_assoc, Dw.cells, Dw.clock, Dw.table, Dr.lys]
  unfold Dm
  rw [e2]
  exact h5
end
end Go.Proofs.YtdfcfdcekdmcmaaGreat
namespace Go.Proofs.YtdfcfdcekdmcmaaGreat
open Go.RowKit
set_option linter.unusedVariables false
set_option linter.unusedSimpArgs false
def t14 (ring n stage c hi least : Int) (ids : Value) : Array Value := #[.int .i64 ring, .int .i64 n, .int .i64 stage, .int .i64 c, .int .i64 hi, .int .i64 least, ids]
theorem dlast (W : World) (ring n stage c hi least : Int) :
    Calls Tryz.prog 112 #[.agg (t14 ring n stage c hi least (.slice none 0 0))] W fun e w' => e = .returned (.int .i64 (if stage = 5 then hi else -1)) ∧ Below W.heap.size W w' := by
  by_cases h5 : stage = 5
  · subst h5
    rw [if_pos rfl]
    unfold t14
    go_enter Tryz.func112, Tryz.ntmps112
    go_wp2
    go_ret
    exact ⟨rfl, (Below.refl _ _).alloc (Nat.le_refl _) _⟩
  · rw [if_neg h5]
    have e5 : (stage == 5) = false := by simpa using h5
    clear h5
    unfold t14
    go_enter Tryz.func112, Tryz.ntmps112
    go_wp2
    go_ret
    exact ⟨rfl, (Below.refl _ _).alloc (Nat.le_refl _) _⟩
set_option maxHeartbeats 1000000 in
theorem dpower (W : World) (n : Int) :
    Calls Tryz.prog 103 #[.int .i64 n] W fun e w' => (∃ b : Bool, e = .returned (.bool b) ∧ (b = true ↔ ∃ k : Nat, k ≤ 20 ∧ n = two k)) ∧ W = w' := by
  have t0 : two 0 = 1 := rfl
  go_enter Tryz.func103, Tryz.ntmps103
  go_wp2_with fail
  go_loopw [3, 4] (fun pv iv wl => ∃ q : Nat, q ≤ 21 ∧ pv = .int .i64 (two q) ∧ iv = .int .i64 q ∧ (∀ k : Nat, k < q → n ≠ two k) ∧ wl = W) (fun _ iv _ => 22 - (intOf iv).toNat)
  case atStart => exact ⟨0, by omega, rfl, rfl, fun k hk => absurd hk (Nat.not_lt_zero _), rfl⟩
  case round =>
    obtain ⟨q, hq, rfl, rfl, hne, rfl⟩ := hrel
    by_cases hq20 : q ≤ 20
    · have hp := two_pos q
      have hp2 : two q ≤ 1048576 := two_le hq20
      have hs := two_succ q
      have HN := Lib.hid hne
      clear hne
      by_cases he : two q = n
      · have e1 : (two q == n) = true := by simpa using he
        have HE := Lib.hid he
        clear he hs
        go_wp2_with fail
        go_ret
        exact ⟨⟨true, rfl, fun _ => ⟨q, hq20, HE.out.symm⟩, fun _ => rfl⟩, rfl⟩
      · have e1 : (two q == n) = false := by simpa using he
        have HE := Lib.hid he
        have HS := Lib.hid hs
        clear he hs
        go_wp2_with fail
        refine ⟨⟨q + 1, by omega, by rw [HS.out], by go_num, fun k hk => ?_, trivial⟩, by simp [intOf]; omega⟩
        by_cases hkq : k < q
        · exact HN.out k hkq
        · obtain rfl : k = q := by omega
          exact fun e => HE.out e.symm
    · obtain rfl : q = 21 := by omega
      have HN := Lib.hid hne
      clear hne
      go_wp2_with fail
      go_ret
      exact ⟨⟨false, rfl, ⟨fun h => (by cases h), fun ⟨k, hk, e⟩ => absurd e (HN.out k (by omega))⟩⟩, rfl⟩
end Go.Proofs.YtdfcfdcekdmcmaaGreat
namespace Go.Proofs.YtdfcfdcekdmcmaaGreat
open Go.RowKit
set_option linter.unusedVariables false
set_option linter.unusedSimpArgs false
def Nu (R : Rest) (W0 w : World) (ls : List Ly) : Prop := Below W0.heap.size W0 w ∧ (∀ k, (lay W0.heap.size ls R).prot k → k < w.heap.size) ∧ (lay W0.heap.size ls R).inv w
def arL (a : Nat) (av : Value) (cs : List Int) (st : Int) : List Ly := [.box a #[av, .int .i64 st] 171, .row 2 1 av cs.length (cs.map (Value.int .i64))]
def ckL (c : Nat) (cv : Value) (ts : List (Int × Int)) (now : Int) : List Ly := [.box c #[.int .i64 now, cv] 106, .row 208 2 cv ts.length (flat ts)]
def tbL (t : Nat) (tv : Value) (xs : List Ac) : List Ly := [.box t #[tv] 142, .row 153 3 tv xs.length (flat3 xs)]
section
variable {R : Rest} {W0 W w : World} {ls ms : List Ly} {a c t : Nat} {cs : List Int} {st now : Int} {av cv tv : Value} {ts : List (Int × Int)} {xs : List Ac}
theorem Nu.perm (h : Nu R W0 w ls) (p : ls.Perm ms) : Nu R W0 w ms := ⟨h.1, fun k hk => h.2.1 k ((lay_perm p).1 k hk), (lay_perm p).2 _ h.2.2⟩
theorem Mv.nu (h : Mv (lay W0.heap.size ls R) W0 w a cs st) : ∃ av, Nu R W0 w (arL a av cs st ++ ls) := by
  obtain ⟨v, har, hb, hlo, hvl, hap, hi⟩ := h
  refine ⟨v, hb, fun k hk => ?_, ⟨hi, row_up har.2 hvl, fun k hk => (hap k hk).2.2⟩, har.1, fun e => ?_, hlo⟩
  · rcases hk with (hk | hk) | rfl
    · exact (hap k hk).1
    · exact (har.2.lt k hk).2
    · exact har.lt
  · rcases e with e | e
    · exact (hap _ e).2.1 rfl
    · exact har.ne e
theorem Nu.mv (h : Nu R W0 w (arL a av cs st ++ ls)) : Mv (lay W0.heap.size ls R) W0 w a cs st := by
  obtain ⟨hb, hp, ⟨hi, ho, hn⟩, hx, hnp, hlo⟩ := h
  refine ⟨av, ⟨hx, row_base ho (Nat.zero_le _)⟩, hb, hlo, fun g hg => (ho.lt g hg).1, fun k hk => ⟨hp k (.inl (.inl hk)), fun e => hnp (.inl (e ▸ hk)), hn k hk⟩, hi⟩
theorem Rc.nu (h : Rc (lay W0.heap.size ls R) W0 w c t ts now xs) : ∃ cv tv, Nu R W0 w (ckL c cv ts now ++ (tbL t tv xs ++ ls)) := by
  obtain ⟨cv, tv, hc, ht, hb, ⟨hcl, htl⟩, hvl, hp, hi⟩ := h
  have e1 := tc_ne hc ht
  have e2 : tv.ownBlock ≠ some c := row_ne ht.2 hc.1 (by decide)
  have e3 : cv.ownBlock ≠ some t := row_ne hc.2 ht.1 (by decide)
  refine ⟨cv, tv, hb, fun k hk => ?_, ⟨⟨⟨hi, row_up ht.2 fun g hg => hvl g (.inr hg), fun k hk e => (hp k hk).2 (.inr (.inr e))⟩, ht.1, fun e => ?_, htl⟩, row_up hc.2 fun g hg => hvl g (.inl hg), fun k hk e => ?_⟩, hc.1, fun e => ?_, hcl⟩
  · rcases hk with (((hk | hk) | rfl) | hk) | rfl
    · exact (hp k hk).1
    · exact (ht.2.lt k hk).2
    · exact lt_of_block ht.1
    · exact (hc.2.lt k hk).2
    · exact lt_of_block hc.1
  · rcases e with e | e
    · exact (hp _ e).2 (.inr (.inl rfl))
    · exact ht.ne e
  · rcases hk with (hk | hk) | rfl
    · exact (hp k hk).2 (.inl (.inr e))
    · exact rows_apart hc.2 ht.2 (by decide) e hk
    · exact e3 e
  · rcases e with ((e | e) | e) | e
    · exact (hp _ e).2 (.inl (.inl rfl))
    · exact e2 e
    · exact e1 e
    · exact hc.ne e
theorem Nu.rc (h : Nu R W0 w (ckL c cv ts now ++ (tbL t tv xs ++ ls))) : Rc (lay W0.heap.size ls R) W0 w c t ts now xs := by
  obtain ⟨hb, hp, ⟨⟨⟨hi, ho, hn⟩, htx, htn, htl⟩, hco, hcn⟩, hcx, hcp, hcl⟩ := h
  refine ⟨cv, tv, ⟨hcx, row_base hco (Nat.zero_le _)⟩, ⟨htx, row_base ho (Nat.zero_le _)⟩, hb, ⟨hcl, htl⟩, fun g hg => ?_, fun k hk => ⟨hp k (.inl (.inl (.inl (.inl hk)))), fun e => ?_⟩, hi⟩
  · rcases hg with hg | hg
    · exact (hco.lt g hg).1
    · exact (ho.lt g hg).1
  · rcases e with (rfl | e) | (rfl | e)
    · exact hcp (.inl (.inl (.inl hk)))
    · exact hcn k (.inl (.inl hk)) e
    · exact htn (.inl hk)
    · exact hn k hk e
end
end Go.Proofs.YtdfcfdcekdmcmaaGreat
