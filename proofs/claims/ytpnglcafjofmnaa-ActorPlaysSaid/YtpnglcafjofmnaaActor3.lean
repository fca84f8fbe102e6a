/-
  look, State, Token, Wakes, Runnable and Legal of package actor by contract. Conditions: the table's row is its own; at most 1048576 actors.
-/
import Derived.Test.YtpnglcafjofmnaaActor2
namespace Go.Proofs.Ytpnglcafjofmnaa
open Go.RowKit

set_option maxRecDepth 100000 in
theorem look_in (W : World) (b : Nat) (v : Value) (xs : List Ac) (i : Nat) (a : Ac) (h : Tb W b v xs) (hi : xs[i]? = some a) :
    Calls Try.prog 67 #[.pointer (some ⟨b, 0, none⟩), .int .i64 i] W fun e w' => e = .returned (.agg #[.int .i64 a.1, .bool a.2.1, .int .i64 a.2.2]) ∧ Below W.heap.size W w' := by
  have HK := Lib.hid (h.keepB (balloc (Below.refl _ _) (.cells #[.int .i64 0, .bool false, .int .i64 0] 126)))
  obtain ⟨g, c, rfl, hc, hcm, hlt, k0, k1, k2, kf⟩ := HK.out.at hi
  have c0 := HK.out.c0
  have d1 : decide ((i : Int) < 0) = false := decide_eq_false (by omega)
  have d2 : decide ((xs.length : Int) ≤ (i : Int)) = false := decide_eq_false (by omega)
  have hcm' : c ≤ 9223372036854775807 := by unfold maxLen at hcm; omega
  clear h hi kf hcm
  go_enter Try.func67, Try.ntmps67
  go_wp2_with (go_at_call 50; refine (tlen _ _ _ xs HK.out).mono ?_; rintro e w' ⟨rfl, rfl⟩)
  refine bodyPost_ret (v := .agg #[.int .i64 a.1, .bool a.2.1, .int .i64 a.2.2]) ?_ rfl ⟨rfl, ?_⟩
  · simp [results, Try.results67, go_sem]
  · first
      | exact balloc (Below.refl _ _) _
      | exact (((Frm.refl (fun k => W.heap.size ≤ k) (W.alloc (.cells #[.int .i64 0, .bool false, .int .i64 0] 126))).setCell (p := ⟨W.heap.size, 0, none⟩) (Nat.le_refl _) _).setCell (p := ⟨W.heap.size, 1, none⟩) (Nat.le_refl _) _ |>.setCell (p := ⟨W.heap.size, 2, none⟩) (Nat.le_refl _) _).below (by simp) (fun _ h => h) |> (balloc (Below.refl _ _) _).trans
theorem fld0 (x y z : Value) (w : World) : (Instr.field 126 (.agg #[x, y, z]) 0).run Try.prog w = .ok x w := by kernel_rfl
theorem fld1 (x y z : Value) (w : World) : (Instr.field 126 (.agg #[x, y, z]) 1).run Try.prog w = .ok y w := by kernel_rfl
theorem fld2 (x y z : Value) (w : World) : (Instr.field 126 (.agg #[x, y, z]) 2).run Try.prog w = .ok z w := by kernel_rfl

set_option maxRecDepth 100000 in
theorem tstate_in (W : World) (b : Nat) (v : Value) (xs : List Ac) (i : Nat) (a : Ac) (h : Tb W b v xs) (hi : xs[i]? = some a) :
    Calls Try.prog 45 #[.pointer (some ⟨b, 0, none⟩), .int .i64 i] W fun e w' => e = .returned (.int .i64 a.1) ∧ Below W.heap.size W w' := by
  have hfl := fld0
  go_enter Try.func45, Try.ntmps45
  go_wp2_with (go_at_call 67; refine (look_in _ _ _ xs _ a h hi).mono ?_; rintro e w' ⟨rfl, hb⟩)
  go_ret
  exact ⟨rfl, hb⟩
set_option maxRecDepth 100000 in
theorem ttoken_in (W : World) (b : Nat) (v : Value) (xs : List Ac) (i : Nat) (a : Ac) (h : Tb W b v xs) (hi : xs[i]? = some a) :
    Calls Try.prog 46 #[.pointer (some ⟨b, 0, none⟩), .int .i64 i] W fun e w' => e = .returned (.bool a.2.1) ∧ Below W.heap.size W w' := by
  have hfl := fld1
  go_enter Try.func46, Try.ntmps46
  go_wp2_with (go_at_call 67; refine (look_in _ _ _ xs _ a h hi).mono ?_; rintro e w' ⟨rfl, hb⟩)
  go_ret
  exact ⟨rfl, hb⟩
set_option maxRecDepth 100000 in
theorem twakes_in (W : World) (b : Nat) (v : Value) (xs : List Ac) (i : Nat) (a : Ac) (h : Tb W b v xs) (hi : xs[i]? = some a) :
    Calls Try.prog 47 #[.pointer (some ⟨b, 0, none⟩), .int .i64 i] W fun e w' => e = .returned (.int .i64 a.2.2) ∧ Below W.heap.size W w' := by
  have hfl := fld2
  go_enter Try.func47, Try.ntmps47
  go_wp2_with (go_at_call 67; refine (look_in _ _ _ xs _ a h hi).mono ?_; rintro e w' ⟨rfl, hb⟩)
  go_ret
  exact ⟨rfl, hb⟩

/-- Who is ready, of the first k. -/
def readyL (xs : List Ac) : Nat → List Int
  | 0 => []
  | k + 1 => if (xs[k]?.getD (2, false, 0)).1 = 0 then readyL xs k ++ [(k : Int)] else readyL xs k
theorem readyL_yes {xs : List Ac} {k : Nat} {a : Ac} (h : xs[k]? = some a) (h0 : a.1 = 0) : readyL xs (k + 1) = readyL xs k ++ [(k : Int)] := by
  show (if (xs[k]?.getD (2, false, 0)).1 = 0 then _ else _) = _
  rw [h]; exact if_pos h0
theorem readyL_no {xs : List Ac} {k : Nat} {a : Ac} (h : xs[k]? = some a) (h0 : a.1 ≠ 0) : readyL xs (k + 1) = readyL xs k := by
  show (if (xs[k]?.getD (2, false, 0)).1 = 0 then _ else _) = _
  rw [h]; exact if_neg h0
theorem readyL_le (xs : List Ac) : ∀ k, (readyL xs k).length ≤ k
  | 0 => Nat.le_refl _
  | k + 1 => by
    have := readyL_le xs k
    show (if (xs[k]?.getD (2, false, 0)).1 = 0 then readyL xs k ++ [(k : Int)] else readyL xs k).length ≤ k + 1
    split
    · simp only [List.length_append, List.length_cons, List.length_nil]; omega
    · omega

/-- A new row of ints. -/
def NewI (W wl : World) (v : Value) (os : List Int) : Prop := Below W.heap.size W wl ∧ wl.ownsRow 0 3 1 v os.length (os.map (Value.int .i64)) ∧ ∀ g, v.ownBlock = some g → W.heap.size ≤ g
theorem NewI.keep {W wl w' : World} {v : Value} {os : List Int} (h : NewI W wl v os) (hb : Below wl.heap.size wl w') : NewI W w' v os := ⟨bthen h.1 hb, (Frm.of_below hb fun _ => False).row h.2.1 fun _ _ => id, h.2.2⟩
theorem NewI.app {W wl w5 : World} {vl v' : Value} {os : List Int} {x : Int} {o : Obj} (h : NewI W wl vl os) (ho : w5.ownsRow 0 3 1 v' (os.length + 1) (os.map (Value.int .i64) ++ [.int .i64 x])) (hf : Frm (fun q => vl.ownBlock = some q) (wl.alloc o) w5)
    (hv : v'.ownBlock = vl.ownBlock ∨ ∀ g, v'.ownBlock = some g → (wl.alloc o).heap.size ≤ g) : NewI W w5 v' (os ++ [x]) := by
  obtain ⟨h1, h2, h3⟩ := h
  have hs := h1.size
  refine ⟨(balloc h1 o).trans (hf.below (by simp; omega) h3), by simpa using ho, fun g hg => ?_⟩
  rcases hv with hv | hv
  · exact h3 g (by rw [← hv]; exact hg)
  · have := hv g hg
    simp at this
    omega
theorem one_cellA (w : World) (x : Value) (t : TypeId) : ∀ j u, [x][j]? = some u → (w.alloc (.cells #[x] t)).cell? ((⟨w.heap.size, 0, none⟩ : Addr).add j) = some u := by
  intro j u hu
  rcases j with _ | j
  · simp at hu
    subst hu
    show (w.alloc _).cell? ⟨w.heap.size, 0, none⟩ = _
    rw [obj_cell (obj_new w _)]
    rfl
  · simp at hu

set_option maxRecDepth 100000 in
set_option maxHeartbeats 2000000 in
theorem runnable_any (W : World) (b : Nat) (v : Value) (xs : List Ac) (h : Tb W b v xs) (hn : (xs.length : Int) ≤ 1048576) :
    Calls Try.prog 48 #[.pointer (some ⟨b, 0, none⟩)] W fun e w' => ∃ v', e = .returned v' ∧ NewI W w' v' (readyL xs xs.length) := by
  obtain ⟨i0, hi0, hz0, hz1, hz2⟩ := info_parts infoAI
  have c0 := h.c0
  have H := Lib.hid h
  obtain ⟨p, c, rfl, hc⟩ := row_form h.2
  obtain ⟨wm, hm1, hm2, hm3⟩ := run_make_own (P := Try.prog) W 0 62 3 i0 (.int .i64 0) 1 Try.underlying62 hi0 hz0 hz1 .i64 .i64 xs.length (by rw [hz2]; omega) (by unfold maxLen; omega) (Nat.zero_le _)
  have hF := Frm.of_grown hm3
  have hbm : Below W.heap.size W wm := hF.below (Nat.le_refl _) fun k e => by simp at e
  have HS : Hid (NewI W wm (.slice (some ⟨W.heap.size, 0, none⟩) 0 xs.length) []) := Lib.hid ⟨hbm, hm2, fun g hg => by simp [Value.ownBlock] at hg; omega⟩
  have c0' := keepc hbm c0
  clear h hc hm2 hm3 hF hbm
  go_enter Try.func48, Try.ntmps48
  go_wp2_with fail
  go_loopw [3, 19] (fun l i wl => ∃ k : Nat, k ≤ xs.length ∧ i = .int .i64 k ∧ Hid (NewI W wl l (readyL xs k))) (fun _ i _ => xs.length - (intOf i).toNat)
  case atStart => exact ⟨0, Nat.zero_le _, rfl, HS⟩
  case round =>
    obtain ⟨k, hk, rfl, HDS⟩ := hrel
    obtain ⟨pl, cl, rfl, hcl⟩ := row_form HDS.out.2.1
    have hkl := readyL_le xs k
    clear hcl
    by_cases hlt : k < xs.length
    · obtain ⟨a, ha⟩ : ∃ a, xs[k]? = some a := ⟨_, List.getElem?_eq_getElem hlt⟩
      obtain ⟨g, c', hv, hc, hcm, _, k0, k1, k2, kf⟩ := H.out.at ha
      simp only [Value.slice.injEq] at hv
      obtain ⟨rfl, _, rfl⟩ := hv
      have g0 := keepc HDS.out.1 k0
      have g1 := keepc HDS.out.1 k1
      have g2 := keepc HDS.out.1 k2
      have HA := Lib.hid ha
      obtain ⟨st, tok, wk⟩ := a
      simp only at g0 g1 g2
      clear hcm ha k0 k1 k2 kf
      by_cases hst : st = 0
      · subst hst
        have HN := Lib.hid (HDS.out.keep (balloc (Below.refl _ _) (.cells #[.int .i64 0, .bool tok, .int .i64 wk] 126)))
        have e0 : (wr.alloc (.cells #[.int .i64 0, .bool tok, .int .i64 wk] 126)).cell? ⟨wr.heap.size, 0, none⟩ = some (.int .i64 0) := (obj_cell (obj_new wr _) 0).trans rfl
        go_wp2_with (at_builtin; refine wpList_append_row rfl _ _ 62 rfl 3 i0 (.int .i64 0) 1 8 Try.underlying62 hi0 hz0 hz1 hz2 rfl (by decide) _ (readyL xs k).length _ rfl (HN.out.2.1.alloc _) ⟨(wr.alloc (.cells #[.int .i64 0, .bool tok, .int .i64 wk] 126)).heap.size, 0, none⟩ 1 1 [.int .i64 k] (by simp [Act.eval]) rfl (one_cellA _ _ _) (fun x hx => by simp at hx; subst hx; rfl) (by unfold maxLen; omega) (by omega) ?_; intro v' w5 hown5 hf5 hv5; have HE := Lib.hid (HN.out.app hown5 hf5 hv5); clear hown5 hf5 hv5)
        rw [← readyL_yes HA.out rfl] at HE
        exact ⟨⟨k + 1, by omega, by go_num, HE⟩, by simp [intOf]; omega⟩
      · have e0 : (wr.alloc (.cells #[.int .i64 st, .bool tok, .int .i64 wk] 126)).cell? ⟨wr.heap.size, 0, none⟩ = some (.int .i64 st) := (obj_cell (obj_new wr _) 0).trans rfl
        have HE : Hid (NewI W (wr.alloc (.cells #[.int .i64 st, .bool tok, .int .i64 wk] 126)) (.slice pl (readyL xs k).length cl) (readyL xs (k + 1))) := Lib.hid (by rw [readyL_no HA.out hst]; exact HDS.out.keep (balloc (Below.refl _ _) _))
        have d0 : (st == 0) = false := by simp [hst]
        go_wp2_with fail
        exact ⟨⟨k + 1, by omega, by go_num, HE⟩, by simp [intOf]; omega⟩
    · obtain rfl : k = xs.length := by omega
      clear hlt
      go_wp2_with fail
      go_ret
      exact ⟨_, rfl, HDS.out⟩
end Go.Proofs.Ytpnglcafjofmnaa
