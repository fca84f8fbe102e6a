/-
  Add and Drop of package gate by contract: what they refuse, and what a group has behind them. Condition: at most 32 cells.
-/
import Derived.Test.YtdbjeaploanalaaGate
namespace Go.Proofs.Ytdbjeaploanalaa
open Go.RowKit

set_option linter.unusedVariables false
theorem obj_setCells {b : Nat} {T : TypeId} {m : Nat × Nat} : ∀ (vs : List Value) (o : Nat) (w : World) (l : List Value), w.heap[b]? = some (.cells l.toArray T m) → o + vs.length ≤ l.length →
    (w.setCells b o vs).heap[b]? = some (.cells (l.take o ++ vs ++ l.drop (o + vs.length)).toArray T m)
  | [], o, w, l, h, _ => by simpa [World.setCells] using h
  | v :: vs, o, w, l, h, hl => by
    have h1 := obj_setCell (i := o) v h
    rw [List.setIfInBounds_toArray] at h1
    simp only [List.length_cons] at hl
    have h2 := obj_setCells vs (o + 1) _ _ h1 (by simp; omega)
    rw [World.setCells, h2]
    rw [List.drop_set_of_lt (by omega)]
    have e1 : (l.set o v).take (o + 1) = l.take o ++ [v] := by
      have hm : min o l.length = o := by omega
      rw [List.set_eq_take_append_cons_drop, if_pos (by omega), List.take_append]
      simp [hm, List.take_take]
    rw [e1]
    simp [Nat.add_assoc, Nat.add_comm 1]
theorem frm_setCells {b : Nat} : ∀ (vs : List Value) (o : Nat) (a w' : World), Frm (fun k => k = b) a w' → Frm (fun k => k = b) a (w'.setCells b o vs)
  | [], _, _, _, h => h
  | v :: vs, o, a, w, h => frm_setCells vs (o + 1) a _ (h.setCell (p := ⟨b, o, none⟩) rfl v)

theorem gr_more {W : World} {g : Nat} {ids : List Int} (h : Gr W g ids) (hl : ids.length < 32) (id : Int) :
    Gr ((W.setCell ⟨g, ids.length, none⟩ (.int .i64 id)).setCell ⟨g, 32, none⟩ (.int .i64 ((ids.length : Int) + 1))) g (ids ++ [id]) := by
  refine ⟨?_, by simp; omega⟩
  rw [obj_setCell _ (obj_setCell _ h.1)]
  congr 2
  obtain ⟨r, hr⟩ : ∃ r, 32 - ids.length = r + 1 := ⟨31 - ids.length, by omega⟩
  have hr2 : 32 - (ids.length + 1) = r := by omega
  simp only [grC, padI, hr, List.setIfInBounds_toArray, List.length_append, List.length_singleton, hr2, List.replicate_succ]
  congr 1
  have e : (ids ++ 0 :: List.replicate r 0 ++ [(ids.length : Int)]).map (Value.int .i64) = (ids.map (Value.int .i64) ++ Value.int .i64 0 :: ((List.replicate r 0).map (Value.int .i64) ++ [Value.int .i64 ids.length])) := by simp
  rw [e, List.set_append_right _ _ (by simp)]
  simp only [List.length_map, Nat.sub_self, List.set_cons_zero]
  rw [List.set_append_right _ _ (by simp; omega)]
  have e2 : 32 - (ids.map (Value.int .i64)).length = r + 1 := by simp; omega
  rw [e2, List.set_cons_succ, List.set_append_right _ _ (by simp)]
  simp

theorem first_at {ids : List Int} {x : Int} (h : x ∈ ids) : ∃ k, k < ids.length ∧ ids.getD k 0 = x ∧ ∀ j, j < k → ids.getD j 0 ≠ x := by
  induction ids with
  | nil => cases h
  | cons a ids ih =>
    by_cases e : a = x
    · exact ⟨0, by simp, by simpa using e, by omega⟩
    · obtain ⟨k, h1, h2, h3⟩ := ih (by rcases List.mem_cons.1 h with h | h <;> simp_all)
      refine ⟨k + 1, by simp; omega, by simpa using h2, fun j hj => ?_⟩
      rcases j with _ | j
      · simpa using e
      · simpa using h3 j (by omega)

/-- A group without the one at k. -/
def dropAt (ids : List Int) (k : Nat) : List Int := ids.take k ++ ids.drop (k + 1)
theorem dropAt_len {ids : List Int} {k : Nat} (hk : k < ids.length) : (dropAt ids k).length = ids.length - 1 := by simp [dropAt]; omega

theorem less_list (A : List Int) (r : Nat) (n m : Int) (h : A.length + 1 + r = 32) : ((A ++ List.replicate 1 0).map (Value.int .i64) ++ (List.replicate r 0 ++ [n]).map (Value.int .i64)).set 32 (.int .i64 m) = (A ++ List.replicate (r + 1) 0 ++ [m]).map (Value.int .i64) := by
  have e : A ++ List.replicate 1 0 ++ (List.replicate r 0 ++ [n]) = (A ++ List.replicate (r + 1) 0) ++ [n] := by simp [List.replicate_succ]
  rw [← List.map_append, ← List.map_set, e, List.set_append_right _ _ (by simp; omega)]
  have e2 : 32 - (A ++ List.replicate (r + 1) 0).length = 0 := by simp; omega
  rw [e2]
  simp
theorem gr_less {W : World} {g : Nat} {ids : List Int} (h : Gr W g ids) {k : Nat} (hk : k < ids.length) (q : Nat) (vs : List Value) (hvs : vs = ((ids.take k ++ ids.drop (k + 1) ++ List.replicate (k + 1 - k) 0).map (Value.int .i64))) :
    Gr (((W.drewN q).setCells g 0 vs).setCell ⟨g, 32, none⟩ (.int .i64 ((ids.length - 1 : Nat) : Int))) g (dropAt ids k) := by
  subst hvs
  have h2 := h.2
  refine ⟨?_, by rw [dropAt_len hk]; omega⟩
  have h0 : (W.drewN q).heap[g]? = some (.cells ((padI ids ++ [(ids.length : Int)]).map (Value.int .i64)).toArray 68 (0, 0)) := h.1
  rw [obj_setCell _ (obj_setCells _ 0 _ _ h0 (by simp [padI]; omega))]
  congr 2
  simp only [grC, padI, List.setIfInBounds_toArray, dropAt_len hk]
  congr 1
  obtain ⟨r, hr⟩ : ∃ r, 32 - ids.length = r := ⟨_, rfl⟩
  have hr2 : 32 - (ids.length - 1) = r + 1 := by omega
  rw [hr, hr2]
  have hvl : ((ids.take k ++ ids.drop (k + 1) ++ List.replicate (k + 1 - k) (0 : Int)).map (Value.int .i64)).length = ids.length := by simp; omega
  rw [hvl, Nat.zero_add, List.take_zero, List.nil_append]
  have e : ((ids ++ List.replicate r 0 ++ [(ids.length : Int)]).map (Value.int .i64)).drop ids.length = ((List.replicate r 0 ++ [(ids.length : Int)]).map (Value.int .i64)) := by
    rw [List.append_assoc, List.map_append, List.drop_append_of_le_length (by simp), List.drop_of_length_le (by simp), List.nil_append]
  rw [e]
  have ek : k + 1 - k = 1 := by omega
  rw [ek]
  exact less_list _ r _ _ (by simp; omega)

theorem ghas {W : World} {g : Nat} {ids : List Int} (h : Gr W g ids) (x : Int) : Calls Try.prog 72 #[.slice (some ⟨g, 0, none⟩) ids.length 32, .int .i64 x] W fun e w' => e = .returned (.bool (ids.contains x)) ∧ W = w' := by
  refine (Try.slices_Contains_int g 0 ids.length 32 (padI ids) x W (by rw [padI_len h.2]; exact h.2) (by have := h.2; omega) h.cells).mono ?_
  rintro e w' ⟨rfl, rfl⟩
  rw [padI_take]
  exact ⟨rfl, rfl⟩
theorem gfind {W : World} {g : Nat} {ids : List Int} (h : Gr W g ids) {x : Int} {k : Nat} (hk : k < ids.length) (h1 : ids.getD k 0 = x) (h2 : ∀ j, j < k → ids.getD j 0 ≠ x) : Calls Try.prog 68 #[.slice (some ⟨g, 0, none⟩) ids.length 32, .int .i64 x] W fun e w' => e = .returned (.int .i64 k) ∧ W = w' := by
  refine (Try.slices_Index_int g 0 ids.length 32 (padI ids) x W (by rw [padI_len h.2]; exact h.2) (by have := h.2; omega) h.cells).mono ?_
  rintro e w' ⟨rfl, rfl⟩
  have := Lib.idxOf_hit ids ids.length k x hk (Nat.le_refl _) h1 h2
  rw [List.take_length] at this
  rw [padI_take, this]
  exact ⟨rfl, rfl⟩
theorem gmiss {W : World} {g : Nat} {ids : List Int} (h : Gr W g ids) {x : Int} (h2 : x ∉ ids) : Calls Try.prog 68 #[.slice (some ⟨g, 0, none⟩) ids.length 32, .int .i64 x] W fun e w' => e = .returned (.int .i64 (-1)) ∧ W = w' := by
  refine (Try.slices_Index_int g 0 ids.length 32 (padI ids) x W (by rw [padI_len h.2]; exact h.2) (by have := h.2; omega) h.cells).mono ?_
  rintro e w' ⟨rfl, rfl⟩
  have := Lib.idxOf_miss ids ids.length x (fun j hj e => h2 (e ▸ by simp [List.getElem?_eq_getElem hj]))
  rw [List.take_length] at this
  rw [padI_take, this]
  exact ⟨rfl, rfl⟩

theorem add_nilg (id : Int) (W : World) : Calls Try.prog 40 #[.pointer none, .int .i64 id] W fun e w' => ∃ E, e = .returned E ∧ Refused W w' E 2 := by
  go_enter Try.func40, Try.ntmps40
  go_wp2_with (go_at_call 53; refine (wrap_iface _ _ _ _).mono ?_; rintro e w' ⟨rfl, hw⟩; have HR := Lib.hid (refused_of hw); clear hw)
  go_ret
  exact ⟨_, rfl, HR.out⟩
theorem add_arg {W : World} (g : Nat) (id : Int) (hid : id < 0 ∨ 2097152 ≤ id) : Calls Try.prog 40 #[.pointer (some ⟨g, 0, none⟩), .int .i64 id] W fun e w' => ∃ E, e = .returned E ∧ Refused W w' E 1 := by
  rcases hid with hid | hid
  · go_enter Try.func40, Try.ntmps40
    go_wp2_with (go_at_call 53; refine (wrap_iface _ _ _ _).mono ?_; rintro e w' ⟨rfl, hw⟩; have HR := Lib.hid (refused_of hw); clear hw)
    go_ret
    exact ⟨_, rfl, HR.out⟩
  · have hn : ¬ id < 0 := by omega
    go_enter Try.func40, Try.ntmps40
    go_wp2_with (go_at_call 53; refine (wrap_iface _ _ _ _).mono ?_; rintro e w' ⟨rfl, hw⟩; have HR := Lib.hid (refused_of hw); clear hw)
    go_ret
    exact ⟨_, rfl, HR.out⟩
theorem add_there {W : World} {g : Nat} {ids : List Int} (h : Gr W g ids) (id : Int) (h0 : 0 ≤ id) (h1 : id < 2097152) (hin : id ∈ ids) : Calls Try.prog 40 #[.pointer (some ⟨g, 0, none⟩), .int .i64 id] W fun e w' => ∃ E, e = .returned E ∧ Refused W w' E 4 := by
  have H := Lib.hid h
  have hc : ids.contains id = true := by simpa using hin
  have HC := Lib.hid hc
  clear h hin hc
  go_enter Try.func40, Try.ntmps40
  go_wp2_with (first
    | (go_at_call 69; refine (in_some H.out).mono ?_; rintro e w1 ⟨rfl, hb⟩; have HB := Lib.hid hb; clear hb)
    | (go_at_call 72; refine (ghas (H.out.keepB HB.out) id).mono ?_; rintro e w2 ⟨rfl, rfl⟩; rw [HC.out])
    | (go_at_call 53; refine (wrap_iface _ _ _ _).mono ?_; rintro e w' ⟨rfl, hw⟩; have HR := Lib.hid ((refused_of hw).after HB.out); clear hw))
  go_ret
  exact ⟨_, rfl, HR.out⟩
theorem add_many {W : World} {g : Nat} {ids : List Int} (h : Gr W g ids) (id : Int) (h0 : 0 ≤ id) (h1 : id < 2097152) (hin : id ∉ ids) (hm : ids.length = 32) : Calls Try.prog 40 #[.pointer (some ⟨g, 0, none⟩), .int .i64 id] W fun e w' => ∃ E, e = .returned E ∧ Refused W w' E 8 := by
  have H := Lib.hid h
  have hc : ids.contains id = false := by simpa using hin
  have HC := Lib.hid hc
  have HM := Lib.hid hm
  clear h hin hc hm
  go_enter Try.func40, Try.ntmps40
  go_wp2_with (first
    | (go_at_call 69; refine (in_some H.out).mono ?_; rintro e w1 ⟨rfl, hb⟩; have HB := Lib.hid hb; have cn := (H.out.keepB hb).n; rw [HM.out] at cn; clear hb)
    | (go_at_call 72; refine (ghas (H.out.keepB HB.out) id).mono ?_; rintro e w2 ⟨rfl, rfl⟩; rw [HC.out])
    | (go_at_call 53; refine (wrap_iface _ _ _ _).mono ?_; rintro e w' ⟨rfl, hw⟩; have HR := Lib.hid ((refused_of hw).after HB.out); clear hw))
  go_ret
  exact ⟨_, rfl, HR.out⟩
/-- What a group's own call leaves: the group, and of all else that was there nothing has turned. -/
def GrStep (W w' : World) (g : Nat) (ids : List Int) : Prop := Gr w' g ids ∧ Frm (fun k => k = g) W w'
theorem add_ok {W : World} {g : Nat} {ids : List Int} (h : Gr W g ids) (id : Int) (h0 : 0 ≤ id) (h1 : id < 2097152) (hin : id ∉ ids) (hm : ids.length < 32) : Calls Try.prog 40 #[.pointer (some ⟨g, 0, none⟩), .int .i64 id] W fun e w' => e = .returned .nilIface ∧ GrStep W w' g (ids ++ [id]) := by
  have H := Lib.hid h
  have hc : ids.contains id = false := by simpa using hin
  have HC := Lib.hid hc
  have HM := Lib.hid hm
  have hfin : ∀ w : World, Below W.heap.size W w → GrStep W ((w.setCell ⟨g, ids.length, none⟩ (.int .i64 id)).setCell ⟨g, 32, none⟩ (.int .i64 ((ids.length : Int) + 1))) g (ids ++ [id]) := fun w hb => ⟨gr_more (h.keepB hb) hm id, ((Frm.of_below hb fun k => k = g).setCell (p := ⟨g, ids.length, none⟩) rfl _).setCell (p := ⟨g, 32, none⟩) rfl _⟩
  have HF := Lib.hid hfin
  have hd : decide ((32 : Int) ≤ (ids.length : Int)) = false := by rw [decide_eq_false_iff_not]; omega
  have hcells : ∀ w : World, Below W.heap.size W w → w.cell? ⟨g, ids.length, none⟩ = some (.int .i64 ((padI ids).getD ids.length 0)) ∧ w.cell? ⟨g, 32, none⟩ = some (.int .i64 ids.length) ∧ w.frozen? ⟨g, ids.length, none⟩ = false ∧ w.frozen? ⟨g, 32, none⟩ = false := fun w hb => ⟨(h.keepB hb).at _ hm, (h.keepB hb).n, (h.keepB hb).f _, (h.keepB hb).f _⟩
  have HL := Lib.hid hcells
  have hm' : (ids.length : Int) < 32 := by omega
  clear h hin hc hfin hcells
  generalize ids.length = n at *
  generalize (padI ids).getD n 0 = y at *
  have hne : n ≠ 32 := by omega
  clear hm
  go_enter Try.func40, Try.ntmps40
  go_wp2_with (first
    | (go_at_call 69; refine (in_some H.out).mono ?_; rintro e w1 ⟨rfl, hb⟩; have HB := Lib.hid hb; obtain ⟨cn, c32, fn, f32⟩ := HL.out _ hb; clear hb)
    | (go_at_call 72; refine (ghas (H.out.keepB HB.out) id).mono ?_; rintro e w2 ⟨rfl, rfl⟩; rw [HC.out]))
  have n0 : ∀ x : Later w1, x.to.cell? ⟨g, 32, none⟩ = some (.int .i64 n) := fun x => (HL.out _ (bthen HB.out x.below)).2.1
  clear cn c32 fn f32
  refine wp_region_later_tail 9 (by kernel_rfl) (by kernel_rfl) ?_
  simp only [List.take_succ_cons, List.take_zero, List.drop_succ_cons, List.drop_zero]
  repeat (go_big_quiet_step (fail))
  refine wpQuiet_nil ?_
  intro w2 hw'
  obtain ⟨⟨w2', hb2⟩, hw2⟩ := hw'
  obtain rfl : w2 = w2' := hw2
  have HB2 := Lib.hid (bthen HB.out hb2)
  obtain ⟨cn, c32, fn, f32⟩ := HL.out _ HB2.out
  clear n0 hb2
  go_wp2
  go_ret
  exact ⟨rfl, HF.out _ HB2.out⟩

theorem gdel {W : World} {g : Nat} {ids : List Int} (h : Gr W g ids) {k : Nat} (hk : k < ids.length) : Calls Try.prog 70 #[.slice (some ⟨g, 0, none⟩) ids.length 32, .int .i64 k, .int .i64 ((k : Int) + 1)] W fun e w' => e = .returned (.slice (some ⟨g, 0, none⟩) (ids.length - 1) 32) ∧ GrStep W (w'.setCell ⟨g, 32, none⟩ (.int .i64 ((ids.length - 1 : Nat) : Int))) g (dropAt ids k) ∧ w'.cell? ⟨g, 32, none⟩ = some (.int .i64 ids.length) ∧ w'.frozen? ⟨g, 32, none⟩ = false ∧ Frm (fun k => k = g) W w' := by
  refine (Try.slices_Delete_int_cells g 0 ids.length 32 k (k + 1) (padI ids) W (by rw [padI_len h.2]; exact h.2) h.2 (by omega) (by omega) (by omega) h.cells (fun j _ => h.f _)).mono ?_
  rintro e w' ⟨rfl, q, rfl⟩
  have ek : k + 1 - k = 1 := by omega
  rw [padI_take]
  have hf : Frm (fun i => i = g) W ((W.drewN q).setCells g 0 ((ids.take k ++ ids.drop (k + 1) ++ List.replicate (k + 1 - k) 0).map (Value.int .i64))) := frm_setCells _ 0 _ _ ((Frm.refl _ W).drewN q)
  refine ⟨by rw [ek], ⟨gr_less h hk q _ rfl, hf.setCell (p := ⟨g, 32, none⟩) rfl _⟩, ?_, ?_, hf⟩
  · rw [World.cell?_setCells_out]
    · exact h.n
    · intro _ _
      have := h.2
      right
      simp
      omega
  · rw [World.frozen?_setCells]
    exact h.f 32
theorem drop_nilg (id : Int) (W : World) : Calls Try.prog 38 #[.pointer none, .int .i64 id] W fun e w' => ∃ E, e = .returned E ∧ Refused W w' E 2 := by
  go_enter Try.func38, Try.ntmps38
  go_wp2_with (go_at_call 53; refine (wrap_iface _ _ _ _).mono ?_; rintro e w' ⟨rfl, hw⟩; have HR := Lib.hid (refused_of hw); clear hw)
  go_ret
  exact ⟨_, rfl, HR.out⟩
theorem drop_none {W : World} {g : Nat} {ids : List Int} (h : Gr W g ids) (id : Int) (hin : id ∉ ids) : Calls Try.prog 38 #[.pointer (some ⟨g, 0, none⟩), .int .i64 id] W fun e w' => ∃ E, e = .returned E ∧ Refused W w' E 3 := by
  have H := Lib.hid h
  have HI := Lib.hid hin
  clear h hin
  go_enter Try.func38, Try.ntmps38
  go_wp2_with (first
    | (go_at_call 69; refine (in_some H.out).mono ?_; rintro e w1 ⟨rfl, hb⟩; have HB := Lib.hid hb; clear hb)
    | (go_at_call 68; refine (gmiss (H.out.keepB HB.out) HI.out).mono ?_; rintro e w2 ⟨rfl, rfl⟩)
    | (go_at_call 53; refine (wrap_iface _ _ _ _).mono ?_; rintro e w' ⟨rfl, hw⟩; have HR := Lib.hid ((refused_of hw).after HB.out); clear hw))
  go_ret
  exact ⟨_, rfl, HR.out⟩
theorem drop_ok {W : World} {g : Nat} {ids : List Int} (h : Gr W g ids) {id : Int} {k : Nat} (hk : k < ids.length) (h1 : ids.getD k 0 = id) (h2 : ∀ j, j < k → ids.getD j 0 ≠ id) : Calls Try.prog 38 #[.pointer (some ⟨g, 0, none⟩), .int .i64 id] W fun e w' => e = .returned .nilIface ∧ GrStep W w' g (dropAt ids k) := by
  have H := Lib.hid h
  have HK := Lib.hid hk
  have hl := h.2
  have hkl : (k : Int) < 32 := by omega
  have H1 := Lib.hid h1
  have H2 := Lib.hid h2
  have hfin : ∀ w w' : World, Below W.heap.size W w → GrStep w w' g (dropAt ids k) → GrStep W w' g (dropAt ids k) := fun w w' hb hg => ⟨hg.1, ((Frm.of_below hb fun k => k = g).then hg.2 fun _ _ h => h)⟩
  have HF := Lib.hid hfin
  clear h hk h1 h2 hl hfin
  go_enter Try.func38, Try.ntmps38
  go_wp2_with (first
    | (go_at_call 69; refine (in_some H.out).mono ?_; rintro e w1 ⟨rfl, hb⟩; have HB := Lib.hid hb; clear hb)
    | (go_at_call 68; refine (gfind (H.out.keepB HB.out) HK.out H1.out H2.out).mono ?_; rintro e w2 ⟨rfl, rfl⟩)
    | (go_at_call 69; refine (in_some (H.out.keepB HB.out)).mono ?_; rintro e w3 ⟨rfl, hb⟩; have HB3 := Lib.hid (bthen HB.out hb); clear hb)
    | (go_at_call 70; refine (gdel (H.out.keepB HB3.out) HK.out).mono ?_; rintro e w4 ⟨rfl, hg, c32, f32, _⟩; have HG := Lib.hid (HF.out _ _ HB3.out hg); clear hg))
  go_ret
  exact ⟨rfl, HG.out⟩
end Go.Proofs.Ytdbjeaploanalaa
