/-
  package clock by contract: a clock that is none; Now, Waiting; the three closures. Conditions: the clock's row is its own.
  clock.take by contract: who is taken, in order, and who is left. Conditions: the clock's row is its own; what is sought is told by a call that changes nothing that was there; at most 2^20 timers.
  clock.take by contract: the walk. Conditions: as each names.
  Tick and Drop of package clock by contract. Conditions: the clock's row is its own; at most 2^20 timers; for Tick a step that may be.
  Set of package clock where there is no timer, by contract. Conditions: a time and a number that may be.
  Timers by rising times, of one time as they were set: plain facts on lists. No condition but those that each names; nothing here speaks of a program.
  slices.IndexFunc with Set's closure, Next and Drop of package clock, by contract. Conditions: the clock's row is its own; at most 2^20 timers.
  copy between rows whose elements have several cells; append of new zero elements to a row that has no room. No condition but those that each names; nothing here speaks of a program.
  Clone of package clock by contract. Conditions: the clock's row is its own; at most 2^20 timers.
  slices.Insert of one timer, by contract. Conditions: the row is the call's own; at most 2^20 timers; what is put in lies in another block.
  slices.Insert of one timer where there is no room, and at the end, by contract. Conditions: the row is the call's own; at most 2^20 timers; what is put in lies in another block.
  slices.Insert of one timer, wherever; Set of package clock, by contract. Conditions: the row is the call's own; at most 2^20 timers.
  Set of package clock by contract: the errors, and one timer more, whatever the timers are. Conditions: the clock's row is its own; at most 64 timers.
  Set's errors, by contract. Conditions: the clock's row is its own.
  Drop and Next of package clock, and Tick's errors, by contract. Conditions: the clock's row is its own.
  Tick's errors, by contract. Conditions: the clock's row is its own.
-/
import Derived.Test.YtdfcfdcekdmcmaaGreatPk02
import Derived.Test.YtdfcfdcekdmcmaaGreatPk01
import Derived.Test.YtdfcfdcekdmcmaaGreatPk03
import Derived.WalkSpells
import Derived.OwnWalk
import Derived.LoopTactic
import Derived.BigQuiet
import Derived.Shelf.Spec.SlicesInsertGrow
import Derived.Deep.RegionHeld3
import Derived.Deep.CutBlock
set_option linter.unusedVariables false
set_option linter.unusedSimpArgs false
namespace Go.Proofs.YtdfcfdcekdmcmaaGreat
open Go.RowKit
set_option linter.unusedVariables false
def flat (ts : List (Int × Int)) : List Value := ts.flatMap fun t => [.int .i64 t.1, .int .i64 t.2]
theorem flat_len (ts : List (Int × Int)) : (flat ts).length = ts.length * 2 := by
  unfold flat
  induction ts with
  | nil => rfl
  | cons t l ih => simp only [List.flatMap_cons, List.length_append, ih, List.length_cons, List.length_nil]; omega
theorem flat_append (a b : List (Int × Int)) : flat (a ++ b) = flat a ++ flat b := by unfold flat; rw [List.flatMap_append]
theorem flat_one (t : Int × Int) : flat [t] = [.int .i64 t.1, .int .i64 t.2] := rfl
theorem flat_get (ts : List (Int × Int)) (k : Nat) (h : k < ts.length) : (flat ts)[2 * k]? = some (.int .i64 ts[k].1) ∧ (flat ts)[2 * k + 1]? = some (.int .i64 ts[k].2) := by
  have e : ts = ts.take k ++ (ts[k] :: ts.drop (k + 1)) := by rw [← List.drop_eq_getElem_cons h, List.take_append_drop]
  have hl : (flat (ts.take k)).length = 2 * k := by rw [flat_len, List.length_take]; omega
  have h2 : flat ts = flat (ts.take k) ++ (.int .i64 ts[k].1 :: .int .i64 ts[k].2 :: flat (ts.drop (k + 1))) := by
    conv => lhs; rw [e]
    rw [flat_append]; rfl
  rw [h2]
  constructor
  · rw [List.getElem?_append_right (by omega), hl]; simp
  · rw [List.getElem?_append_right (by omega), hl]; simp
def Ck (W : World) (b : Nat) (v : Value) (ts : List (Int × Int)) (now : Int) : Prop :=
  W.heap[b]? = some (.cells #[.int .i64 now, v] 106 (0, 0)) ∧ W.ownsRow 0 208 2 v ts.length (flat ts)
theorem Ck.c0 {W : World} {b : Nat} {v : Value} {ts : List (Int × Int)} {now : Int} (h : Ck W b v ts now) : W.cell? ⟨b, 0, none⟩ = some (.int .i64 now) := (obj_cell h.1 0).trans rfl
theorem Ck.c1 {W : World} {b : Nat} {v : Value} {ts : List (Int × Int)} {now : Int} (h : Ck W b v ts now) : W.cell? ⟨b, 1, none⟩ = some v := (obj_cell h.1 1).trans rfl
theorem Ck.f {W : World} {b : Nat} {v : Value} {ts : List (Int × Int)} {now : Int} (h : Ck W b v ts now) (i : Nat) : W.frozen? ⟨b, i, none⟩ = false := obj_free h.1 i
theorem Ck.ne {W : World} {b : Nat} {v : Value} {ts : List (Int × Int)} {now : Int} (h : Ck W b v ts now) : v.ownBlock ≠ some b := row_ne h.2 h.1 (by decide)
theorem Ck.keep {S : Nat → Prop} {W w' : World} {b : Nat} {v : Value} {ts : List (Int × Int)} {now : Int} (h : Ck W b v ts now) (hf : Frm S W w') (hb : ¬ S b) (hr : ∀ g, v.ownBlock = some g → ¬ S g) : Ck w' b v ts now :=
  ⟨hf.obj h.1 hb, hf.row h.2 hr⟩
theorem Ck.keepB {W w' : World} {b : Nat} {v : Value} {ts : List (Int × Int)} {now : Int} (h : Ck W b v ts now) (hf : Below W.heap.size W w') : Ck w' b v ts now :=
  h.keep (Frm.of_below hf fun _ => False) id fun _ _ => id
theorem tick_nil (d : Int) (W : World) : Calls Tryz.prog 100 #[.pointer none, .int .i64 d] W fun e w' => ∃ b, e = .returned (.tuple #[.slice none 0 0, .iface 200 (.pointer (some ⟨b, 0, none⟩))]) ∧ Chain w' (.iface 200 (.pointer (some ⟨b, 0, none⟩))) 1 2 ∧ Below W.heap.size W w' := by
  go_enter Tryz.func100, Tryz.ntmps100
  go_wp2_with (go_at_call 75; refine (wrap_iface _ _ _ _).mono ?_; rintro e w' ⟨rfl, hw⟩; obtain ⟨hc, hb⟩ := err_new hw; clear hw)
  go_ret2
  exact ⟨_, rfl, by simpa using hc, bthen (balloc (Below.refl _ _) _) hb⟩
theorem now_some (W : World) (b : Nat) (v : Value) (ts : List (Int × Int)) (now : Int) (h : Ck W b v ts now) : Calls Tryz.prog 48 #[.pointer (some ⟨b, 0, none⟩)] W fun e w' => e = .returned (.int .i64 now) ∧ W = w' := by
  have c0 := h.c0
  clear h
  go_enter Tryz.func48, Tryz.ntmps48
  go_wp2
  go_ret
  exact ⟨rfl, rfl⟩
theorem waiting_some (W : World) (b : Nat) (v : Value) (ts : List (Int × Int)) (now : Int) (h : Ck W b v ts now) : Calls Tryz.prog 67 #[.pointer (some ⟨b, 0, none⟩)] W fun e w' => e = .returned (.int .i64 ts.length) ∧ W = w' := by
  have c1 := h.c1
  obtain ⟨p, c, rfl, hc⟩ := row_form h.2
  clear h hc
  go_enter Tryz.func67, Tryz.ntmps67
  go_wp2
  go_ret
  exact ⟨rfl, rfl⟩
theorem clo_drop (W : World) (t : Int × Int) (cp : Nat) (who : Int) (h : W.cell? ⟨cp, 0, none⟩ = some (.int .i64 who)) :
    Calls Tryz.prog 116 #[.agg #[.int .i64 t.1, .int .i64 t.2], .pointer (some ⟨cp, 0, none⟩)] W fun e w' => e = .returned (.bool (t.2 == who)) ∧ Below W.heap.size W w' := by
  have h1 := keepc (balloc (Below.refl W.heap.size W) (.cells #[.int .i64 t.1, .int .i64 t.2] 208)) h
  go_enter Tryz.func116, Tryz.ntmps116
  go_wp2
  go_ret
  exact ⟨rfl, by go_grown⟩
theorem clo_tick (W : World) (t : Int × Int) (cp b : Nat) (now : Int) (h : W.cell? ⟨cp, 0, none⟩ = some (.pointer (some ⟨b, 0, none⟩))) (h0 : W.cell? ⟨b, 0, none⟩ = some (.int .i64 now)) :
    Calls Tryz.prog 137 #[.agg #[.int .i64 t.1, .int .i64 t.2], .pointer (some ⟨cp, 0, none⟩)] W fun e w' => e = .returned (.bool (decide (t.1 ≤ now))) ∧ Below W.heap.size W w' := by
  have h1 := keepc (balloc (Below.refl W.heap.size W) (.cells #[.int .i64 t.1, .int .i64 t.2] 208)) h
  have h2 := keepc (balloc (Below.refl W.heap.size W) (.cells #[.int .i64 t.1, .int .i64 t.2] 208)) h0
  go_enter Tryz.func137, Tryz.ntmps137
  go_wp2_with fail
  go_quiet (fail)
  go_wp2
  go_ret
  exact ⟨rfl, bthen (balloc (Below.refl _ _) _) ⟨rfl, rfl, rfl, Nat.le_refl _, fun _ _ => rfl⟩⟩
end Go.Proofs.YtdfcfdcekdmcmaaGreat
namespace Go.Proofs.YtdfcfdcekdmcmaaGreat
open Go.RowKit
set_option linter.unusedVariables false
def whoL (ts : List (Int × Int)) (p : Int × Int → Bool) (k : Nat) : List Int := ((ts.take k).filter p).map (·.2)
def keptL (ts : List (Int × Int)) (p : Int × Int → Bool) (k : Nat) : List (Int × Int) := (ts.take k).filter fun t => !p t
theorem take_snocT {ts : List (Int × Int)} {k : Nat} {t : Int × Int} (h : ts[k]? = some t) : ts.take (k + 1) = ts.take k ++ [t] := by
  rw [List.take_add_one, h]; rfl
theorem whoL_yes {ts : List (Int × Int)} {p : Int × Int → Bool} {k : Nat} {t : Int × Int} (h : ts[k]? = some t) (hp : p t = true) : whoL ts p (k + 1) = whoL ts p k ++ [t.2] := by
  unfold whoL; rw [take_snocT h, List.filter_append, List.map_append]; simp [hp]
theorem whoL_no {ts : List (Int × Int)} {p : Int × Int → Bool} {k : Nat} {t : Int × Int} (h : ts[k]? = some t) (hp : p t = false) : whoL ts p (k + 1) = whoL ts p k := by
  unfold whoL; rw [take_snocT h, List.filter_append]; simp [hp]
theorem keptL_yes {ts : List (Int × Int)} {p : Int × Int → Bool} {k : Nat} {t : Int × Int} (h : ts[k]? = some t) (hp : p t = true) : keptL ts p (k + 1) = keptL ts p k := by
  unfold keptL; rw [take_snocT h, List.filter_append]; simp [hp]
theorem keptL_no {ts : List (Int × Int)} {p : Int × Int → Bool} {k : Nat} {t : Int × Int} (h : ts[k]? = some t) (hp : p t = false) : keptL ts p (k + 1) = keptL ts p k ++ [t] := by
  unfold keptL; rw [take_snocT h, List.filter_append]; simp [hp]
theorem keptL_le (ts : List (Int × Int)) (p : Int × Int → Bool) (k : Nat) : (keptL ts p k).length ≤ k := by
  unfold keptL
  exact Nat.le_trans (List.length_filter_le _ _) (by simp; omega)
theorem whoL_le (ts : List (Int × Int)) (p : Int × Int → Bool) (k : Nat) : (whoL ts p k).length ≤ k := by
  unfold whoL
  rw [List.length_map]
  exact Nat.le_trans (List.length_filter_le _ _) (by simp; omega)
def TK (W : World) (g cap : Nat) (ts : List (Int × Int)) (p : Int × Int → Bool) (k : Nat) (who : Value) (wl : World) : Prop :=
  wl.ownsRow 0 3 1 who (whoL ts p k).length ((whoL ts p k).map (Value.int .i64)) ∧ (∀ q, who.ownBlock = some q → W.heap.size ≤ q) ∧
  (∃ cur, wl.heap[g]? = some (.cells cur 208 (0, 0)) ∧ cur.size = cap * 2 ∧ cur.toList.take ((keptL ts p k).length * 2) = flat (keptL ts p k) ∧ ∀ m, 2 * k ≤ m → m < 2 * ts.length → cur[m]? = (flat ts)[m]?) ∧
  Frm (fun q => q = g) W wl
theorem TK.keep {W : World} {g cap : Nat} {ts : List (Int × Int)} {p : Int × Int → Bool} {k : Nat} {who : Value} {wl w' : World} (h : TK W g cap ts p k who wl) (hb : Below wl.heap.size wl w') : TK W g cap ts p k who w' := by
  obtain ⟨h1, h2, ⟨cur, h3, h4⟩, h5⟩ := h
  exact ⟨(Frm.of_below hb fun _ => False).row h1 fun _ _ => id, h2, ⟨cur, (hb.block g (lt_of_block h3)).trans h3, h4⟩, h5.then (Frm.of_below hb fun _ => False) fun _ _ h => h.elim⟩
theorem TK.start {W : World} {g cap : Nat} {ts : List (Int × Int)} (p : Int × Int → Bool) (h : W.ownsRow 0 208 2 (.slice (some ⟨g, 0, none⟩) ts.length cap) ts.length (flat ts)) : TK W g cap ts p 0 (.slice none 0 0) W := by
  refine ⟨World.ownsRow_nil _ _ _ _, by simp [Value.ownBlock], ?_, Frm.refl _ _⟩
  rcases h.2 with ⟨h', _⟩ | ⟨g', cap', cur, h', _, hg, _, _, hcs, htake⟩
  · simp at h'
  · simp only [Value.slice.injEq, Option.some.injEq, Addr.mk.injEq, and_true, true_and] at h'
    obtain ⟨rfl, rfl⟩ := h'
    refine ⟨cur, hg, hcs, rfl, fun m _ hm => ?_⟩
    rw [← htake, List.getElem?_take, if_pos (by omega)]
    simp
theorem TK.who {W : World} {g cap : Nat} {ts : List (Int × Int)} {p : Int × Int → Bool} {k : Nat} {who who' : Value} {wl w' : World} {t : Int × Int} (h : TK W g cap ts p k who wl) (ht : ts[k]? = some t) (hp : p t = true)
    (ho : w'.ownsRow 0 3 1 who' ((whoL ts p k).length + 1) ((whoL ts p k).map (Value.int .i64) ++ [Value.int .i64 t.2])) (hf : Frm (fun q => who.ownBlock = some q) (wl.alloc (.cells #[.int .i64 t.2] 3)) w')
    (hv : who'.ownBlock = who.ownBlock ∨ ∀ q, who'.ownBlock = some q → (wl.alloc (.cells #[.int .i64 t.2] 3)).heap.size ≤ q) : TK W g cap ts p (k + 1) who' w' := by
  obtain ⟨h1, h2, ⟨cur, h3, h4, h5, h6⟩, h7⟩ := h
  have hne : who.ownBlock ≠ some g := row_ne h1 h3 (by decide)
  have hF : Frm (fun q => who.ownBlock = some q) wl w' := ((Frm.refl _ wl).alloc _).then hf fun _ _ h => h
  have hle : W.heap.size ≤ wl.heap.size := h7.size
  refine ⟨by rw [whoL_yes ht hp]; simpa using ho, ?_, ⟨cur, hF.obj h3 hne, h4, by rw [keptL_yes ht hp]; exact h5, fun m hm => h6 m (by omega)⟩, h7.then hF fun q hq he => by have := h2 q he; omega⟩
  intro q hq
  rcases hv with hv | hv
  · exact h2 q (hv ▸ hq)
  · have := hv q hq; simp at this; omega
theorem TK.kept {W : World} {g cap : Nat} {ts : List (Int × Int)} {p : Int × Int → Bool} {k : Nat} {who : Value} {wl : World} {t : Int × Int} (h : TK W g cap ts p k who wl) (ht : ts[k]? = some t) (hp : p t = false) (hk : k < ts.length) (hc : ts.length ≤ cap) (cur : Array Value) (hcur : wl.heap[g]? = some (.cells cur 208 (0, 0))) :
    TK W g cap ts p (k + 1) who (wl.setRow g (cur.toList.take ((keptL ts p k).length * 2) ++ [Value.int .i64 t.1, Value.int .i64 t.2] ++ cur.toList.drop ((keptL ts p k).length * 2 + 2)).toArray) := by
  obtain ⟨h1, h2, ⟨cur', h3, h4, h5, h6⟩, h7⟩ := h
  rw [hcur] at h3
  simp only [Option.some.injEq, Obj.cells.injEq, and_true] at h3
  subst h3
  have hne : who.ownBlock ≠ some g := row_ne h1 hcur (by decide)
  have hl := keptL_le ts p k
  have hF : Frm (fun q => q = g) wl (wl.setRow g (cur.toList.take ((keptL ts p k).length * 2) ++ [Value.int .i64 t.1, Value.int .i64 t.2] ++ cur.toList.drop ((keptL ts p k).length * 2 + 2)).toArray) := (Frm.refl (fun q => q = g) wl).setRow rfl _
  have hls : cur.toList.length = cap * 2 := by simpa using h4
  have htl : (cur.toList.take ((keptL ts p k).length * 2)).length = (keptL ts p k).length * 2 := by rw [List.length_take]; omega
  refine ⟨by rw [whoL_no ht hp]; exact hF.row h1 fun q hq e => hne (by rw [hq, e]), h2, ⟨_, setRow_heap wl g cur _ _ _ hcur, ?_, ?_, ?_⟩, h7.then hF fun _ _ h => h⟩
  · simp only [List.size_toArray, List.length_append, htl, List.length_drop, List.length_cons, List.length_nil, hls]; omega
  · rw [keptL_no ht hp, flat_append, flat_one, ← h5, List.length_append]
    show List.take (((keptL ts p k).length + 1) * 2) _ = _
    have e : ((keptL ts p k).length + 1) * 2 = (cur.toList.take ((keptL ts p k).length * 2) ++ [Value.int .i64 t.1, Value.int .i64 t.2]).length := by rw [List.length_append, htl]; simp; omega
    rw [e, List.take_left]
  · intro m hm hm2
    have e : (cur.toList.take ((keptL ts p k).length * 2) ++ [Value.int .i64 t.1, Value.int .i64 t.2]).length = (keptL ts p k).length * 2 + 2 := by rw [List.length_append, htl]; simp
    rw [List.getElem?_toArray, List.getElem?_append_right (by omega), e, List.getElem?_drop, ← h6 m (by omega) hm2]
    rw [show (keptL ts p k).length * 2 + 2 + (m - ((keptL ts p k).length * 2 + 2)) = m by omega]
    simp
end Go.Proofs.YtdfcfdcekdmcmaaGreat
namespace Go.Proofs.YtdfcfdcekdmcmaaGreat
open Go.RowKit
set_option linter.unusedVariables false
theorem two_cell (w : World) (x y : Value) (t : TypeId) : ∀ j u, [x, y][j]? = some u → (w.alloc (.cells #[x, y] t)).cell? ((⟨w.heap.size, 0, none⟩ : Addr).add j) = some u := by
  intro j u hu
  have e : ∀ j : Nat, ((⟨w.heap.size, 0, none⟩ : Addr).add j) = ⟨w.heap.size, j, none⟩ := fun j => by unfold Addr.add; split <;> simp_all
  rw [e, obj_cell (obj_new w _)]
  rcases j with _ | _ | j
  · simpa using hu
  · simpa using hu
  · simp at hu
theorem infoInt : (Tryz.prog.info? 3).map (fun i => (i.zero, i.size, i.bytes)) = some (some (.int .i64 0), 1, 8) := by kernel_rfl
theorem infoTimer : (Tryz.prog.info? 208).map (fun i => i.size) = some 2 := by kernel_rfl
theorem TK.cells {W : World} {g cap : Nat} {ts : List (Int × Int)} {p : Int × Int → Bool} {k : Nat} {who : Value} {wl : World} {t : Int × Int} (h : TK W g cap ts p k who wl) (hk : k < ts.length) (ht : ts[k]? = some t) :
    wl.cell? ⟨g, k * 2, none⟩ = some (.int .i64 t.1) ∧ wl.cell? ⟨g, k * 2 + 1, none⟩ = some (.int .i64 t.2) := by
  obtain ⟨_, _, ⟨cur, h3, _, _, h6⟩, _⟩ := h
  have e : ts[k] = t := by rw [List.getElem?_eq_getElem hk] at ht; simpa using ht
  obtain ⟨f1, f2⟩ := flat_get ts k hk
  rw [e] at f1 f2
  constructor
  · rw [obj_cell h3, show k * 2 = 2 * k by omega, h6 _ (by omega) (by omega)]; exact f1
  · rw [obj_cell h3, show k * 2 + 1 = 2 * k + 1 by omega, h6 _ (by omega) (by omega)]; exact f2
def TakeOk (W w' : World) (b : Nat) (v : Value) (ts : List (Int × Int)) (p : Int × Int → Bool) (now : Int) (e : Ending) : Prop :=
  ∃ r v', e = .returned r ∧ w'.ownsRow 0 3 1 r (whoL ts p ts.length).length ((whoL ts p ts.length).map (Value.int .i64)) ∧ (∀ q, r.ownBlock = some q → W.heap.size ≤ q) ∧ Ck w' b v' (keptL ts p ts.length) now ∧ v'.ownBlock = v.ownBlock ∧ Frm (fun k => k = b ∨ v.ownBlock = some k) W w'
theorem take_end {W wl : World} {b g cap : Nat} {ts : List (Int × Int)} {p : Int × Int → Bool} {now : Int} {who : Value} (h : Ck W b (.slice (some ⟨g, 0, none⟩) ts.length cap) ts now) (hc : ts.length ≤ cap) (hcm : cap ≤ maxLen) (ht : TK W g cap ts p ts.length who wl) :
    TakeOk W (wl.setCell ⟨b, 1, none⟩ (.slice (some ⟨g, 0, none⟩) (keptL ts p ts.length).length cap)) b (.slice (some ⟨g, 0, none⟩) ts.length cap) ts p now (.returned who) := by
  obtain ⟨h1, h2, ⟨cur, h3, h4, h5, _⟩, h7⟩ := ht
  have hgb : g ≠ b := fun e => h.ne (by simp [Value.ownBlock, e])
  have hob : wl.heap[b]? = some (.cells #[.int .i64 now, .slice (some ⟨g, 0, none⟩) ts.length cap] 106 (0, 0)) := h7.obj h.1 (by omega)
  have hF : Frm (fun k => k = b) wl (wl.setCell ⟨b, 1, none⟩ (.slice (some ⟨g, 0, none⟩) (keptL ts p ts.length).length cap)) := (Frm.refl (fun k => k = b) wl).setCell (p := ⟨b, 1, none⟩) rfl _
  have hk := keptL_le ts p ts.length
  refine ⟨who, _, rfl, hF.row h1 fun q hq e => row_ne h1 hob (by decide) (by rw [hq, e]), h2, ⟨obj_setCell _ hob, ?_⟩, rfl, (h7.mono fun k _ e => .inr (by simp [Value.ownBlock, e])).then hF fun k _ e => .inl e⟩
  refine ⟨by rw [flat_len], .inr ⟨g, cap, cur, rfl, Nat.zero_le _, hF.obj h3 hgb, by omega, hcm, h4, h5⟩⟩
set_option maxRecDepth 100000 in
set_option maxHeartbeats 2000000 in
theorem take_some (W : World) (b g cap : Nat) (ts : List (Int × Int)) (now : Int) (F cp : Nat) (p : Int × Int → Bool) (h : Ck W b (.slice (some ⟨g, 0, none⟩) ts.length cap) ts now) (hc : ts.length ≤ cap) (hcm : cap ≤ maxLen) (hn : (ts.length : Int) ≤ 1048576)
    (he : ∀ (x y : Int) (w : World), (callFunc F #[.agg #[.int .i64 x, .int .i64 y], .pointer (some ⟨cp, 0, none⟩)]).run Tryz.prog w = .ok (.enter F #[.agg #[.int .i64 x, .int .i64 y], .pointer (some ⟨cp, 0, none⟩)]) w)
    (hcl : ∀ W' : World, Frm (fun q => q = g) W W' → ∀ t : Int × Int, Calls Tryz.prog F #[.agg #[.int .i64 t.1, .int .i64 t.2], .pointer (some ⟨cp, 0, none⟩)] W' fun e w' => e = .returned (.bool (p t)) ∧ Below W'.heap.size W' w') :
    Calls Tryz.prog 115 #[.pointer (some ⟨b, 0, none⟩), .func (.func F) #[] #[.pointer (some ⟨cp, 0, none⟩)]] W fun e w' => TakeOk W w' b (.slice (some ⟨g, 0, none⟩) ts.length cap) ts p now e := by
  obtain ⟨i0, hi0, hz0, hz1, hz2⟩ := info_parts infoInt
  obtain ⟨i1, hi1, hy1⟩ := Option.map_eq_some_iff.1 infoTimer
  have c1 := h.c1
  have HC := Lib.hid h
  have HE := Lib.hid he
  have HCL := Lib.hid hcl
  have HS := Lib.hid (TK.start p h.2)
  have HCM := Lib.hid hcm
  have hcn : ts.length ≤ 9223372036854775807 := by omega
  clear h hcl he hcm
  go_enter Tryz.func115, Tryz.ntmps115
  go_wp2_with fail
  go_loopw [5, 6, 19] (fun who kept i wl => ∃ k : Nat, k ≤ ts.length ∧ i = .int .i64 k ∧ kept = .slice (some ⟨g, 0, none⟩) (keptL ts p k).length cap ∧ TK W g cap ts p k who wl) (fun _ _ i _ => ts.length - (intOf i).toNat)
  case atStart => exact ⟨0, Nat.zero_le _, rfl, rfl, HS.out⟩
  case round =>
    obtain ⟨k, hk, rfl, rfl, htk⟩ := hrel
    have HTK := Lib.hid htk
    clear htk
    by_cases hlt : k < ts.length
    · have ht : ts[k]? = some ts[k] := List.getElem?_eq_getElem hlt
      generalize ts[k] = t at ht
      have HT := Lib.hid ht
      have g0 := (HTK.out.cells hlt ht).1
      have g1 := (HTK.out.cells hlt ht).2
      have hcall := fun w => HE.out t.1 t.2 w
      clear ht
      go_wp2_with fail
      refine (HCL.out _ (HTK.out.2.2.2.alloc _) t).mono ?_
      rintro e w4 ⟨rfl, hb4⟩
      have HTK4 := Lib.hid ((HTK.out.keep (balloc (Below.refl _ _) (.cells #[.int .i64 t.1, .int .i64 t.2] 208))).keep hb4)
      have hO := (hb4.block wr.heap.size (by simp)).trans (obj_new wr (.cells #[.int .i64 t.1, .int .i64 t.2] 208))
      have o0 : w4.cell? ⟨wr.heap.size, 0, none⟩ = some (.int .i64 t.1) := (obj_cell hO 0).trans rfl
      have o1 : w4.cell? ⟨wr.heap.size, 1, none⟩ = some (.int .i64 t.2) := (obj_cell hO 1).trans rfl
      clear g0 g1 hcall hO hb4
      generalize wr.heap.size = ob at *
      have hwl := whoL_le ts p k
      have hkl := keptL_le ts p k
      cases hp : p t with
      | true =>
        have HP := Lib.hid hp
        clear hp
        go_wp2_with (at_builtin; refine wpList_append_row rfl _ _ 40 rfl 3 i0 (.int .i64 0) 1 8 Tryz.underlying40 hi0 hz0 hz1 hz2 rfl (by decide) u5 (whoL ts p k).length _ rfl (HTK4.out.1.alloc _) ⟨w4.heap.size, 0, none⟩ 1 1 [.int .i64 t.2] rfl rfl (one_cell _ _ _) (fun x hx => by simp at hx; subst hx; rfl) (by unfold maxLen; omega) (by omega) ?_; intro v' w5 hown5 hf5 hv5; have HE5 := Lib.hid (TK.who HTK4.out HT.out HP.out hown5 hf5 hv5); clear hown5 hf5 hv5)
        exact ⟨⟨k + 1, by omega, by go_num, by rw [keptL_yes HT.out HP.out], HE5.out⟩, by simp [intOf]; omega⟩
      | false =>
        have HP := Lib.hid hp
        obtain ⟨cur, hcur, hcs, hcr⟩ := HTK4.out.2.2.1
        clear hcr
        have HE5 := Lib.hid ((HTK4.out.keep (balloc (Below.refl _ _) (.cells #[.int .i64 t.1, .int .i64 t.2] 208))).kept HT.out HP.out hlt hc cur (obj_old _ hcur))
        have HCUR := Lib.hid hcur
        have HCS := Lib.hid hcs
        have HKL := Lib.hid hkl
        clear hp hcur hcs
        go_wp2_with (at_builtin; refine wpList_append_at rfl _ _ 104 rfl 208 i1 2 Tryz.underlying104 hi1 hy1 g (keptL ts p k).length cap cur rfl (obj_old _ HCUR.out) ⟨w4.heap.size, 0, none⟩ 1 1 [.int .i64 t.1, .int .i64 t.2] rfl rfl (two_cell _ _ _ _) (fun x hx => by simp at hx; rcases hx with rfl | rfl <;> rfl) (by omega) (by have := HCS.out; simp; omega) ?_)
        exact ⟨⟨k + 1, by omega, by go_num, by rw [keptL_no HT.out HP.out]; simp, by simpa using HE5.out⟩, by simp [intOf]; omega⟩
    · obtain rfl : k = ts.length := by omega
      clear hlt
      have hkl := keptL_le ts p ts.length
      have hob := HTK.out.2.2.2.obj HC.out.1 (fun e => HC.out.ne (by simp [Value.ownBlock, e]))
      have b1 : wr.cell? ⟨b, 1, none⟩ = some (.slice (some ⟨g, 0, none⟩) ts.length cap) := (obj_cell hob 1).trans rfl
      have bf := obj_free hob 1
      have HEND := Lib.hid (take_end HC.out hc HCM.out HTK.out)
      clear hob
      go_wp2
      go_ret
      exact HEND.out
end Go.Proofs.YtdfcfdcekdmcmaaGreat
namespace Go.Proofs.YtdfcfdcekdmcmaaGreat
open Go.RowKit
set_option linter.unusedVariables false
theorem take_none (W : World) (b : Nat) (now : Int) (F cp : Nat) (p : Int × Int → Bool) (h : Ck W b (.slice none 0 0) [] now) :
    Calls Tryz.prog 115 #[.pointer (some ⟨b, 0, none⟩), .func (.func F) #[] #[.pointer (some ⟨cp, 0, none⟩)]] W fun e w' => TakeOk W w' b (.slice none 0 0) [] p now e := by
  have c1 := h.c1
  have f1 := h.f 1
  have HC := Lib.hid h
  clear h
  go_enter Tryz.func115, Tryz.ntmps115
  go_wp2
  refine wp_loop_rounds 1 ?_
  rw [rounds_succ]
  go_wp2
  go_ret
  refine ⟨_, _, rfl, World.ownsRow_nil _ _ _ _, by simp [Value.ownBlock], ⟨obj_setCell _ HC.out.1, World.ownsRow_nil _ _ _ _⟩, rfl, (Frm.refl (fun k => k = b ∨ (Value.slice none 0 0).ownBlock = some k) W).setCell (p := ⟨b, 1, none⟩) (.inl rfl) _⟩
theorem take_any (W : World) (b : Nat) (v : Value) (ts : List (Int × Int)) (now : Int) (F cp : Nat) (p : Int × Int → Bool) (h : Ck W b v ts now) (hn : (ts.length : Int) ≤ 1048576)
    (he : ∀ (x y : Int) (w : World), (callFunc F #[.agg #[.int .i64 x, .int .i64 y], .pointer (some ⟨cp, 0, none⟩)]).run Tryz.prog w = .ok (.enter F #[.agg #[.int .i64 x, .int .i64 y], .pointer (some ⟨cp, 0, none⟩)]) w)
    (hcl : ∀ W' : World, Frm (fun q => v.ownBlock = some q) W W' → ∀ t : Int × Int, Calls Tryz.prog F #[.agg #[.int .i64 t.1, .int .i64 t.2], .pointer (some ⟨cp, 0, none⟩)] W' fun e w' => e = .returned (.bool (p t)) ∧ Below W'.heap.size W' w') :
    Calls Tryz.prog 115 #[.pointer (some ⟨b, 0, none⟩), .func (.func F) #[] #[.pointer (some ⟨cp, 0, none⟩)]] W fun e w' => TakeOk W w' b v ts p now e := by
  rcases h.2.2 with ⟨rfl, h0⟩ | ⟨g, cap, cur, rfl, _, _, hc, hcm, _, _⟩
  · obtain rfl : ts = [] := List.eq_nil_of_length_eq_zero h0
    exact take_none W b now F cp p h
  · exact take_some W b g cap ts now F cp p h hc hcm hn he fun W' hf t => hcl W' (hf.mono fun k _ e => by simp [Value.ownBlock, e]) t
def TickOk (W w' : World) (b : Nat) (v : Value) (ts : List (Int × Int)) (now : Int) (e : Ending) : Prop :=
  ∃ r v', e = .returned (.tuple #[r, .nilIface]) ∧ w'.ownsRow 0 3 1 r (whoL ts (fun t => decide (t.1 ≤ now)) ts.length).length ((whoL ts (fun t => decide (t.1 ≤ now)) ts.length).map (Value.int .i64)) ∧ (∀ q, r.ownBlock = some q → W.heap.size ≤ q) ∧
    Ck w' b v' (keptL ts (fun t => decide (t.1 ≤ now)) ts.length) now ∧ v'.ownBlock = v.ownBlock ∧ Frm (fun k => k = b ∨ v.ownBlock = some k) W w'
theorem tick_some (W : World) (b : Nat) (v : Value) (ts : List (Int × Int)) (now d : Int) (h : Ck W b v ts now) (hn : (ts.length : Int) ≤ 1048576) (hd : 1 ≤ d) (h0 : 0 ≤ now) (hm : now + d ≤ 1099511627776) :
    Calls Tryz.prog 100 #[.pointer (some ⟨b, 0, none⟩), .int .i64 d] W fun e w' => TickOk W w' b v ts (now + d) e := by
  have hmf : ∀ (fn : Fn) (first cap : Array Value) (w : World), (Instr.makeFunc fn first cap).run Tryz.prog w = .ok (.func fn first cap) w := fun _ _ _ _ => rfl
  have h1 := h.keepB ((Below.refl _ W).alloc (Nat.le_refl _) (.cells #[.pointer (some ⟨b, 0, none⟩)] 97))
  have hcp := obj_new W (.cells #[.pointer (some ⟨b, 0, none⟩)] 97)
  have hF1 := (Frm.refl (fun k => k = b ∨ v.ownBlock = some k) W).alloc (.cells #[.pointer (some ⟨b, 0, none⟩)] 97)
  have c0 := h1.c0
  have f0 := h1.f 0
  have p0 : (W.alloc (.cells #[.pointer (some ⟨b, 0, none⟩)] 97)).cell? ⟨W.heap.size, 0, none⟩ = some (.pointer (some ⟨b, 0, none⟩)) := (obj_cell hcp 0).trans rfl
  have hbp : W.heap.size ≠ b := obj_ne hcp h1.1 (by decide)
  have HCP := Lib.hid hcp
  have H1 := Lib.hid h1
  have HF1 := Lib.hid hF1
  clear h hcp h1 hF1
  go_enter Tryz.func100, Tryz.ntmps100
  go_wp2_with fail
  have h2 : Ck ((W.alloc (.cells #[.pointer (some ⟨b, 0, none⟩)] 97)).setCell ⟨b, 0, none⟩ (.int .i64 (now + d))) b v ts (now + d) := by
    have hf : Frm (fun k => k = b) (W.alloc (.cells #[.pointer (some ⟨b, 0, none⟩)] 97)) ((W.alloc (.cells #[.pointer (some ⟨b, 0, none⟩)] 97)).setCell ⟨b, 0, none⟩ (.int .i64 (now + d))) := (Frm.refl (fun k => k = b) _).setCell (p := ⟨b, 0, none⟩) rfl _
    exact ⟨obj_setCell _ H1.out.1, hf.row H1.out.2 fun g hg e => H1.out.ne (by rw [hg, e])⟩
  have hF2 := HF1.out.setCell (p := ⟨b, 0, none⟩) (.inl rfl) (.int .i64 (now + d))
  have hcp2 : ((W.alloc (.cells #[.pointer (some ⟨b, 0, none⟩)] 97)).setCell ⟨b, 0, none⟩ (.int .i64 (now + d))).heap[W.heap.size]? = some (.cells #[.pointer (some ⟨b, 0, none⟩)] 97 (0, 0)) := (Below.heap_setCell _ _ _ _ hbp).trans HCP.out
  refine (take_any _ b v ts (now + d) 137 W.heap.size (fun t => decide (t.1 ≤ now + d)) h2 hn (fun _ _ _ => by kernel_rfl) ?_).mono ?_
  · intro W' hf t
    refine clo_tick W' t W.heap.size b (now + d) ?_ ?_
    · exact (obj_cell (hf.obj hcp2 fun e => row_ne h2.2 hcp2 (by decide) e) 0).trans rfl
    · exact (obj_cell (hf.obj h2.1 h2.ne) 0).trans rfl
  rintro e w3 ⟨r, v', rfl, ho, hr, hck, hv, hf⟩
  have HT : Hid (TickOk W w3 b v ts (now + d) (.returned (.tuple #[r, .nilIface]))) := ⟨r, v', rfl, ho, fun q hq => Nat.le_trans hF2.size (hr q hq), hck, hv, hF2.then hf fun _ _ h => h⟩
  clear ho hr hck hv hf hF2 hcp2 h2
  go_wp2
  go_ret2
  exact HT.out
end Go.Proofs.YtdfcfdcekdmcmaaGreat
namespace Go.Proofs.YtdfcfdcekdmcmaaGreat
open Go.RowKit
set_option linter.unusedVariables false
theorem infoTimer3 : (Tryz.prog.info? 208).map (fun i => (i.zero, i.size, i.bytes)) = some (some (.agg #[.int .i64 0, .int .i64 0]), 2, 16) := by kernel_rfl
theorem index_nil (W : World) (f : Value) : Calls Tryz.prog 117 #[.slice none 0 0, f] W fun e w' => e = .returned (.int .i64 (-1)) ∧ W = w' := by
  go_enter Tryz.func117, Tryz.ntmps117
  go_wp2
  refine wp_loop_rounds 1 ?_
  rw [rounds_succ]
  go_wp2
  go_ret
  exact ⟨rfl, rfl⟩
def One (W w' : World) (t : Int × Int) (e : Ending) : Prop :=
  ∃ q c, e = .returned (.slice q 1 c) ∧ w'.ownsRow 0 208 2 (.slice q 1 c) 1 (flat [t]) ∧ Frm (fun _ => False) W w' ∧ ∀ g, (Value.slice q 1 c).ownBlock = some g → W.heap.size ≤ g
set_option maxRecDepth 100000 in
theorem insert_nil (W : World) (q : Nat) (t : Int × Int) (h : W.heap[q]? = some (.cells #[.int .i64 t.1, .int .i64 t.2] 208 (0, 0))) :
    Calls Tryz.prog 119 #[.slice none 0 0, .int .i64 0, .slice (some ⟨q, 0, none⟩) 1 1] W fun e w' => One W w' t e := by
  obtain ⟨i1, hi1, hy0, hy1, hy2⟩ := info_parts infoTimer3
  have hnews : ∀ j u, (flat [t])[j]? = some u → W.cell? ((⟨q, 0, none⟩ : Addr).add j) = some u := by
    intro j u hu
    have e : ((⟨q, 0, none⟩ : Addr).add j) = ⟨q, j, none⟩ := by unfold Addr.add; split <;> simp_all
    rw [e, obj_cell h]
    rcases j with _ | _ | j
    · simpa [flat] using hu
    · simpa [flat] using hu
    · simp [flat] at hu
  have HN := Lib.hid hnews
  clear h hnews
  go_enter Tryz.func119, Tryz.ntmps119
  go_wp2_with (at_builtin; (refine wpList_append_row rfl (.tmp 23) (.tmp 24) 104 rfl 208 i1 (.agg #[.int .i64 0, .int .i64 0]) 2 16 Tryz.underlying104 hi1 hy0 hy1 hy2 rfl (by decide) (.slice none 0 0) 0 [] rfl (World.ownsRow_nil _ _ _ _) ⟨q, 0, none⟩ 1 1 (flat [t]) rfl rfl HN.out (fun x hx => by simp [flat] at hx; rcases hx with rfl | rfl <;> rfl) (by unfold maxLen; omega) (by omega) ?_; intro v' w3 hown3 hf3 hv3; simp only [Nat.zero_add, List.nil_append] at hown3; obtain ⟨p', c', rfl, hc'⟩ := row_form hown3; have HE : Hid (One W w3 t (.returned (.slice p' 1 c'))) := ⟨p', c', rfl, hown3, hf3.mono fun k _ e => by simp [Value.ownBlock] at e, fun g hg => by rcases hv3 with h | h; { rw [h] at hg; simp [Value.ownBlock] at hg }; { exact h g hg }⟩; clear hown3 hf3 hv3 hc'))
  go_ret
  exact HE.out
def SetOk (W w' : World) (b : Nat) (t : Int × Int) (e : Ending) : Prop :=
  ∃ v', e = .returned .nilIface ∧ Ck w' b v' [t] 0 ∧ (∀ g, v'.ownBlock = some g → W.heap.size ≤ g) ∧ Frm (fun k => k = b) W w'
theorem set_end {W w2 w5 : World} {b : Nat} {t : Int × Int} {q : Option Addr} {c : Nat} {o : Obj} (hk : Ck w2 b (.slice none 0 0) [] 0) (hF : Frm (fun k => k = b) W w2) (ho : w5.ownsRow 0 208 2 (.slice q 1 c) 1 (flat [t])) (hf : Frm (fun _ => False) (w2.alloc o).drew w5) (hg : ∀ g, (Value.slice q 1 c).ownBlock = some g → (w2.alloc o).drew.heap.size ≤ g) :
    SetOk W (w5.setCell ⟨b, 1, none⟩ (.slice q 1 c)) b t (.returned .nilIface) := by
  have hob : w5.heap[b]? = some (.cells #[.int .i64 0, .slice none 0 0] 106 (0, 0)) := hf.obj (w := (w2.alloc o).drew) (obj_old (w := w2) o hk.1) id
  have h1 : Frm (fun k => k = b) W w5 := (hF.alloc o).drew.then hf fun _ _ h => h.elim
  have hF5 : Frm (fun k => k = b) w5 (w5.setCell ⟨b, 1, none⟩ (.slice q 1 c)) := (Frm.refl (fun k => k = b) w5).setCell (p := ⟨b, 1, none⟩) rfl _
  refine ⟨_, rfl, ⟨obj_setCell _ hob, hF5.row ho fun g hg' e => row_ne ho hob (by decide) (by rw [hg', e])⟩, fun g hg' => ?_, h1.trans hF5⟩
  have := hg g hg'
  have := hF.size
  simp at *
  omega
end Go.Proofs.YtdfcfdcekdmcmaaGreat
namespace Go.Proofs.YtdfcfdcekdmcmaaGreat
def ins (t : Int × Int) : List (Int × Int) → List (Int × Int)
  | [] => [t]
  | x :: l => if t.1 < x.1 then t :: x :: l else x :: ins t l
theorem ins_cons (t x : Int × Int) (l : List (Int × Int)) : ins t (x :: l) = if t.1 < x.1 then t :: x :: l else x :: ins t l := rfl
def srt (ms : List (Int × Int)) : List (Int × Int) := ms.foldl (fun l t => ins t l) []
def Sorted : List (Int × Int) → Prop
  | [] => True
  | x :: l => (∀ y ∈ l, x.1 ≤ y.1) ∧ Sorted l
theorem srt_snoc (ms : List (Int × Int)) (t : Int × Int) : srt (ms ++ [t]) = ins t (srt ms) := by unfold srt; rw [List.foldl_append]; rfl
theorem mem_ins (t y : Int × Int) : ∀ l, y ∈ ins t l ↔ y = t ∨ y ∈ l
  | [] => by simp [ins]
  | x :: l => by
    unfold ins
    split
    · simp
    · simp only [List.mem_cons, mem_ins t y l]
      constructor
      · rintro (h | h | h)
        · exact .inr (.inl h)
        · exact .inl h
        · exact .inr (.inr h)
      · rintro (h | h | h)
        · exact .inr (.inl h)
        · exact .inl h
        · exact .inr (.inr h)
theorem ins_sorted (t : Int × Int) : ∀ l, Sorted l → Sorted (ins t l)
  | [], _ => ⟨by simp, trivial⟩
  | x :: l, h => by
    unfold ins
    split
    · rename_i hlt
      refine ⟨fun y hy => ?_, h⟩
      rcases List.mem_cons.1 hy with rfl | hy
      · omega
      · have := h.1 y hy; omega
    · rename_i hge
      refine ⟨fun y hy => ?_, ins_sorted t l h.2⟩
      rcases (mem_ins t y l).1 hy with rfl | hy
      · omega
      · exact h.1 y hy
theorem foldl_sorted : ∀ (ms l : List (Int × Int)), Sorted l → Sorted (ms.foldl (fun l t => ins t l) l)
  | [], _, h => h
  | t :: ms, l, h => foldl_sorted ms (ins t l) (ins_sorted t l h)
theorem ins_length (t : Int × Int) : ∀ l, (ins t l).length = l.length + 1
  | [] => rfl
  | x :: l => by
    unfold ins
    split
    · rfl
    · simp only [List.length_cons, ins_length t l]
theorem foldl_length : ∀ (ms l : List (Int × Int)), (ms.foldl (fun l t => ins t l) l).length = ms.length + l.length
  | [], _ => by simp
  | t :: ms, l => by simp only [List.foldl_cons, foldl_length ms (ins t l), ins_length, List.length_cons]; omega
theorem srt_length (ms : List (Int × Int)) : (srt ms).length = ms.length := by unfold srt; rw [foldl_length]; simp
theorem mem_foldl (y : Int × Int) : ∀ (ms l : List (Int × Int)), y ∈ ms.foldl (fun l t => ins t l) l ↔ y ∈ ms ∨ y ∈ l
  | [], l => by simp
  | t :: ms, l => by
    simp only [List.foldl_cons, mem_foldl y ms (ins t l), mem_ins, List.mem_cons]
    constructor
    · rintro (h | h | h)
      · exact .inl (.inr h)
      · exact .inl (.inl h)
      · exact .inr h
    · rintro ((h | h) | h)
      · exact .inr (.inl h)
      · exact .inl h
      · exact .inr (.inr h)
theorem mem_srt (y : Int × Int) (ms : List (Int × Int)) : y ∈ srt ms ↔ y ∈ ms := by unfold srt; rw [mem_foldl]; simp
theorem ins_low (t : Int × Int) : ∀ l : List (Int × Int), (∀ y ∈ l, t.1 < y.1) → ins t l = t :: l
  | [], _ => rfl
  | x :: l, h => by unfold ins; rw [if_pos (h x (List.mem_cons_self ..))]
theorem ins_filter (q : Int × Int → Bool) (t : Int × Int) : ∀ l, Sorted l → (ins t l).filter q = if q t then ins t (l.filter q) else l.filter q
  | [], _ => by
    cases h : q t <;> simp [h, ins]
  | x :: l, h => by
    rw [ins_cons]
    split
    · rename_i hlt
      cases ht : q t with
      | false => simp [ht, List.filter_cons]
      | true =>
        have hall : ∀ y ∈ (x :: l).filter q, t.1 < y.1 := by
          intro y hy
          have hy := (List.mem_filter.1 hy).1
          rcases List.mem_cons.1 hy with rfl | hy
          · exact hlt
          · have := h.1 y hy; omega
        rw [List.filter_cons, if_pos ht, if_pos rfl, ins_low t _ hall]
    · rename_i hge
      have ih := ins_filter q t l h.2
      cases hx : q x with
      | false =>
        rw [List.filter_cons_of_neg (by simp [hx]), ih, List.filter_cons_of_neg (by simp [hx])]
      | true =>
        rw [List.filter_cons_of_pos hx, ih, List.filter_cons_of_pos hx]
        cases ht : q t with
        | false => simp
        | true =>
          simp only [if_true]
          rw [ins_cons, if_neg hge]
theorem foldl_filter (q : Int × Int → Bool) : ∀ (ms l : List (Int × Int)), Sorted l → (ms.foldl (fun l t => ins t l) l).filter q = (ms.filter q).foldl (fun l t => ins t l) (l.filter q)
  | [], _, _ => rfl
  | t :: ms, l, h => by
    rw [List.foldl_cons, foldl_filter q ms (ins t l) (ins_sorted t l h), ins_filter q t l h]
    cases ht : q t with
    | false => rw [List.filter_cons_of_neg (by simp [ht])]; simp
    | true => rw [List.filter_cons_of_pos ht]; simp
theorem srt_filter (q : Int × Int → Bool) (ms : List (Int × Int)) : (srt ms).filter q = srt (ms.filter q) := by unfold srt; rw [foldl_filter q ms [] trivial]; rfl
theorem foldl_head (m : Int × Int) : ∀ (bs l : List (Int × Int)), (∀ b ∈ bs, m.1 ≤ b.1) → bs.foldl (fun l t => ins t l) (m :: l) = m :: bs.foldl (fun l t => ins t l) l
  | [], _, _ => rfl
  | b :: bs, l, h => by
    have hb := h b (List.mem_cons_self ..)
    rw [List.foldl_cons, List.foldl_cons]
    rw [ins_cons, if_neg (by omega)]
    exact foldl_head m bs (ins b l) fun b' hb' => h b' (List.mem_cons_of_mem _ hb')
theorem srt_head (aa bs : List (Int × Int)) (m : Int × Int) (ha : ∀ a ∈ aa, m.1 < a.1) (hb : ∀ b ∈ bs, m.1 ≤ b.1) : srt (aa ++ m :: bs) = m :: srt (aa ++ bs) := by
  unfold srt
  rw [List.foldl_append, List.foldl_cons, List.foldl_append]
  have h : ins m (aa.foldl (fun l t => ins t l) []) = m :: aa.foldl (fun l t => ins t l) [] := ins_low m _ fun y hy => by
    rcases (mem_foldl y aa []).1 hy with h | h
    · exact ha y h
    · simp at h
  rw [h, foldl_head m bs _ hb]
end Go.Proofs.YtdfcfdcekdmcmaaGreat
namespace Go.Proofs.YtdfcfdcekdmcmaaGreat
open Go.RowKit
set_option linter.unusedVariables false
theorem clo_set (W : World) (t : Int × Int) (cp : Nat) (x : Int) (h : W.cell? ⟨cp, 0, none⟩ = some (.int .i64 x)) :
    Calls Tryz.prog 118 #[.agg #[.int .i64 t.1, .int .i64 t.2], .pointer (some ⟨cp, 0, none⟩)] W fun e w' => e = .returned (.bool (decide (x < t.1))) ∧ Below W.heap.size W w' := by
  have h1 := keepc (balloc (Below.refl W.heap.size W) (.cells #[.int .i64 t.1, .int .i64 t.2] 208)) h
  go_enter Tryz.func118, Tryz.ntmps118
  go_wp2
  go_ret
  exact ⟨rfl, by go_grown⟩
def later (x : Int) (ts : List (Int × Int)) : Nat := (ts.takeWhile fun t => decide (t.1 ≤ x)).length
theorem later_at (x : Int) : ∀ (ts : List (Int × Int)) (k : Nat), k < ts.length → (∀ j, (h : j < ts.length) → j < k → ts[j].1 ≤ x) → (∀ h : k < ts.length, x < ts[k].1) → later x ts = k
  | [], k, hk, _, _ => by simp at hk
  | t :: ts, 0, _, _, h => by
    have := h (by simp)
    unfold later
    rw [List.takeWhile_cons_of_neg (by simpa using this)]
    rfl
  | t :: ts, k + 1, hk, ha, h => by
    have h0 := ha 0 (by simp) (by omega)
    have ih := later_at x ts k (by simpa using hk) (fun j hj hjk => ha (j + 1) (by simp; omega) (by omega)) (fun hk' => h (by simp; omega))
    unfold later at ih ⊢
    rw [List.takeWhile_cons_of_pos (by simpa using h0), List.length_cons, ih]
theorem later_end (x : Int) : ∀ (ts : List (Int × Int)), (∀ j, (h : j < ts.length) → ts[j].1 ≤ x) → later x ts = ts.length
  | [], _ => rfl
  | t :: ts, ha => by
    have h0 := ha 0 (by simp)
    have ih := later_end x ts (fun j hj => ha (j + 1) (by simp; omega))
    unfold later at ih ⊢
    rw [List.takeWhile_cons_of_pos (by simpa using h0), List.length_cons, ih, List.length_cons]
theorem later_le (x : Int) (ts : List (Int × Int)) : later x ts ≤ ts.length := by
  induction ts with
  | nil => exact Nat.le_refl _
  | cons t ts ih =>
    unfold later at ih ⊢
    rw [List.takeWhile_cons]
    split
    · simp only [List.length_cons]; omega
    · simp
theorem ins_later (t : Int × Int) : ∀ ts : List (Int × Int), ins t ts = ts.take (later t.1 ts) ++ t :: ts.drop (later t.1 ts)
  | [] => rfl
  | x :: ts => by
    rw [ins_cons]
    by_cases h : t.1 < x.1
    · rw [if_pos h]
      have : later t.1 (x :: ts) = 0 := by unfold later; rw [List.takeWhile_cons_of_neg (by simpa using h)]; rfl
      rw [this]; rfl
    · rw [if_neg h]
      have : later t.1 (x :: ts) = later t.1 ts + 1 := by unfold later; rw [List.takeWhile_cons_of_pos (by simp; omega)]; rfl
      rw [this, ins_later t ts]; rfl
def laterR (x : Int) (ts : List (Int × Int)) : Int := if later x ts < ts.length then (later x ts : Int) else -1
theorem laterR_in {x : Int} {ts : List (Int × Int)} {k : Nat} (h : later x ts = k) (hk : k < ts.length) : laterR x ts = k := by unfold laterR; rw [h, if_pos hk]
theorem laterR_out {x : Int} {ts : List (Int × Int)} (h : later x ts = ts.length) : laterR x ts = -1 := by unfold laterR; rw [h, if_neg (by omega)]
theorem ret_i {a b : Int} (h : a = b) : Ending.returned (.int .i64 a) = .returned (.int .i64 b) := by rw [h]
set_option maxHeartbeats 1000000 in
theorem index_some (W : World) (g cap : Nat) (ts : List (Int × Int)) (cp : Nat) (x : Int) (ho : W.ownsRow 0 208 2 (.slice (some ⟨g, 0, none⟩) ts.length cap) ts.length (flat ts)) (hn : (ts.length : Int) ≤ 1048576) (hx : W.cell? ⟨cp, 0, none⟩ = some (.int .i64 x)) :
    Calls Tryz.prog 117 #[.slice (some ⟨g, 0, none⟩) ts.length cap, .func (.func 118) #[] #[.pointer (some ⟨cp, 0, none⟩)]] W fun e w' =>
      e = .returned (.int .i64 (laterR x ts)) ∧ Below W.heap.size W w' := by
  have he : ∀ (x y : Int) (w : World), (callFunc 118 #[.agg #[.int .i64 x, .int .i64 y], .pointer (some ⟨cp, 0, none⟩)]).run Tryz.prog w = .ok (.enter 118 #[.agg #[.int .i64 x, .int .i64 y], .pointer (some ⟨cp, 0, none⟩)]) w := fun _ _ _ => by kernel_rfl
  have HE := Lib.hid he
  have HO := Lib.hid ho
  have HX := Lib.hid hx
  clear he ho hx
  go_enter Tryz.func117, Tryz.ntmps117
  go_wp2_with fail
  go_loopw [8] (fun i wl => ∃ k : Nat, k ≤ ts.length ∧ i = .int .i64 k ∧ Below W.heap.size W wl ∧ Hid (∀ j, (h : j < ts.length) → j < k → ts[j].1 ≤ x)) (fun i _ => ts.length - (intOf i).toNat)
  case atStart => exact ⟨0, Nat.zero_le _, rfl, Below.refl _ _, fun j _ h => absurd h (Nat.not_lt_zero _)⟩
  case round =>
    obtain ⟨k, hk, rfl, hb, HN⟩ := hrel
    have HB := Lib.hid hb
    clear hb
    by_cases hlt : k < ts.length
    · obtain ⟨f1, f2⟩ := flat_get ts k hlt
      have g0 : wr.cell? ⟨g, k * 2, none⟩ = some (.int .i64 ts[k].1) := keepc HB.out ((HO.out.cellAt (k * 2) (by omega)).trans (by rw [show k * 2 = 2 * k by omega]; exact f1))
      have g1 : wr.cell? ⟨g, k * 2 + 1, none⟩ = some (.int .i64 ts[k].2) := keepc HB.out ((HO.out.cellAt (k * 2 + 1) (by omega)).trans (by rw [show k * 2 + 1 = 2 * k + 1 by omega]; exact f2))
      have HG := Lib.hid (rfl : ts[k] = ts[k])
      obtain ⟨t, ht⟩ : ∃ t, t = ts[k] := ⟨_, rfl⟩
      rw [← ht] at g0 g1
      have HT := Lib.hid ht
      have hcall := fun w => HE.out t.1 t.2 w
      clear f1 f2 ht HG
      go_wp2_with fail
      refine (clo_set _ t cp x (keepc HB.out HX.out)).mono ?_
      rintro e w4 ⟨rfl, hb4⟩
      have HB4 := Lib.hid (bthen HB.out hb4)
      clear hb4 g0 g1 hcall
      by_cases hgt : x < t.1
      · go_wp2
        go_ret
        have hl : later x ts = k := later_at x ts k hlt (fun j h hj => HN.out j h hj) (fun _ => by rw [← HT.out]; exact hgt)
        exact ⟨ret_i (laterR_in hl hlt).symm, HB4.out⟩
      · have hgt' : t.1 ≤ x := by omega
        clear hgt
        go_wp2
        exact ⟨⟨k + 1, by omega, by go_num, HB4.out, fun j h hj => by
          rcases Nat.lt_or_eq_of_le (Nat.lt_succ_iff.1 hj) with h' | h'
          · exact HN.out j h h'
          · subst h'; rw [← HT.out]; exact hgt'⟩, by simp [intOf]; omega⟩
    · obtain rfl : k = ts.length := by omega
      clear hlt
      go_wp2
      go_ret
      have hl : later x ts = ts.length := later_end x ts fun j h => HN.out j h h
      exact ⟨ret_i (laterR_out hl).symm, HB.out⟩
end Go.Proofs.YtdfcfdcekdmcmaaGreat
namespace Go.Proofs.YtdfcfdcekdmcmaaGreat
open Go.RowKit
set_option linter.unusedVariables false
theorem run_copy_seg {P : Program} (w : World) (dT sT ty elem : TypeId) (sz g o dLen dCap : Nat) (a : Addr) (sLen sCap : Nat) (cur : Array Value) (t : TypeId) (m : Nat) (cs : List Value)
    (hu : P.underlying dT = some (.slice elem)) (hs : (P.info? elem).map (·.size) = some sz) (hg : w.heap[g]? = some (.cells cur t (0, 0))) (hm : m = Nat.min sLen dLen) (hn : cs.length = m * sz)
    (hsrc : ∀ j v, cs[j]? = some v → w.cell? (a.add j) = some v) (hfit : o + cs.length ≤ cur.size) (h1 : ∀ v ∈ cs, v.oneCell' = true) :
    (Builtin.copy_ #[dT, sT] ty #[.slice (some ⟨g, o, none⟩) dLen dCap, .slice (some a) sLen sCap]).run P w =
      .ok (goInt m) (w.setRow g (cur.toList.take o ++ cs ++ cur.toList.drop (o + cs.length)).toArray) := by
  have hl := run_loadCells_list (P := P) w a cs hsrc
  have hst := run_storeCells_at P g o t cs 0 cur w hg (by simpa using hfit) h1
  cases hq : P.info? elem with
  | none => simp [hq] at hs
  | some i =>
    have hi : i.size = sz := by simpa [hq] using hs
    rw [hn] at hl
    simp only [Nat.add_zero] at hst
    simp [Builtin.copy_, run_underlying hu, Builtin.lenOf, Builtin.firstCells, sizeOf, typeInfo, hq, hi, ← hm, hl, hst]
end Go.Proofs.YtdfcfdcekdmcmaaGreat
namespace Go.Proofs.YtdfcfdcekdmcmaaGreat
open Go.RowKit
set_option linter.unusedVariables false
theorem flat_cells (ts : List (Int × Int)) : ∀ u ∈ flat ts, u.oneCell' = true := by
  intro u hu
  unfold flat at hu
  rw [List.mem_flatMap] at hu
  obtain ⟨t, _, h⟩ := hu
  simp at h
  rcases h with rfl | rfl <;> rfl
end Go.Proofs.YtdfcfdcekdmcmaaGreat
namespace Go.Proofs.YtdfcfdcekdmcmaaGreat
open Go.RowKit Go.Shelf Go.Lib
theorem sizeTimer : (Tryz.prog.info? 208).map (·.size) = some 2 := by kernel_rfl
def Shifted (W w' : World) (g cap i : Nat) (ts : List (Int × Int)) (t : Int × Int) (e : Ending) : Prop :=
  e = .returned (.slice (some ⟨g, 0, none⟩) (ts.length + 1) cap) ∧ (∃ cur, w'.heap[g]? = some (.cells cur 208 (0, 0)) ∧ cur.size = cap * 2 ∧ cur.toList.take ((ts.length + 1) * 2) = flat (ts.take i ++ t :: ts.drop i)) ∧ Frm (fun k => k = g) W w'
theorem flat_take (ts : List (Int × Int)) (i : Nat) (h : i ≤ ts.length) : (flat ts).take (i * 2) = flat (ts.take i) := by
  have e : flat ts = flat (ts.take i) ++ flat (ts.drop i) := by rw [← flat_append, List.take_append_drop]
  have hl : (flat (ts.take i)).length = i * 2 := by rw [flat_len, List.length_take]; omega
  rw [e, ← hl, List.take_left]
theorem flat_drop (ts : List (Int × Int)) (i : Nat) (h : i ≤ ts.length) : (flat ts).drop (i * 2) = flat (ts.drop i) := by
  have e : flat ts = flat (ts.take i) ++ flat (ts.drop i) := by rw [← flat_append, List.take_append_drop]
  have hl : (flat (ts.take i)).length = i * 2 := by rw [flat_len, List.length_take]; omega
  rw [e, ← hl, List.drop_left]
theorem shift_row (cs : List Value) (ts : List (Int × Int)) (t : Int × Int) (i : Nat) (h : i ≤ ts.length) (ht : cs.take (ts.length * 2) = flat ts) (hl : (ts.length + 1) * 2 ≤ cs.length) :
    ((((cs.take ((i + 1) * 2) ++ flat (ts.drop i) ++ cs.drop ((i + 1) * 2 + (flat (ts.drop i)).length)).take (i * 2) ++ flat [t] ++
      (cs.take ((i + 1) * 2) ++ flat (ts.drop i) ++ cs.drop ((i + 1) * 2 + (flat (ts.drop i)).length)).drop (i * 2 + (flat [t]).length)).take ((ts.length + 1) * 2))) = flat (ts.take i ++ t :: ts.drop i) := by
  have hd : (flat (ts.drop i)).length = (ts.length - i) * 2 := by rw [flat_len, List.length_drop]
  have hti : cs.take (i * 2) = flat (ts.take i) := by
    rw [← flat_take ts i h, ← ht, List.take_take]
    congr 1
    omega
  have hl1 : (cs.take ((i + 1) * 2)).length = (i + 1) * 2 := by rw [List.length_take]; omega
  have e1 : (cs.take ((i + 1) * 2) ++ flat (ts.drop i) ++ cs.drop ((i + 1) * 2 + (flat (ts.drop i)).length)).take (i * 2) = flat (ts.take i) := by
    rw [List.append_assoc, List.take_append_of_le_length (by omega), List.take_take, ← hti]
    congr 1
    omega
  have e2 : (cs.take ((i + 1) * 2) ++ flat (ts.drop i) ++ cs.drop ((i + 1) * 2 + (flat (ts.drop i)).length)).drop (i * 2 + (flat [t]).length) = flat (ts.drop i) ++ cs.drop ((i + 1) * 2 + (flat (ts.drop i)).length) := by
    have : i * 2 + (flat [t]).length = (cs.take ((i + 1) * 2)).length := by rw [hl1]; show i * 2 + 2 = _; omega
    rw [this, List.append_assoc, List.drop_left]
  rw [e1, e2, flat_append, show t :: ts.drop i = [t] ++ ts.drop i from rfl, flat_append, ← List.append_assoc, ← List.append_assoc]
  have hlen : (flat (ts.take i) ++ flat [t] ++ flat (ts.drop i)).length = (ts.length + 1) * 2 := by
    rw [List.length_append, List.length_append, hd, flat_len, List.length_take]
    show min i ts.length * 2 + 2 + _ = _
    omega
  rw [← hlen, List.take_left]
set_option maxHeartbeats 4000000 in
set_option maxRecDepth 100000 in
theorem insert_shift (W : World) (g cap i q : Nat) (ts : List (Int × Int)) (t : Int × Int) (cur : Array Value) (hi : i < ts.length) (hroom : ts.length + 1 ≤ cap) (hc63 : cap ≤ 9223372036854775807) (hn : (ts.length : Int) ≤ 1048576)
    (hg : W.heap[g]? = some (.cells cur 208 (0, 0))) (hcs : cur.size = cap * 2) (htake : cur.toList.take (ts.length * 2) = flat ts) (hq : W.heap[q]? = some (.cells #[.int .i64 t.1, .int .i64 t.2] 208 (0, 0))) (hqg : q ≠ g) :
    Calls Tryz.prog 119 #[.slice (some ⟨g, 0, none⟩) ts.length cap, .int .i64 i, .slice (some ⟨q, 0, none⟩) 1 1] W fun e w' => Shifted W w' g cap i ts t e := by
  have hov : ∀ lb cb, (callFunc 144 #[.slice (some ⟨q, 0, none⟩) 1 1, .slice (some ⟨g, (i + 1) * 2, none⟩) lb cb]).run Tryz.prog W = .ok (.value (.bool false)) W := fun lb cb => by
    rw [run_callFunc_extern Tryz.func144 (by kernel_rfl) (by kernel_rfl) (by kernel_rfl) (e := Extern.SlicesOverlaps.overlaps #[104, 104] #[4]) (by kernel_rfl),
      Lib.run_overlaps_apart W 104 4 208 Tryz.underlying104 2 (fun _ => by kernel_rfl) ⟨q, 0, none⟩ ⟨g, (i + 1) * 2, none⟩ 1 1 lb cb hqg 208 208 2 (cap * 2) (by simp [World.shape?, hq]) (by simp [World.shape?, hg, hcs]) (by omega) (obj_free hq 0) (obj_free hq 2)]
    rfl
  have hfd : (flat (ts.drop i)).length = (ts.length - i) * 2 := by rw [flat_len, List.length_drop]
  have hcl : cur.toList.length = cap * 2 := by simpa using hcs
  obtain ⟨cur1, hcur1⟩ : ∃ c : Array Value, c = (cur.toList.take ((i + 1) * 2) ++ flat (ts.drop i) ++ cur.toList.drop ((i + 1) * 2 + (flat (ts.drop i)).length)).toArray := ⟨_, rfl⟩
  have hc1s : cur1.size = cap * 2 := by rw [hcur1]; simp only [List.size_toArray, List.length_append, List.length_take, List.length_drop, hfd, hcl]; omega
  obtain ⟨cur2, hcur2⟩ : ∃ c : Array Value, c = (cur1.toList.take (i * 2) ++ flat [t] ++ cur1.toList.drop (i * 2 + (flat [t]).length)).toArray := ⟨_, rfl⟩
  have hc2s : cur2.size = cap * 2 := by
    have : cur1.toList.length = cap * 2 := by simpa using hc1s
    rw [hcur2]
    simp only [List.size_toArray, List.length_append, List.length_take, List.length_drop, flat_len, this, List.length_cons, List.length_nil]
    omega
  have hown : W.ownsRow 0 208 2 (.slice (some ⟨g, 0, none⟩) ts.length cap) ts.length (flat ts) := ⟨by rw [flat_len], .inr ⟨g, cap, cur, rfl, Nat.zero_le _, hg, by omega, by unfold maxLen; exact hc63, hcs, htake⟩⟩
  have hcp1 : ∀ ty dc sc, (Builtin.copy_ #[104, 104] ty #[.slice (some ⟨g, (i + 1) * 2, none⟩) (ts.length - i) dc, .slice (some ⟨g, i * 2, none⟩) (ts.length + 1 - i) sc]).run Tryz.prog W.drew = .ok (goInt (ts.length - i : Nat)) (W.drew.setRow g cur1) := fun ty dc sc => by
    rw [hcur1]
    exact run_copy_seg W.drew _ _ ty 208 2 g ((i + 1) * 2) (ts.length - i) dc ⟨g, i * 2, none⟩ (ts.length + 1 - i) sc cur 208 (ts.length - i) (flat (ts.drop i)) Tryz.underlying104 sizeTimer hg (by simp only [Nat.min_def]; split <;> omega) hfd
      (fun j v hj => by
        rw [Addr.add_lit]
        rw [← flat_drop ts i (by omega), List.getElem?_drop] at hj
        have hlt : i * 2 + j < ts.length * 2 := by
          rcases Nat.lt_or_ge (i * 2 + j) (ts.length * 2) with h | h
          · exact h
          · rw [List.getElem?_eq_none (by rw [flat_len]; omega)] at hj; simp at hj
        exact (hown.cellAt (i * 2 + j) hlt).trans hj)
      (by rw [hfd, hcs]; omega) (flat_cells _)
  have hcp2 : ∀ (W2 : World), W2.heap[g]? = some (.cells cur1 208 (0, 0)) → W2.heap[q]? = some (.cells #[.int .i64 t.1, .int .i64 t.2] 208 (0, 0)) → ∀ ty dc, (Builtin.copy_ #[104, 104] ty #[.slice (some ⟨g, i * 2, none⟩) (ts.length + 1 - i) dc, .slice (some ⟨q, 0, none⟩) 1 1]).run Tryz.prog W2 = .ok (goInt (1 : Nat)) (W2.setRow g cur2) := fun W2 h1 h2 ty dc => by
    rw [hcur2]
    exact run_copy_seg W2 _ _ ty 208 2 g (i * 2) (ts.length + 1 - i) dc ⟨q, 0, none⟩ 1 1 cur1 208 1 (flat [t]) Tryz.underlying104 sizeTimer h1 (by simp only [Nat.min_def]; split <;> omega) rfl
      (fun j v hj => by
        rw [Addr.add_lit, obj_cell h2]
        rcases j with _ | _ | j
        · simpa [flat] using hj
        · simpa [flat] using hj
        · simp [flat] at hj)
      (by rw [hc1s]; show i * 2 + 2 ≤ _; omega) (flat_cells _)
  have hg1 : (W.drew.setRow g cur1).heap[g]? = some (.cells cur1 208 (0, 0)) := setRow_heap W.drew g cur _ _ _ hg
  have hq1 : (W.drew.setRow g cur1).heap[q]? = some (.cells #[.int .i64 t.1, .int .i64 t.2] 208 (0, 0)) := (setRow_other W.drew g q cur1 hqg).trans hq
  have hcp2' := hcp2 _ hg1 hq1
  have HEND : Hid (Shifted W ((W.drew.setRow g cur1).setRow g cur2) g cap i ts t (.returned (.slice (some ⟨g, 0, none⟩) (ts.length + 1) cap))) :=
    ⟨rfl, ⟨cur2, setRow_heap _ g cur1 _ _ _ hg1, hc2s, by
      have h := shift_row cur.toList ts t i (by omega) htake (by omega)
      rw [hcur2, hcur1]
      simpa using h⟩, ((Frm.refl (fun k => k = g) W).drew.setRow rfl cur1).setRow rfl cur2⟩
  clear hcur1 hcur2 hc1s hc2s hown hcp2 hg1 hq1 hfd hcl
  have hw1 : IntKind.i64.wrap ((i : Int) + 1) = (i : Int) + 1 := by rw [IntKind.wrap_i64]; omega
  have hb1 : (0 : Int) ≤ (i : Int) + 1 := by omega
  have htn : ((i : Int) + 1).toNat = i + 1 := by omega
  have hb2 : ¬ (cap = i + 1) := by omega
  have hb3 : (i : Int) ≤ (ts.length : Int) + 1 := by omega
  have hb4 : ¬ (cap = i) := by omega
  have hz2 : ¬ ((i : Int) = (ts.length : Int)) := by omega
  have hin : i ≤ ts.length := by omega
  clear hg hcs htake hq
  go_enter Tryz.func119, Tryz.ntmps119
  go_wp2_with (simp only [hov])
  go_region_law (refine step_copy_runI rfl (.tmp 73) (.tmp 76) 104 104 rfl (.slice (some ⟨g, (i + 1) * 2, none⟩) (ts.length - i) (cap - (i + 1))) (.slice (some ⟨g, i * 2, none⟩) (ts.length + 1 - i) (cap - i)) (by simp [Act.eval, Act.put]) (by simp [Act.eval, Act.put]) (hcp1 _ _ _) ?_)
  all_goals
    go_wp2_with (at_builtin; refine wpList_copy_runI _ rfl _ _ 104 104 rfl _ _ rfl rfl (hcp2' _ _) ?_)
    go_ret
    exact HEND.out
end Go.Proofs.YtdfcfdcekdmcmaaGreat
namespace Go.Proofs.YtdfcfdcekdmcmaaGreat
open Go.RowKit Go.Shelf Go.Lib
def Put1 (W w' : World) (v : Value) (ts : List (Int × Int)) (e : Ending) : Prop :=
  ∃ q c, e = .returned (.slice q ts.length c) ∧ w'.ownsRow 0 208 2 (.slice q ts.length c) ts.length (flat ts) ∧ Frm (fun k => v.ownBlock = some k) W w' ∧ ((Value.slice q ts.length c).ownBlock = v.ownBlock ∨ ∀ g, (Value.slice q ts.length c).ownBlock = some g → W.heap.size ≤ g)
theorem grow_row (cs : List Value) (ts : List (Int × Int)) (t : Int × Int) (i : Nat) (h : i ≤ ts.length) (ht : cs.take (i * 2) = flat (ts.take i)) (hl : (ts.length + 1) * 2 ≤ cs.length) :
    ((cs.take (i * 2) ++ flat [t] ++ cs.drop (i * 2 + (flat [t]).length)).take ((i + 1) * 2) ++ flat (ts.drop i) ++ (cs.take (i * 2) ++ flat [t] ++ cs.drop (i * 2 + (flat [t]).length)).drop ((i + 1) * 2 + (flat (ts.drop i)).length)).take ((ts.length + 1) * 2) = flat (ts.take i ++ t :: ts.drop i) := by
  have hd : (flat (ts.drop i)).length = (ts.length - i) * 2 := by rw [flat_len, List.length_drop]
  have e1 : (cs.take (i * 2) ++ flat [t] ++ cs.drop (i * 2 + (flat [t]).length)).take ((i + 1) * 2) = flat (ts.take i) ++ flat [t] := by
    have : (i + 1) * 2 = (cs.take (i * 2) ++ flat [t]).length := by rw [List.length_append, List.length_take]; show _ = _ + 2; omega
    rw [this, List.take_left, ht]
  rw [e1, flat_append, show t :: ts.drop i = [t] ++ ts.drop i from rfl, flat_append, ← List.append_assoc]
  have hlen : (flat (ts.take i) ++ flat [t] ++ flat (ts.drop i)).length = (ts.length + 1) * 2 := by
    rw [List.length_append, List.length_append, hd, flat_len, List.length_take]
    show min i ts.length * 2 + 2 + _ = _
    omega
  rw [← hlen, List.take_left]
set_option maxHeartbeats 4000000 in
set_option maxRecDepth 100000 in
theorem insert_grow (W : World) (g cap i q : Nat) (ts : List (Int × Int)) (t : Int × Int) (hi : i < ts.length) (hc : ts.length ≤ cap) (hroom : cap < ts.length + 1) (hn : (ts.length : Int) ≤ 1048576)
    (hown : W.ownsRow 0 208 2 (.slice (some ⟨g, 0, none⟩) ts.length cap) ts.length (flat ts)) (hq : W.heap[q]? = some (.cells #[.int .i64 t.1, .int .i64 t.2] 208 (0, 0))) :
    Calls Tryz.prog 119 #[.slice (some ⟨g, 0, none⟩) ts.length cap, .int .i64 i, .slice (some ⟨q, 0, none⟩) 1 1] W fun e w' => Put1 W w' (.slice none 0 0) (ts.take i ++ t :: ts.drop i) e := by
  obtain ⟨i0, hi0, hz0, hzs, hzb⟩ := info_parts infoTimer3
  have hfd : (flat (ts.drop i)).length = (ts.length - i) * 2 := by rw [flat_len, List.length_drop]
  have hlen2 : (ts.take i ++ t :: ts.drop i).length = ts.length + 1 := by rw [List.length_append, List.length_take, List.length_cons, List.length_drop]; omega
  have hold : (Builtin.firstCells i0.size i (.slice (some ⟨g, 0, none⟩) i cap)).run Tryz.prog W.drew = .ok (flat (ts.take i)).toArray W.drew := by
    rw [hzs]
    exact run_firstCells_some W.drew 2 i ⟨g, 0, none⟩ i cap (flat (ts.take i)) (by rw [flat_len, List.length_take]; omega) (fun j v hj => by
      rw [Addr.add_lit]
      rw [← flat_take ts i (by omega), List.getElem?_take] at hj
      split at hj
      · rename_i hlt
        rw [Nat.zero_add]
        exact (hown.cellAt j (by omega)).trans hj
      · cases hj)
  have hkk : (ts.length : Int) + 1 - (i : Int) = ((ts.length + 1 - i : Nat) : Int) := by omega
  have hik : i + (ts.length + 1 - i) = ts.length + 1 := by omega
  obtain ⟨G, hG⟩ : ∃ G, G = grownCap W (ts.length + 1) cap 208 := ⟨_, rfl⟩
  have hGn : ts.length + 1 ≤ G := by rw [hG]; exact grownCap_ge W _ _ _
  have hG63 : G ≤ maxLen := by rw [hG]; exact grownCap_le_maxLen W (ts.length + 1) cap 208 (by unfold maxLen; omega)
  obtain ⟨ROW, hROW⟩ : ∃ ROW : Array Value, ROW = (flat (ts.take i)).toArray ++ Builtin.zeroCells (Value.agg #[.int .i64 0, .int .i64 0]).cells (ts.length + 1 - i) ++ Builtin.zeroCells (Value.agg #[.int .i64 0, .int .i64 0]).cells (G - (ts.length + 1)) := ⟨_, rfl⟩
  have hRs : ROW.size = G * 2 := by
    rw [hROW]
    simp only [Array.size_append, List.size_toArray, flat_len, List.length_take, size_zeroCells]
    show min i ts.length * 2 + (ts.length + 1 - i) * 2 + (G - (ts.length + 1)) * 2 = _
    omega
  have hRt : ROW.toList.take (i * 2) = flat (ts.take i) := by
    have hl : (flat (ts.take i)).length = i * 2 := by rw [flat_len, List.length_take]; omega
    rw [hROW]
    simp only [Array.toList_append, List.append_assoc]
    rw [← hl, List.take_left]
  have hrz : ∀ ty, (Builtin.append_ #[104, 3] ty #[.slice (some ⟨g, 0, none⟩) i cap, .int .i64 ((ts.length : Int) + 1 - (i : Int))]).run Tryz.prog W =
      .ok (.slice (some ⟨W.heap.size, 0, none⟩) (ts.length + 1) G) (W.drew.alloc (.cells ROW 208)) := fun ty => by
    have h := Lib.run_append_grow_zeros W 104 3 ty 208 i0 _ .i64 .i64 Tryz.underlying104 Tryz.underlying3 hi0 hz0 (some ⟨g, 0, none⟩) i cap (flat (ts.take i)) hold (ts.length + 1 - i) (by omega) (by omega) (by omega) (by omega) (by rw [hzb]; omega) (by rw [hzb, hik]; exact growslice_fits hroom (by omega))
    rw [hik, ← hG, ← hROW] at h
    rw [hkk]
    exact h
  have hgw : g < W.heap.size := row_lt hown rfl
  have hqw : q < W.heap.size := lt_of_block hq
  obtain ⟨N, hN⟩ : ∃ N, N = W.heap.size := ⟨_, rfl⟩
  have hRl : ROW.toList.length = G * 2 := by simpa using hRs
  obtain ⟨row1, hrow1⟩ : ∃ c : Array Value, c = (ROW.toList.take (i * 2) ++ flat [t] ++ ROW.toList.drop (i * 2 + (flat [t]).length)).toArray := ⟨_, rfl⟩
  have h1s : row1.size = G * 2 := by rw [hrow1]; simp only [List.size_toArray, List.length_append, List.length_take, List.length_drop, flat_len, hRl, List.length_cons, List.length_nil]; omega
  obtain ⟨row2, hrow2⟩ : ∃ c : Array Value, c = (row1.toList.take ((i + 1) * 2) ++ flat (ts.drop i) ++ row1.toList.drop ((i + 1) * 2 + (flat (ts.drop i)).length)).toArray := ⟨_, rfl⟩
  have h2s : row2.size = G * 2 := by
    have : row1.toList.length = G * 2 := by simpa using h1s
    rw [hrow2]
    simp only [List.size_toArray, List.length_append, List.length_take, List.length_drop, hfd, this]
    omega
  have hcpA : ∀ (W2 : World), W2.heap[N]? = some (.cells ROW 208 (0, 0)) → W2.heap[q]? = some (.cells #[.int .i64 t.1, .int .i64 t.2] 208 (0, 0)) → ∀ ty dc, (Builtin.copy_ #[104, 104] ty #[.slice (some ⟨N, i * 2, none⟩) (ts.length + 1 - i) dc, .slice (some ⟨q, 0, none⟩) 1 1]).run Tryz.prog W2 = .ok (goInt (1 : Nat)) (W2.setRow N row1) := fun W2 h1 h2 ty dc => by
    rw [hrow1]
    exact run_copy_seg W2 _ _ ty 208 2 N (i * 2) (ts.length + 1 - i) dc ⟨q, 0, none⟩ 1 1 ROW 208 1 (flat [t]) Tryz.underlying104 sizeTimer h1 (by simp only [Nat.min_def]; split <;> omega) rfl
      (fun j v hj => by
        rw [Addr.add_lit, obj_cell h2]
        rcases j with _ | _ | j
        · simpa [flat] using hj
        · simpa [flat] using hj
        · simp [flat] at hj)
      (by rw [hRs]; show i * 2 + 2 ≤ _; omega) (flat_cells _)
  have hcpB : ∀ (W3 : World), W3.heap[N]? = some (.cells row1 208 (0, 0)) → W3.ownsRow 0 208 2 (.slice (some ⟨g, 0, none⟩) ts.length cap) ts.length (flat ts) → ∀ ty dc sc, (Builtin.copy_ #[104, 104] ty #[.slice (some ⟨N, (i + 1) * 2, none⟩) (ts.length - i) dc, .slice (some ⟨g, i * 2, none⟩) (ts.length - i) sc]).run Tryz.prog W3 = .ok (goInt (ts.length - i : Nat)) (W3.setRow N row2) := fun W3 h1 h2 ty dc sc => by
    rw [hrow2]
    exact run_copy_seg W3 _ _ ty 208 2 N ((i + 1) * 2) (ts.length - i) dc ⟨g, i * 2, none⟩ (ts.length - i) sc row1 208 (ts.length - i) (flat (ts.drop i)) Tryz.underlying104 sizeTimer h1 (by simp only [Nat.min_def]; split <;> omega) hfd
      (fun j v hj => by
        rw [Addr.add_lit]
        rw [← flat_drop ts i (by omega), List.getElem?_drop] at hj
        have hlt : i * 2 + j < ts.length * 2 := by
          rcases Nat.lt_or_ge (i * 2 + j) (ts.length * 2) with h | h
          · exact h
          · rw [List.getElem?_eq_none (by rw [flat_len]; omega)] at hj; simp at hj
        exact (h2.cellAt (i * 2 + j) hlt).trans hj)
      (by rw [hfd, h1s]; omega) (flat_cells _)
  have hW1 : (W.alloc (.cells ROW 208)).drew.heap[N]? = some (.cells ROW 208 (0, 0)) := by rw [hN]; exact obj_new W _
  have hW1q : (W.alloc (.cells ROW 208)).drew.heap[q]? = some (.cells #[.int .i64 t.1, .int .i64 t.2] 208 (0, 0)) := obj_old (w := W) _ hq
  have hF1 : Frm (fun _ => False) W (W.alloc (.cells ROW 208)).drew := ((Frm.refl _ W).alloc _).drew
  have hW3 : ((W.alloc (.cells ROW 208)).drew.setRow N row1).heap[N]? = some (.cells row1 208 (0, 0)) := setRow_heap _ N ROW _ _ _ hW1
  have hF3 : Frm (fun k => k = N) (W.alloc (.cells ROW 208)).drew ((W.alloc (.cells ROW 208)).drew.setRow N row1) := (Frm.refl (fun k => k = N) _).setRow rfl _
  have hW3g : ((W.alloc (.cells ROW 208)).drew.setRow N row1).ownsRow 0 208 2 (.slice (some ⟨g, 0, none⟩) ts.length cap) ts.length (flat ts) := hF3.row (hF1.row hown fun _ _ => id) fun k hk e => by simp [Value.ownBlock] at hk; omega
  have hA := hcpA _ hW1 hW1q
  have hB := hcpB ((W.alloc (.cells ROW 208)).drew.setRow N row1).drew hW3 hW3g
  have HEND : Hid (Put1 W (((W.alloc (.cells ROW 208)).drew.setRow N row1).drew.setRow N row2) (.slice none 0 0) (ts.take i ++ t :: ts.drop i) (.returned (.slice (some ⟨N, 0, none⟩) (ts.length + 1) G))) := by
    refine ⟨some ⟨N, 0, none⟩, G, by rw [hlen2], ?_, ?_, .inr fun k hk => by simp [Value.ownBlock] at hk; omega⟩
    · rw [hlen2]
      refine ⟨by rw [flat_len, hlen2], .inr ⟨N, G, row2, rfl, Nat.zero_le _, setRow_heap ((W.alloc (.cells ROW 208)).drew.setRow N row1).drew N row1 _ _ _ hW3, hGn, hG63, h2s, ?_⟩⟩
      have h := grow_row ROW.toList ts t i (by omega) hRt (by omega)
      rw [hrow2, hrow1]
      simpa using h
    · exact (hF1.mono fun _ _ h => h.elim).then (hF3.drew.setRow rfl row2) fun k hk e => by omega
  clear hold hROW hG hrow1 hrow2 h1s h2s hRs hRt hRl hcpA hcpB hW1 hW1q hF1 hF3 hW3 hW3g hown hq hik hlen2 hfd hi0 hz0 hzs hzb
  have hG9 : G ≤ 9223372036854775807 := by unfold maxLen at hG63; exact hG63
  clear hG63 hkk
  have hGi : ¬ (G = i) := by omega
  have hGim : ¬ (G = i + 1) := by omega
  have hci : ¬ (cap = i) := by omega
  have hw1 : IntKind.i64.wrap ((i : Int) + 1) = (i : Int) + 1 := by rw [IntKind.wrap_i64]; omega
  have hb1 : (0 : Int) ≤ (i : Int) + 1 := by omega
  have htn : ((i : Int) + 1).toNat = i + 1 := by omega
  have hb3 : (i : Int) ≤ (ts.length : Int) := by omega
  have hz2 : ¬ ((i : Int) = (ts.length : Int)) := by omega
  have hin : i ≤ ts.length := by omega
  rw [← hN] at hrz
  have HN := Lib.hid hN
  clear hN
  go_enter Tryz.func119, Tryz.ntmps119
  go_upto_region 10 with (at_builtin; refine Lib.wpList_append_run _ rfl (.tmp 34) (.tmp 39) _ _ rfl _ _ rfl rfl _ _ (hrz _) ?_)
  go_wp2
  go_region_law (refine step_copy_runI rfl (.tmp 50) (.tmp 53) 104 104 rfl (.slice (some ⟨N, (i + 1) * 2, none⟩) (ts.length - i) (G - (i + 1))) (.slice (some ⟨g, i * 2, none⟩) (ts.length - i) (cap - i)) (by simp [Act.eval, Act.put]) (by simp [Act.eval, Act.put]) (hB _ _ _) ?_)
  all_goals
    go_wp2
    go_ret
    exact HEND.out
end Go.Proofs.YtdfcfdcekdmcmaaGreat
namespace Go.Proofs.YtdfcfdcekdmcmaaGreat
open Go.RowKit
set_option linter.unusedVariables false
theorem one_news {W : World} {q : Nat} {t : Int × Int} (h : W.heap[q]? = some (.cells #[.int .i64 t.1, .int .i64 t.2] 208 (0, 0))) : ∀ j u, (flat [t])[j]? = some u → W.cell? ((⟨q, 0, none⟩ : Addr).add j) = some u := by
  intro j u hu
  have e : ((⟨q, 0, none⟩ : Addr).add j) = ⟨q, j, none⟩ := by unfold Addr.add; split <;> simp_all
  rw [e, obj_cell h]
  rcases j with _ | _ | j
  · simpa [flat] using hu
  · simpa [flat] using hu
  · simp [flat] at hu
theorem end_end {W w3 : World} {g n cap : Nat} {p' : Option Addr} {c' : Nat} {ts : List (Int × Int)} {t : Int × Int} (hn : n = ts.length) (ho : w3.ownsRow 0 208 2 (.slice p' (n + 1) c') (n + 1) (flat ts ++ flat [t])) (hf : Frm (fun k => (Value.slice (some ⟨g, 0, none⟩) n cap).ownBlock = some k) W w3)
    (hv : (Value.slice p' (n + 1) c').ownBlock = (Value.slice (some ⟨g, 0, none⟩) n cap).ownBlock ∨ ∀ k, (Value.slice p' (n + 1) c').ownBlock = some k → W.heap.size ≤ k) : Put1 W w3 (.slice (some ⟨g, 0, none⟩) n cap) (ts ++ [t]) (.returned (.slice p' (n + 1) c')) := by
  have hl : (ts ++ [t]).length = n + 1 := by rw [List.length_append, hn]; rfl
  exact ⟨p', c', by rw [hl], by rw [hl, flat_append]; exact ho, hf, by rw [hl]; exact hv⟩
set_option maxHeartbeats 1000000 in
set_option maxRecDepth 100000 in
theorem insert_end (W : World) (g cap q n : Nat) (ts : List (Int × Int)) (t : Int × Int) (hnl : n = ts.length) (hc : n ≤ cap) (hcm : cap ≤ maxLen) (hn : (n : Int) ≤ 1048576)
    (hown : W.ownsRow 0 208 2 (.slice (some ⟨g, 0, none⟩) n cap) n (flat ts)) (hq : W.heap[q]? = some (.cells #[.int .i64 t.1, .int .i64 t.2] 208 (0, 0))) :
    Calls Tryz.prog 119 #[.slice (some ⟨g, 0, none⟩) n cap, .int .i64 n, .slice (some ⟨q, 0, none⟩) 1 1] W fun e w' => Put1 W w' (.slice (some ⟨g, 0, none⟩) n cap) (ts ++ [t]) e := by
  obtain ⟨i1, hi1, hy0, hy1, hy2⟩ := info_parts infoTimer3
  have HN := Lib.hid (one_news hq)
  have HO := Lib.hid hown
  have HL := Lib.hid hnl
  have hc9 : cap ≤ 9223372036854775807 := by unfold maxLen at hcm; exact hcm
  have hn9 : n ≤ 9223372036854775807 := by omega
  clear hq hown hnl hcm
  rcases Nat.eq_or_lt_of_le hc with rfl | hlt
  · clear hc
    go_enter Tryz.func119, Tryz.ntmps119
    go_wp2_with (at_builtin; refine wpList_append_row rfl (.tmp 23) (.tmp 24) 104 rfl 208 i1 (.agg #[.int .i64 0, .int .i64 0]) 2 16 Tryz.underlying104 hi1 hy0 hy1 hy2 rfl (by decide) _ n (flat ts) rfl HO.out ⟨q, 0, none⟩ 1 1 (flat [t]) rfl rfl HN.out (flat_cells [t]) (by unfold maxLen; omega) (by omega) ?_; intro v' w3 hown3 hf3 hv3; obtain ⟨p', c', rfl, hc'⟩ := row_form hown3; have HE := Lib.hid (end_end HL.out hown3 hf3 hv3); clear hown3 hf3 hv3 hc')
    go_ret
    exact HE.out
  · have hcn : ¬ (cap = n) := by omega
    go_enter Tryz.func119, Tryz.ntmps119
    go_wp2_with (at_builtin; refine wpList_append_row rfl (.tmp 23) (.tmp 24) 104 rfl 208 i1 (.agg #[.int .i64 0, .int .i64 0]) 2 16 Tryz.underlying104 hi1 hy0 hy1 hy2 rfl (by decide) _ n (flat ts) rfl HO.out ⟨q, 0, none⟩ 1 1 (flat [t]) rfl rfl HN.out (flat_cells [t]) (by unfold maxLen; omega) (by omega) ?_; intro v' w3 hown3 hf3 hv3; obtain ⟨p', c', rfl, hc'⟩ := row_form hown3; have HE := Lib.hid (end_end HL.out hown3 hf3 hv3); clear hown3 hf3 hv3 hc')
    go_ret
    exact HE.out
theorem insert_any (W : World) (g cap q : Nat) (ts : List (Int × Int)) (t : Int × Int) (hn : (ts.length : Int) ≤ 1048576) (hc : ts.length ≤ cap) (hcm : cap ≤ maxLen)
    (hown : W.ownsRow 0 208 2 (.slice (some ⟨g, 0, none⟩) ts.length cap) ts.length (flat ts)) (hq : W.heap[q]? = some (.cells #[.int .i64 t.1, .int .i64 t.2] 208 (0, 0))) (hqg : q ≠ g) :
    Calls Tryz.prog 119 #[.slice (some ⟨g, 0, none⟩) ts.length cap, .int .i64 (later t.1 ts), .slice (some ⟨q, 0, none⟩) 1 1] W fun e w' => Put1 W w' (.slice (some ⟨g, 0, none⟩) ts.length cap) (ins t ts) e := by
  have hle := later_le t.1 ts
  rw [ins_later]
  rcases Nat.eq_or_lt_of_le hle with he | hlt
  · rw [he, List.take_length, List.drop_length]
    exact insert_end W g cap q ts.length ts t rfl hc hcm hn hown hq
  · by_cases hroom : ts.length + 1 ≤ cap
    · rcases hown.2 with ⟨h', _⟩ | ⟨g', cap', cur, h', _, hg, _, _, hcs, htake⟩
      · simp at h'
      · simp only [Value.slice.injEq, Option.some.injEq, Addr.mk.injEq, and_true, true_and] at h'
        obtain ⟨rfl, rfl⟩ := h'
        refine (insert_shift W g cap (later t.1 ts) q ts t cur hlt hroom (by unfold maxLen at hcm; exact hcm) hn hg hcs htake hq hqg).mono ?_
        rintro e w' ⟨rfl, ⟨cur2, h1, h2, h3⟩, hf⟩
        have hl : (ts.take (later t.1 ts) ++ t :: ts.drop (later t.1 ts)).length = ts.length + 1 := by rw [List.length_append, List.length_take, List.length_cons, List.length_drop]; omega
        refine ⟨some ⟨g, 0, none⟩, cap, by rw [hl], ?_, hf.mono fun k _ e => by simp [Value.ownBlock, e], .inl rfl⟩
        rw [hl]
        exact ⟨by rw [flat_len, hl], .inr ⟨g, cap, cur2, rfl, Nat.zero_le _, h1, hroom, hcm, h2, h3⟩⟩
    · refine (insert_grow W g cap (later t.1 ts) q ts t hlt hc (by omega) hn hown hq).mono ?_
      rintro e w' ⟨q', c', he, ho, hf, hv⟩
      refine ⟨q', c', he, ho, hf.mono fun k _ e => by simp [Value.ownBlock] at e, ?_⟩
      rcases hv with hv | hv
      · exact .inr fun k hk => by rw [hv] at hk; simp [Value.ownBlock] at hk
      · exact .inr hv
end Go.Proofs.YtdfcfdcekdmcmaaGreat
namespace Go.Proofs.YtdfcfdcekdmcmaaGreat
open Go.RowKit
set_option linter.unusedVariables false
def SetDone (W w' : World) (b : Nat) (v : Value) (ts : List (Int × Int)) (now : Int) (e : Ending) : Prop :=
  ∃ v', e = .returned .nilIface ∧ Ck w' b v' ts now ∧ Frm (fun k => k = b ∨ v.ownBlock = some k) W w' ∧ (v'.ownBlock = v.ownBlock ∨ ∀ g, v'.ownBlock = some g → W.heap.size ≤ g)
theorem setd_end {W w2 w5 : World} {b : Nat} {v : Value} {ts ts' : List (Int × Int)} {now : Int} {q : Option Addr} {c : Nat} {o : Obj} (hk : Ck w2 b v ts now) (hF : Frm (fun k => k = b ∨ v.ownBlock = some k) W w2) (hne : v.ownBlock ≠ some b)
    (ho : w5.ownsRow 0 208 2 (.slice q ts'.length c) ts'.length (flat ts')) (hf : Frm (fun k => v.ownBlock = some k) (w2.alloc o).drew w5) (hv : (Value.slice q ts'.length c).ownBlock = v.ownBlock ∨ ∀ g, (Value.slice q ts'.length c).ownBlock = some g → (w2.alloc o).drew.heap.size ≤ g) :
    SetDone W (w5.setCell ⟨b, 1, none⟩ (.slice q ts'.length c)) b v ts' now (.returned .nilIface) := by
  have hob : w5.heap[b]? = some (.cells #[.int .i64 now, v] 106 (0, 0)) := hf.obj (w := (w2.alloc o).drew) (obj_old (w := w2) o hk.1) hne
  have h1 : Frm (fun k => k = b ∨ v.ownBlock = some k) W w5 := (hF.alloc o).drew.then hf fun _ _ h => .inr h
  have hF5 : Frm (fun k => k = b) w5 (w5.setCell ⟨b, 1, none⟩ (.slice q ts'.length c)) := (Frm.refl (fun k => k = b) w5).setCell (p := ⟨b, 1, none⟩) rfl _
  refine ⟨_, rfl, ⟨obj_setCell _ hob, hF5.row ho fun g hg' e => row_ne ho hob (by decide) (by rw [hg', e])⟩, h1.then hF5 fun _ _ h => .inl h, ?_⟩
  rcases hv with h | h
  · exact .inl h
  · refine .inr fun g hg' => ?_
    have := h g hg'
    have := hF.size
    simp at *
    omega
theorem later_ret {x : Int} {ts : List (Int × Int)} (h : later x ts < ts.length) : laterR x ts = later x ts := laterR_in rfl h
set_option maxRecDepth 100000 in
set_option maxHeartbeats 2000000 in
theorem set_nilrow (W : World) (b : Nat) (t : Int × Int) (now : Int) (h : Ck W b (.slice none 0 0) [] now) (h0 : now < t.1) (hnow : 0 ≤ now) (h2 : t.1 ≤ 1099511627776) (h3 : 0 ≤ t.2) (h4 : t.2 < 64) :
    Calls Tryz.prog 78 #[.pointer (some ⟨b, 0, none⟩), .int .i64 t.1, .int .i64 t.2] W fun e w' => SetDone W w' b (.slice none 0 0) [t] now e := by
  have hmf : ∀ (fn : Fn) (first cap : Array Value) (w : World), (Instr.makeFunc fn first cap).run Tryz.prog w = .ok (.func fn first cap) w := fun _ _ _ _ => rfl
  have hk := h.keepB ((Below.refl _ W).alloc (Nat.le_refl _) (.cells #[.int .i64 t.1] 2))
  have ha := obj_new W (.cells #[.int .i64 t.1] 2)
  have hF1 := (Frm.refl (fun k => k = b ∨ (Value.slice none 0 0).ownBlock = some k) W).alloc (.cells #[.int .i64 t.1] 2)
  have c0 := hk.c0
  have c1 := hk.c1
  have p0 : (W.alloc (.cells #[.int .i64 t.1] 2)).cell? ⟨W.heap.size, 0, none⟩ = some (.int .i64 t.1) := (obj_cell ha 0).trans rfl
  have HK := Lib.hid hk
  have HF1 := Lib.hid hF1
  clear h hk ha hF1
  have d1 : decide (t.1 ≤ now) = false := by rw [decide_eq_false_iff_not]; omega
  have d2 : decide (1099511627776 < t.1) = false := by rw [decide_eq_false_iff_not]; omega
  go_enter Tryz.func78, Tryz.ntmps78
  go_wp2_with fail
  generalize W.alloc (.cells #[.int .i64 t.1] 2) = w1 at *
  generalize W.heap.size = ap at *
  go_quiet (fail)
  go_wp2_with (go_at_call 117; refine (index_nil _ _).mono ?_; rintro e w6 ⟨rfl, rfl⟩)
  have hk2 : Ck (w1.drewN nq) b (.slice none 0 0) [] now := HK.out.keepB ⟨rfl, rfl, rfl, Nat.le_refl _, fun _ _ => rfl⟩
  have hF2 := HF1.out.drewN nq
  have p2 : (w1.drewN nq).cell? ⟨ap, 0, none⟩ = some (.int .i64 t.1) := p0
  clear c0 c1 p0 HF1
  generalize w1.drewN nq = w2 at *
  have c1 := hk2.c1
  have a1 : (w2.alloc (.cells #[.int .i64 t.1, .int .i64 t.2] 208)).cell? ⟨b, 1, none⟩ = some (.slice none 0 0) := keepc (balloc (Below.refl _ _) _) c1
  have a2 : (w2.alloc (.cells #[.int .i64 t.1, .int .i64 t.2] 208)).cell? ⟨ap, 0, none⟩ = some (.int .i64 t.1) := keepc (balloc (Below.refl _ _) _) p2
  have HK2 := Lib.hid hk2
  have HF2 := Lib.hid hF2
  clear hk2 hF2
  go_region_with (go_at_call 119; refine (insert_nil (w2.alloc (.cells #[.int .i64 t.1, .int .i64 t.2] 208)).drew w2.heap.size t (obj_new w2 _)).mono ?_; rintro e w5 ⟨q5, c5, rfl, ho5, hf5, hg5⟩; have hob := hf5.obj (w := (w2.alloc (.cells #[.int .i64 t.1, .int .i64 t.2] 208)).drew) (obj_old (w := w2) _ HK2.out.1) id; have b1 : w5.cell? ⟨b, 1, none⟩ = some (.slice none 0 0) := (obj_cell hob 1).trans rfl; have bf := obj_free hob 1; have HE := Lib.hid (setd_end (ts' := [t]) HK2.out HF2.out (by simp [Value.ownBlock]) ho5 (hf5.mono fun _ _ h => h.elim) (.inr hg5)); clear hob ho5 hf5 hg5)
  all_goals
    go_wp2
    go_ret
    exact HE.out
set_option maxRecDepth 100000 in
set_option maxHeartbeats 2000000 in
theorem set_row (W : World) (b : Nat) (t : Int × Int) (now : Int) (g cap : Nat) (ts : List (Int × Int)) (hc : ts.length ≤ cap) (hcm : cap ≤ maxLen) (hn : (ts.length : Int) < 64) (h : Ck W b (.slice (some ⟨g, 0, none⟩) ts.length cap) ts now) (h0 : now < t.1) (hnow : 0 ≤ now) (h2 : t.1 ≤ 1099511627776) (h3 : 0 ≤ t.2) (h4 : t.2 < 64) :
    Calls Tryz.prog 78 #[.pointer (some ⟨b, 0, none⟩), .int .i64 t.1, .int .i64 t.2] W fun e w' => SetDone W w' b (.slice (some ⟨g, 0, none⟩) ts.length cap) (ins t ts) now e := by
  have hmf : ∀ (fn : Fn) (first cap : Array Value) (w : World), (Instr.makeFunc fn first cap).run Tryz.prog w = .ok (.func fn first cap) w := fun _ _ _ _ => rfl
  have hk := h.keepB ((Below.refl _ W).alloc (Nat.le_refl _) (.cells #[.int .i64 t.1] 2))
  have ha := obj_new W (.cells #[.int .i64 t.1] 2)
  have hF1 := (Frm.refl (fun k => k = b ∨ (Value.slice (some ⟨g, 0, none⟩) ts.length cap).ownBlock = some k) W).alloc (.cells #[.int .i64 t.1] 2)
  have c0 := hk.c0
  have c1 := hk.c1
  have p0 : (W.alloc (.cells #[.int .i64 t.1] 2)).cell? ⟨W.heap.size, 0, none⟩ = some (.int .i64 t.1) := (obj_cell ha 0).trans rfl
  have HK := Lib.hid hk
  have HF1 := Lib.hid hF1
  have hcap9 : cap ≤ 9223372036854775807 := by unfold maxLen at hcm; exact hcm
  have HCM := Lib.hid hcm
  clear hcm
  clear h hk ha hF1
  have d1 : decide (t.1 ≤ now) = false := by rw [decide_eq_false_iff_not]; omega
  have d2 : decide (1099511627776 < t.1) = false := by rw [decide_eq_false_iff_not]; omega
  go_enter Tryz.func78, Tryz.ntmps78
  go_wp2_with fail
  generalize W.alloc (.cells #[.int .i64 t.1] 2) = w1 at *
  generalize W.heap.size = ap at *
  go_quiet (fail)
  have hk2 : Ck (w1.drewN nq) b (.slice (some ⟨g, 0, none⟩) ts.length cap) ts now := HK.out.keepB ⟨rfl, rfl, rfl, Nat.le_refl _, fun _ _ => rfl⟩
  have hF2 := HF1.out.drewN nq
  have p2 : (w1.drewN nq).cell? ⟨ap, 0, none⟩ = some (.int .i64 t.1) := p0
  clear c0 c1 p0 HF1
  generalize w1.drewN nq = w2 at *
  have c1' := hk2.c1
  have HKI := Lib.hid hk2.2
  have HP2 := Lib.hid p2
  go_wp2_with fail
  refine (index_some w2 g cap ts ap t.1 HKI.out (by omega) HP2.out).mono ?_
  rintro e w6 ⟨rfl, hb6⟩
  have hk6 := hk2.keepB hb6
  have hF6 := hF2.then (Frm.of_below hb6 fun _ => False) fun _ _ h => h.elim
  have p6 := keepc hb6 p2
  clear hk2 hF2 p2 hb6 c1' HKI HP2
  have c1 := hk6.c1
  have a1 : (w6.alloc (.cells #[.int .i64 t.1, .int .i64 t.2] 208)).cell? ⟨b, 1, none⟩ = some (.slice (some ⟨g, 0, none⟩) ts.length cap) := keepc (balloc (Below.refl _ _) _) c1
  have a2 : (w6.alloc (.cells #[.int .i64 t.1, .int .i64 t.2] 208)).cell? ⟨ap, 0, none⟩ = some (.int .i64 t.1) := keepc (balloc (Below.refl _ _) _) p6
  have HK2 := Lib.hid hk6
  have HF2 := Lib.hid hF6
  have hqg : w6.heap.size ≠ g := by have := row_lt hk6.2 (g := g) rfl; omega
  have HQG := Lib.hid hqg
  clear hk6 hF6 hqg
  have hle := later_le t.1 ts
  by_cases hlt : later t.1 ts < ts.length
  · rw [later_ret hlt]
    clear hlt
    go_wp2_with fail
    go_region_with (go_at_call 119; refine (insert_any (w6.alloc (.cells #[.int .i64 t.1, .int .i64 t.2] 208)).drew g cap w6.heap.size ts t (by omega) hc HCM.out (HK2.out.keepB (balloc (Below.refl _ _) _)).2 (obj_new w6 _) HQG.out).mono ?_; rintro e w5 ⟨q5, c5, rfl, ho5, hf5, hg5⟩; have hob := hf5.obj (w := (w6.alloc (.cells #[.int .i64 t.1, .int .i64 t.2] 208)).drew) (obj_old (w := w6) _ HK2.out.1) HK2.out.ne; have b1 : w5.cell? ⟨b, 1, none⟩ = some (.slice (some ⟨g, 0, none⟩) ts.length cap) := (obj_cell hob 1).trans rfl; have bf := obj_free hob 1; have HE := Lib.hid (setd_end (ts' := ins t ts) HK2.out HF2.out HK2.out.ne ho5 hf5 hg5); clear hob ho5 hf5 hg5)
    all_goals
      go_wp2
      go_ret
      exact HE.out
  · have he : later t.1 ts = ts.length := by omega
    rw [laterR_out he]
    clear hlt
    go_wp2_with fail
    go_region_with (go_at_call 119; have hI := insert_any (w6.alloc (.cells #[.int .i64 t.1, .int .i64 t.2] 208)).drew g cap w6.heap.size ts t (by omega) hc HCM.out (HK2.out.keepB (balloc (Below.refl _ _) _)).2 (obj_new w6 _) HQG.out; rw [he] at hI; refine hI.mono ?_; clear hI; rintro e w5 ⟨q5, c5, rfl, ho5, hf5, hg5⟩; have hob := hf5.obj (w := (w6.alloc (.cells #[.int .i64 t.1, .int .i64 t.2] 208)).drew) (obj_old (w := w6) _ HK2.out.1) HK2.out.ne; have b1 : w5.cell? ⟨b, 1, none⟩ = some (.slice (some ⟨g, 0, none⟩) ts.length cap) := (obj_cell hob 1).trans rfl; have bf := obj_free hob 1; have HE := Lib.hid (setd_end (ts' := ins t ts) HK2.out HF2.out HK2.out.ne ho5 hf5 hg5); clear hob ho5 hf5 hg5)
    all_goals
      go_wp2
      go_ret
      exact HE.out
theorem set_any (W : World) (b : Nat) (t : Int × Int) (now : Int) (v : Value) (ts : List (Int × Int)) (hn : (ts.length : Int) < 64) (h : Ck W b v ts now) (h0 : now < t.1) (hnow : 0 ≤ now) (h2 : t.1 ≤ 1099511627776) (h3 : 0 ≤ t.2) (h4 : t.2 < 64) :
    Calls Tryz.prog 78 #[.pointer (some ⟨b, 0, none⟩), .int .i64 t.1, .int .i64 t.2] W fun e w' => SetDone W w' b v (ins t ts) now e := by
  rcases h.2.2 with ⟨rfl, h0'⟩ | ⟨g, cap, cur, rfl, _, _, hc, hcm, _, _⟩
  · obtain rfl : ts = [] := List.eq_nil_of_length_eq_zero h0'
    exact set_nilrow W b t now h h0 hnow h2 h3 h4
  · exact set_row W b t now g cap ts hc hcm hn h h0 hnow h2 h3 h4
end Go.Proofs.YtdfcfdcekdmcmaaGreat
namespace Go.Proofs.YtdfcfdcekdmcmaaGreat
open Go.RowKit
set_option linter.unusedVariables false
end Go.Proofs.YtdfcfdcekdmcmaaGreat
namespace Go.Proofs.YtdfcfdcekdmcmaaGreat
open Go.RowKit
set_option linter.unusedVariables false
def DropOk (W w' : World) (b : Nat) (v : Value) (ts : List (Int × Int)) (who now : Int) (e : Ending) : Prop :=
  ∃ v', e = .returned (.int .i64 (whoL ts (fun t => t.2 == who) ts.length).length) ∧
    Ck w' b v' (keptL ts (fun t => t.2 == who) ts.length) now ∧ v'.ownBlock = v.ownBlock ∧ Frm (fun k => k = b ∨ v.ownBlock = some k) W w'
theorem drop_some (W : World) (b : Nat) (v : Value) (ts : List (Int × Int)) (now who : Int) (h : Ck W b v ts now) (hn : (ts.length : Int) ≤ 1048576) :
    Calls Tryz.prog 77 #[.pointer (some ⟨b, 0, none⟩), .int .i64 who] W fun e w' => DropOk W w' b v ts who now e := by
  have hmf : ∀ (fn : Fn) (first cap : Array Value) (w : World), (Instr.makeFunc fn first cap).run Tryz.prog w = .ok (.func fn first cap) w := fun _ _ _ _ => rfl
  have h1 := h.keepB ((Below.refl _ W).alloc (Nat.le_refl _) (.cells #[.int .i64 who] 3))
  have hcp := obj_new W (.cells #[.int .i64 who] 3)
  have hF1 := (Frm.refl (fun k => k = b ∨ v.ownBlock = some k) W).alloc (.cells #[.int .i64 who] 3)
  have HCP := Lib.hid hcp
  have H1 := Lib.hid h1
  have HF1 := Lib.hid hF1
  clear h hcp h1 hF1
  go_enter Tryz.func77, Tryz.ntmps77
  go_wp2_with fail
  refine (take_any _ b v ts now 116 W.heap.size (fun t => t.2 == who) H1.out hn (fun _ _ _ => by kernel_rfl) ?_).mono ?_
  · intro W' hf t
    refine clo_drop W' t W.heap.size who ?_
    exact (obj_cell (hf.obj HCP.out fun e => row_ne H1.out.2 HCP.out (by decide) e) 0).trans rfl
  rintro e w3 ⟨r, v', rfl, ho, hr, hck, hv, hf⟩
  obtain ⟨rp, rc, rfl, hrc⟩ := row_form ho
  have HT : Hid (DropOk W w3 b v ts who now (.returned (.int .i64 (whoL ts (fun t => t.2 == who) ts.length).length))) := ⟨v', rfl, hck, hv, HF1.out.then hf fun _ _ h => h⟩
  clear ho hr hck hv hf hrc
  go_wp2
  go_ret
  exact HT.out
end Go.Proofs.YtdfcfdcekdmcmaaGreat
namespace Go.Proofs.YtdfcfdcekdmcmaaGreat
open Go.RowKit
set_option linter.unusedVariables false
def Bad2 (W w' : World) (n : Int) (e : Ending) : Prop :=
  ∃ b, e = .returned (.tuple #[.slice none 0 0, .iface 200 (.pointer (some ⟨b, 0, none⟩))]) ∧ Chain w' (.iface 200 (.pointer (some ⟨b, 0, none⟩))) 1 n ∧ Below W.heap.size W w'
set_option maxRecDepth 100000 in
theorem tick_low (W : World) (b : Nat) (v : Value) (ts : List (Int × Int)) (now d : Int) (h : Ck W b v ts now) (h1 : d < 1) :
    Calls Tryz.prog 100 #[.pointer (some ⟨b, 0, none⟩), .int .i64 d] W fun e w' => Bad2 W w' 1 e := by
  have d1 : decide (d < 1) = true := decide_eq_true h1
  have hsz : W.heap.size ≤ (W.alloc (.cells #[.pointer (some ⟨b, 0, none⟩)] 97)).heap.size := by simp
  have hB1 := balloc (Below.refl W.heap.size W) (.cells #[.pointer (some ⟨b, 0, none⟩)] 97)
  have p0 : (W.alloc (.cells #[.pointer (some ⟨b, 0, none⟩)] 97)).cell? ⟨W.heap.size, 0, none⟩ = some (.pointer (some ⟨b, 0, none⟩)) := (obj_cell (obj_new W _) 0).trans rfl
  have HSZ := Lib.hid hsz
  have HB1 := Lib.hid hB1
  clear h hsz hB1
  go_enter Tryz.func100, Tryz.ntmps100
  go_wp2_with fail
  go_wp2_with (go_at_call 75; refine (wrap_iface _ _ _ _).mono ?_; rintro e w' ⟨rfl, hw⟩; obtain ⟨hc, hb⟩ := err_new hw; clear hw)
  go_ret2
  exact ⟨_, rfl, by simpa using hc, bthen HB1.out hb⟩
set_option maxRecDepth 100000 in
theorem tick_over (W : World) (b : Nat) (v : Value) (ts : List (Int × Int)) (now d : Int) (h : Ck W b v ts now) (h0 : 0 ≤ now) (h1 : ¬ d < 1) (hm : now ≤ 1099511627776) (h2 : 1099511627776 - now < d) :
    Calls Tryz.prog 100 #[.pointer (some ⟨b, 0, none⟩), .int .i64 d] W fun e w' => Bad2 W w' 5 e := by
  have d1 : decide (d < 1) = false := decide_eq_false h1
  have d2 : decide (1099511627776 - now < d) = true := decide_eq_true h2
  have hk := h.keepB ((Below.refl _ W).alloc (Nat.le_refl _) (.cells #[.pointer (some ⟨b, 0, none⟩)] 97))
  have c0 := hk.c0
  have hsz : W.heap.size ≤ (W.alloc (.cells #[.pointer (some ⟨b, 0, none⟩)] 97)).heap.size := by simp
  have hB1 := balloc (Below.refl W.heap.size W) (.cells #[.pointer (some ⟨b, 0, none⟩)] 97)
  have p0 : (W.alloc (.cells #[.pointer (some ⟨b, 0, none⟩)] 97)).cell? ⟨W.heap.size, 0, none⟩ = some (.pointer (some ⟨b, 0, none⟩)) := (obj_cell (obj_new W _) 0).trans rfl
  have HSZ := Lib.hid hsz
  have HB1 := Lib.hid hB1
  clear h hk hsz hB1
  go_enter Tryz.func100, Tryz.ntmps100
  go_wp2_with fail
  go_wp2_with (go_at_call 75; refine (wrap_iface _ _ _ _).mono ?_; rintro e w' ⟨rfl, hw⟩; obtain ⟨hc, hb⟩ := err_new hw; clear hw)
  go_ret2
  exact ⟨_, rfl, by simpa using hc, bthen HB1.out hb⟩
end Go.Proofs.YtdfcfdcekdmcmaaGreat
