/-
  slices.Insert of one timer, by contract. Conditions: the row is the call's own; at most 2^20 timers; what is put in lies in another block.
-/
import Derived.Test.YtpnglcafjofmnaaIndex
import Derived.Test.YtpnglcafjofmnaaCopy
import Derived.Test.YtpnglcafjofmnaaCClone
namespace Go.Proofs.Ytpnglcafjofmnaa
open Go.RowKit Go.Shelf Go.Lib

theorem sizeTimer : (Try.prog.info? 117).map (·.size) = some 2 := by kernel_rfl

/-- What is in a row behind putting one in, in place. -/
def Shifted (W w' : World) (g cap i : Nat) (ts : List (Int × Int)) (t : Int × Int) (e : Ending) : Prop :=
  e = .returned (.slice (some ⟨g, 0, none⟩) (ts.length + 1) cap) ∧ (∃ cur, w'.heap[g]? = some (.cells cur 117 (0, 0)) ∧ cur.size = cap * 2 ∧ cur.toList.take ((ts.length + 1) * 2) = flat (ts.take i ++ t :: ts.drop i)) ∧ Frm (fun k => k = g) W w'

theorem flat_take (ts : List (Int × Int)) (i : Nat) (h : i ≤ ts.length) : (flat ts).take (i * 2) = flat (ts.take i) := by
  have e : flat ts = flat (ts.take i) ++ flat (ts.drop i) := by rw [← flat_append, List.take_append_drop]
  have hl : (flat (ts.take i)).length = i * 2 := by rw [flat_len, List.length_take]; omega
  rw [e, ← hl, List.take_left]
theorem flat_drop (ts : List (Int × Int)) (i : Nat) (h : i ≤ ts.length) : (flat ts).drop (i * 2) = flat (ts.drop i) := by
  have e : flat ts = flat (ts.take i) ++ flat (ts.drop i) := by rw [← flat_append, List.take_append_drop]
  have hl : (flat (ts.take i)).length = i * 2 := by rw [flat_len, List.length_take]; omega
  rw [e, ← hl, List.drop_left]
/-- The row behind both copies. -/
theorem shift_row (cs : List Value) (ts : List (Int × Int)) (t : Int × Int) (i : Nat) (h : i ≤ ts.length) (ht : cs.take (ts.length * 2) = flat ts) (hl : (ts.length + 1) * 2 ≤ cs.length) :
    ((((cs.take ((i + 1) * 2) ++ flat (ts.drop i) ++ cs.drop ((i + 1) * 2 + (flat (ts.drop i)).length)).take (i * 2) ++ flat [t] ++
      (cs.take ((i + 1) * 2) ++ flat (ts.drop i) ++ cs.drop ((i + 1) * 2 + (flat (ts.drop i)).length)).drop (i * 2 + (flat [t]).length)).take ((ts.length + 1) * 2))) = flat (ts.take i ++ t :: ts.drop i) := by
  have hd : (flat (ts.drop i)).length = (ts.length - i) * 2 := by rw [flat_len, List.length_drop]
  have hti : cs.take (i * 2) = flat (ts.take i) := by
    rw [← flat_take ts i h, ← ht, List.take_take]
    congr 1
    omega
  have hl1 : (cs.take ((i + 1) * 2)).length = (i + 1) * 2 := by rw [List.length_take]; omega
  have e1 : (cs.take ((i + 1) * 2) ++ flat (ts.drop i) ++ cs.drop ((i + 1) * 2 + (flat (ts.drop i)).length)).take (i * 2) = flat (ts.take i) := by
    rw [List.append_assoc, List.take_append_of_le_length (by omega), List.take_take, ← hti]
    congr 1
    omega
  have e2 : (cs.take ((i + 1) * 2) ++ flat (ts.drop i) ++ cs.drop ((i + 1) * 2 + (flat (ts.drop i)).length)).drop (i * 2 + (flat [t]).length) = flat (ts.drop i) ++ cs.drop ((i + 1) * 2 + (flat (ts.drop i)).length) := by
    have : i * 2 + (flat [t]).length = (cs.take ((i + 1) * 2)).length := by rw [hl1]; show i * 2 + 2 = _; omega
    rw [this, List.append_assoc, List.drop_left]
  rw [e1, e2, flat_append, show t :: ts.drop i = [t] ++ ts.drop i from rfl, flat_append, ← List.append_assoc, ← List.append_assoc]
  have hlen : (flat (ts.take i) ++ flat [t] ++ flat (ts.drop i)).length = (ts.length + 1) * 2 := by
    rw [List.length_append, List.length_append, hd, flat_len, List.length_take]
    show min i ts.length * 2 + 2 + _ = _
    omega
  rw [← hlen, List.take_left]

set_option maxHeartbeats 4000000 in
set_option maxRecDepth 100000 in
theorem insert_shift (W : World) (g cap i q : Nat) (ts : List (Int × Int)) (t : Int × Int) (cur : Array Value) (hi : i < ts.length) (hroom : ts.length + 1 ≤ cap) (hc63 : cap ≤ 9223372036854775807) (hn : (ts.length : Int) ≤ 1048576)
    (hg : W.heap[g]? = some (.cells cur 117 (0, 0))) (hcs : cur.size = cap * 2) (htake : cur.toList.take (ts.length * 2) = flat ts) (hq : W.heap[q]? = some (.cells #[.int .i64 t.1, .int .i64 t.2] 117 (0, 0))) (hqg : q ≠ g) :
    Calls Try.prog 61 #[.slice (some ⟨g, 0, none⟩) ts.length cap, .int .i64 i, .slice (some ⟨q, 0, none⟩) 1 1] W fun e w' => Shifted W w' g cap i ts t e := by
  have hov : ∀ lb cb, (callFunc 70 #[.slice (some ⟨q, 0, none⟩) 1 1, .slice (some ⟨g, (i + 1) * 2, none⟩) lb cb]).run Try.prog W = .ok (.value (.bool false)) W := fun lb cb => by
    rw [run_callFunc_extern Try.func70 (by kernel_rfl) (by kernel_rfl) (by kernel_rfl) (e := Extern.SlicesOverlaps.overlaps #[49, 49] #[4]) (by kernel_rfl),
      Lib.run_overlaps_apart W 49 4 117 Try.underlying49 2 (fun _ => by kernel_rfl) ⟨q, 0, none⟩ ⟨g, (i + 1) * 2, none⟩ 1 1 lb cb hqg 117 117 2 (cap * 2) (by simp [World.shape?, hq]) (by simp [World.shape?, hg, hcs]) (by omega) (obj_free hq 0) (obj_free hq 2)]
    rfl
  have hfd : (flat (ts.drop i)).length = (ts.length - i) * 2 := by rw [flat_len, List.length_drop]
  have hcl : cur.toList.length = cap * 2 := by simpa using hcs
  obtain ⟨cur1, hcur1⟩ : ∃ c : Array Value, c = (cur.toList.take ((i + 1) * 2) ++ flat (ts.drop i) ++ cur.toList.drop ((i + 1) * 2 + (flat (ts.drop i)).length)).toArray := ⟨_, rfl⟩
  have hc1s : cur1.size = cap * 2 := by rw [hcur1]; simp only [List.size_toArray, List.length_append, List.length_take, List.length_drop, hfd, hcl]; omega
  obtain ⟨cur2, hcur2⟩ : ∃ c : Array Value, c = (cur1.toList.take (i * 2) ++ flat [t] ++ cur1.toList.drop (i * 2 + (flat [t]).length)).toArray := ⟨_, rfl⟩
  have hc2s : cur2.size = cap * 2 := by
    have : cur1.toList.length = cap * 2 := by simpa using hc1s
    rw [hcur2]
    simp only [List.size_toArray, List.length_append, List.length_take, List.length_drop, flat_len, this, List.length_cons, List.length_nil]
    omega
  have hown : W.ownsRow 0 117 2 (.slice (some ⟨g, 0, none⟩) ts.length cap) ts.length (flat ts) := ⟨by rw [flat_len], .inr ⟨g, cap, cur, rfl, Nat.zero_le _, hg, by omega, by unfold maxLen; exact hc63, hcs, htake⟩⟩
  have hcp1 : ∀ ty dc sc, (Builtin.copy_ #[49, 49] ty #[.slice (some ⟨g, (i + 1) * 2, none⟩) (ts.length - i) dc, .slice (some ⟨g, i * 2, none⟩) (ts.length + 1 - i) sc]).run Try.prog W.drew = .ok (goInt (ts.length - i : Nat)) (W.drew.setRow g cur1) := fun ty dc sc => by
    rw [hcur1]
    exact run_copy_seg W.drew _ _ ty 117 2 g ((i + 1) * 2) (ts.length - i) dc ⟨g, i * 2, none⟩ (ts.length + 1 - i) sc cur 117 (ts.length - i) (flat (ts.drop i)) Try.underlying49 sizeTimer hg (by simp only [Nat.min_def]; split <;> omega) hfd
      (fun j v hj => by
        rw [Addr.add_lit]
        rw [← flat_drop ts i (by omega), List.getElem?_drop] at hj
        have hlt : i * 2 + j < ts.length * 2 := by
          rcases Nat.lt_or_ge (i * 2 + j) (ts.length * 2) with h | h
          · exact h
          · rw [List.getElem?_eq_none (by rw [flat_len]; omega)] at hj; simp at hj
        exact (hown.cellAt (i * 2 + j) hlt).trans hj)
      (by rw [hfd, hcs]; omega) (flat_cells _)
  have hcp2 : ∀ (W2 : World), W2.heap[g]? = some (.cells cur1 117 (0, 0)) → W2.heap[q]? = some (.cells #[.int .i64 t.1, .int .i64 t.2] 117 (0, 0)) → ∀ ty dc, (Builtin.copy_ #[49, 49] ty #[.slice (some ⟨g, i * 2, none⟩) (ts.length + 1 - i) dc, .slice (some ⟨q, 0, none⟩) 1 1]).run Try.prog W2 = .ok (goInt (1 : Nat)) (W2.setRow g cur2) := fun W2 h1 h2 ty dc => by
    rw [hcur2]
    exact run_copy_seg W2 _ _ ty 117 2 g (i * 2) (ts.length + 1 - i) dc ⟨q, 0, none⟩ 1 1 cur1 117 1 (flat [t]) Try.underlying49 sizeTimer h1 (by simp only [Nat.min_def]; split <;> omega) rfl
      (fun j v hj => by
        rw [Addr.add_lit, obj_cell h2]
        rcases j with _ | _ | j
        · simpa [flat] using hj
        · simpa [flat] using hj
        · simp [flat] at hj)
      (by rw [hc1s]; show i * 2 + 2 ≤ _; omega) (flat_cells _)
  have hg1 : (W.drew.setRow g cur1).heap[g]? = some (.cells cur1 117 (0, 0)) := setRow_heap W.drew g cur _ _ _ hg
  have hq1 : (W.drew.setRow g cur1).heap[q]? = some (.cells #[.int .i64 t.1, .int .i64 t.2] 117 (0, 0)) := (setRow_other W.drew g q cur1 hqg).trans hq
  have hcp2' := hcp2 _ hg1 hq1
  have HEND : Hid (Shifted W ((W.drew.setRow g cur1).setRow g cur2) g cap i ts t (.returned (.slice (some ⟨g, 0, none⟩) (ts.length + 1) cap))) :=
    ⟨rfl, ⟨cur2, setRow_heap _ g cur1 _ _ _ hg1, hc2s, by
      have h := shift_row cur.toList ts t i (by omega) htake (by omega)
      rw [hcur2, hcur1]
      simpa using h⟩, ((Frm.refl (fun k => k = g) W).drew.setRow rfl cur1).setRow rfl cur2⟩
  clear hcur1 hcur2 hc1s hc2s hown hcp2 hg1 hq1 hfd hcl
  have hw1 : IntKind.i64.wrap ((i : Int) + 1) = (i : Int) + 1 := by rw [IntKind.wrap_i64]; omega
  have hb1 : (0 : Int) ≤ (i : Int) + 1 := by omega
  have htn : ((i : Int) + 1).toNat = i + 1 := by omega
  have hb2 : ¬ (cap = i + 1) := by omega
  have hb3 : (i : Int) ≤ (ts.length : Int) + 1 := by omega
  have hb4 : ¬ (cap = i) := by omega
  have hz2 : ¬ ((i : Int) = (ts.length : Int)) := by omega
  have hin : i ≤ ts.length := by omega
  clear hg hcs htake hq
  go_enter Try.func61, Try.ntmps61
  go_wp2_with (simp only [hov])
  go_region_law (refine step_copy_runI rfl (.tmp 73) (.tmp 76) 49 49 rfl (.slice (some ⟨g, (i + 1) * 2, none⟩) (ts.length - i) (cap - (i + 1))) (.slice (some ⟨g, i * 2, none⟩) (ts.length + 1 - i) (cap - i)) (by simp [Act.eval, Act.put]) (by simp [Act.eval, Act.put]) (hcp1 _ _ _) ?_)
  all_goals
    go_wp2_with (at_builtin; refine wpList_copy_runI _ rfl _ _ 49 49 rfl _ _ rfl rfl (hcp2' _ _) ?_)
    go_ret
    exact HEND.out
end Go.Proofs.Ytpnglcafjofmnaa
