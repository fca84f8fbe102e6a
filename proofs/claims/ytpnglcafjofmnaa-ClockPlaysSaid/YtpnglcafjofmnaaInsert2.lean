/-
  slices.Insert of one timer where there is no room, and at the end, by contract. Conditions: the row is the call's own; at most 2^20 timers; what is put in lies in another block.
-/
import Derived.Test.YtpnglcafjofmnaaInsert
import Derived.Deep.CutBlock
import Derived.WalkSpells
namespace Go.Proofs.Ytpnglcafjofmnaa
open Go.RowKit Go.Shelf Go.Lib

/-- A row that was made, or lengthened where it lay. -/
def Put1 (W w' : World) (v : Value) (ts : List (Int × Int)) (e : Ending) : Prop :=
  ∃ q c, e = .returned (.slice q ts.length c) ∧ w'.ownsRow 0 117 2 (.slice q ts.length c) ts.length (flat ts) ∧ Frm (fun k => v.ownBlock = some k) W w' ∧ ((Value.slice q ts.length c).ownBlock = v.ownBlock ∨ ∀ g, (Value.slice q ts.length c).ownBlock = some g → W.heap.size ≤ g)

theorem grow_row (cs : List Value) (ts : List (Int × Int)) (t : Int × Int) (i : Nat) (h : i ≤ ts.length) (ht : cs.take (i * 2) = flat (ts.take i)) (hl : (ts.length + 1) * 2 ≤ cs.length) :
    ((cs.take (i * 2) ++ flat [t] ++ cs.drop (i * 2 + (flat [t]).length)).take ((i + 1) * 2) ++ flat (ts.drop i) ++ (cs.take (i * 2) ++ flat [t] ++ cs.drop (i * 2 + (flat [t]).length)).drop ((i + 1) * 2 + (flat (ts.drop i)).length)).take ((ts.length + 1) * 2) = flat (ts.take i ++ t :: ts.drop i) := by
  have hd : (flat (ts.drop i)).length = (ts.length - i) * 2 := by rw [flat_len, List.length_drop]
  have e1 : (cs.take (i * 2) ++ flat [t] ++ cs.drop (i * 2 + (flat [t]).length)).take ((i + 1) * 2) = flat (ts.take i) ++ flat [t] := by
    have : (i + 1) * 2 = (cs.take (i * 2) ++ flat [t]).length := by rw [List.length_append, List.length_take]; show _ = _ + 2; omega
    rw [this, List.take_left, ht]
  rw [e1, flat_append, show t :: ts.drop i = [t] ++ ts.drop i from rfl, flat_append, ← List.append_assoc]
  have hlen : (flat (ts.take i) ++ flat [t] ++ flat (ts.drop i)).length = (ts.length + 1) * 2 := by
    rw [List.length_append, List.length_append, hd, flat_len, List.length_take]
    show min i ts.length * 2 + 2 + _ = _
    omega
  rw [← hlen, List.take_left]

set_option maxHeartbeats 4000000 in
set_option maxRecDepth 100000 in
theorem insert_grow (W : World) (g cap i q : Nat) (ts : List (Int × Int)) (t : Int × Int) (hi : i < ts.length) (hc : ts.length ≤ cap) (hroom : cap < ts.length + 1) (hn : (ts.length : Int) ≤ 1048576)
    (hown : W.ownsRow 0 117 2 (.slice (some ⟨g, 0, none⟩) ts.length cap) ts.length (flat ts)) (hq : W.heap[q]? = some (.cells #[.int .i64 t.1, .int .i64 t.2] 117 (0, 0))) :
    Calls Try.prog 61 #[.slice (some ⟨g, 0, none⟩) ts.length cap, .int .i64 i, .slice (some ⟨q, 0, none⟩) 1 1] W fun e w' => Put1 W w' (.slice none 0 0) (ts.take i ++ t :: ts.drop i) e := by
  obtain ⟨i0, hi0, hz0, hzs, hzb⟩ := info_parts infoTimer3
  have hfd : (flat (ts.drop i)).length = (ts.length - i) * 2 := by rw [flat_len, List.length_drop]
  have hlen2 : (ts.take i ++ t :: ts.drop i).length = ts.length + 1 := by rw [List.length_append, List.length_take, List.length_cons, List.length_drop]; omega
  have hold : (Builtin.firstCells i0.size i (.slice (some ⟨g, 0, none⟩) i cap)).run Try.prog W.drew = .ok (flat (ts.take i)).toArray W.drew := by
    rw [hzs]
    exact run_firstCells_some W.drew 2 i ⟨g, 0, none⟩ i cap (flat (ts.take i)) (by rw [flat_len, List.length_take]; omega) (fun j v hj => by
      rw [Addr.add_lit]
      rw [← flat_take ts i (by omega), List.getElem?_take] at hj
      split at hj
      · rename_i hlt
        rw [Nat.zero_add]
        exact (hown.cellAt j (by omega)).trans hj
      · cases hj)
  have hkk : (ts.length : Int) + 1 - (i : Int) = ((ts.length + 1 - i : Nat) : Int) := by omega
  have hik : i + (ts.length + 1 - i) = ts.length + 1 := by omega
  obtain ⟨G, hG⟩ : ∃ G, G = grownCap W (ts.length + 1) cap 117 := ⟨_, rfl⟩
  have hGn : ts.length + 1 ≤ G := by rw [hG]; exact grownCap_ge W _ _ _
  have hG63 : G ≤ maxLen := by rw [hG]; exact grownCap_le_maxLen W (ts.length + 1) cap 117 (by unfold maxLen; omega)
  obtain ⟨ROW, hROW⟩ : ∃ ROW : Array Value, ROW = (flat (ts.take i)).toArray ++ Builtin.zeroCells (Value.agg #[.int .i64 0, .int .i64 0]).cells (ts.length + 1 - i) ++ Builtin.zeroCells (Value.agg #[.int .i64 0, .int .i64 0]).cells (G - (ts.length + 1)) := ⟨_, rfl⟩
  have hRs : ROW.size = G * 2 := by
    rw [hROW]
    simp only [Array.size_append, List.size_toArray, flat_len, List.length_take, size_zeroCells]
    show min i ts.length * 2 + (ts.length + 1 - i) * 2 + (G - (ts.length + 1)) * 2 = _
    omega
  have hRt : ROW.toList.take (i * 2) = flat (ts.take i) := by
    have hl : (flat (ts.take i)).length = i * 2 := by rw [flat_len, List.length_take]; omega
    rw [hROW]
    simp only [Array.toList_append, List.append_assoc]
    rw [← hl, List.take_left]
  have hrz : ∀ ty, (Builtin.append_ #[49, 3] ty #[.slice (some ⟨g, 0, none⟩) i cap, .int .i64 ((ts.length : Int) + 1 - (i : Int))]).run Try.prog W =
      .ok (.slice (some ⟨W.heap.size, 0, none⟩) (ts.length + 1) G) (W.drew.alloc (.cells ROW 117)) := fun ty => by
    have h := Lib.run_append_grow_zeros W 49 3 ty 117 i0 _ .i64 .i64 Try.underlying49 Try.underlying3 hi0 hz0 (some ⟨g, 0, none⟩) i cap (flat (ts.take i)) hold (ts.length + 1 - i) (by omega) (by omega) (by omega) (by omega) (by rw [hzb]; omega) (by rw [hzb, hik]; exact growslice_fits hroom (by omega))
    rw [hik, ← hG, ← hROW] at h
    rw [hkk]
    exact h
  have hgw : g < W.heap.size := row_lt hown rfl
  have hqw : q < W.heap.size := lt_of_block hq
  obtain ⟨N, hN⟩ : ∃ N, N = W.heap.size := ⟨_, rfl⟩
  have hRl : ROW.toList.length = G * 2 := by simpa using hRs
  obtain ⟨row1, hrow1⟩ : ∃ c : Array Value, c = (ROW.toList.take (i * 2) ++ flat [t] ++ ROW.toList.drop (i * 2 + (flat [t]).length)).toArray := ⟨_, rfl⟩
  have h1s : row1.size = G * 2 := by rw [hrow1]; simp only [List.size_toArray, List.length_append, List.length_take, List.length_drop, flat_len, hRl, List.length_cons, List.length_nil]; omega
  obtain ⟨row2, hrow2⟩ : ∃ c : Array Value, c = (row1.toList.take ((i + 1) * 2) ++ flat (ts.drop i) ++ row1.toList.drop ((i + 1) * 2 + (flat (ts.drop i)).length)).toArray := ⟨_, rfl⟩
  have h2s : row2.size = G * 2 := by
    have : row1.toList.length = G * 2 := by simpa using h1s
    rw [hrow2]
    simp only [List.size_toArray, List.length_append, List.length_take, List.length_drop, hfd, this]
    omega
  have hcpA : ∀ (W2 : World), W2.heap[N]? = some (.cells ROW 117 (0, 0)) → W2.heap[q]? = some (.cells #[.int .i64 t.1, .int .i64 t.2] 117 (0, 0)) → ∀ ty dc, (Builtin.copy_ #[49, 49] ty #[.slice (some ⟨N, i * 2, none⟩) (ts.length + 1 - i) dc, .slice (some ⟨q, 0, none⟩) 1 1]).run Try.prog W2 = .ok (goInt (1 : Nat)) (W2.setRow N row1) := fun W2 h1 h2 ty dc => by
    rw [hrow1]
    exact run_copy_seg W2 _ _ ty 117 2 N (i * 2) (ts.length + 1 - i) dc ⟨q, 0, none⟩ 1 1 ROW 117 1 (flat [t]) Try.underlying49 sizeTimer h1 (by simp only [Nat.min_def]; split <;> omega) rfl
      (fun j v hj => by
        rw [Addr.add_lit, obj_cell h2]
        rcases j with _ | _ | j
        · simpa [flat] using hj
        · simpa [flat] using hj
        · simp [flat] at hj)
      (by rw [hRs]; show i * 2 + 2 ≤ _; omega) (flat_cells _)
  have hcpB : ∀ (W3 : World), W3.heap[N]? = some (.cells row1 117 (0, 0)) → W3.ownsRow 0 117 2 (.slice (some ⟨g, 0, none⟩) ts.length cap) ts.length (flat ts) → ∀ ty dc sc, (Builtin.copy_ #[49, 49] ty #[.slice (some ⟨N, (i + 1) * 2, none⟩) (ts.length - i) dc, .slice (some ⟨g, i * 2, none⟩) (ts.length - i) sc]).run Try.prog W3 = .ok (goInt (ts.length - i : Nat)) (W3.setRow N row2) := fun W3 h1 h2 ty dc sc => by
    rw [hrow2]
    exact run_copy_seg W3 _ _ ty 117 2 N ((i + 1) * 2) (ts.length - i) dc ⟨g, i * 2, none⟩ (ts.length - i) sc row1 117 (ts.length - i) (flat (ts.drop i)) Try.underlying49 sizeTimer h1 (by simp only [Nat.min_def]; split <;> omega) hfd
      (fun j v hj => by
        rw [Addr.add_lit]
        rw [← flat_drop ts i (by omega), List.getElem?_drop] at hj
        have hlt : i * 2 + j < ts.length * 2 := by
          rcases Nat.lt_or_ge (i * 2 + j) (ts.length * 2) with h | h
          · exact h
          · rw [List.getElem?_eq_none (by rw [flat_len]; omega)] at hj; simp at hj
        exact (h2.cellAt (i * 2 + j) hlt).trans hj)
      (by rw [hfd, h1s]; omega) (flat_cells _)
  have hW1 : (W.alloc (.cells ROW 117)).drew.heap[N]? = some (.cells ROW 117 (0, 0)) := by rw [hN]; exact obj_new W _
  have hW1q : (W.alloc (.cells ROW 117)).drew.heap[q]? = some (.cells #[.int .i64 t.1, .int .i64 t.2] 117 (0, 0)) := obj_old (w := W) _ hq
  have hF1 : Frm (fun _ => False) W (W.alloc (.cells ROW 117)).drew := ((Frm.refl _ W).alloc _).drew
  have hW3 : ((W.alloc (.cells ROW 117)).drew.setRow N row1).heap[N]? = some (.cells row1 117 (0, 0)) := setRow_heap _ N ROW _ _ _ hW1
  have hF3 : Frm (fun k => k = N) (W.alloc (.cells ROW 117)).drew ((W.alloc (.cells ROW 117)).drew.setRow N row1) := (Frm.refl (fun k => k = N) _).setRow rfl _
  have hW3g : ((W.alloc (.cells ROW 117)).drew.setRow N row1).ownsRow 0 117 2 (.slice (some ⟨g, 0, none⟩) ts.length cap) ts.length (flat ts) := hF3.row (hF1.row hown fun _ _ => id) fun k hk e => by simp [Value.ownBlock] at hk; omega
  have hA := hcpA _ hW1 hW1q
  have hB := hcpB ((W.alloc (.cells ROW 117)).drew.setRow N row1).drew hW3 hW3g
  have HEND : Hid (Put1 W (((W.alloc (.cells ROW 117)).drew.setRow N row1).drew.setRow N row2) (.slice none 0 0) (ts.take i ++ t :: ts.drop i) (.returned (.slice (some ⟨N, 0, none⟩) (ts.length + 1) G))) := by
    refine ⟨some ⟨N, 0, none⟩, G, by rw [hlen2], ?_, ?_, .inr fun k hk => by simp [Value.ownBlock] at hk; omega⟩
    · rw [hlen2]
      refine ⟨by rw [flat_len, hlen2], .inr ⟨N, G, row2, rfl, Nat.zero_le _, setRow_heap ((W.alloc (.cells ROW 117)).drew.setRow N row1).drew N row1 _ _ _ hW3, hGn, hG63, h2s, ?_⟩⟩
      have h := grow_row ROW.toList ts t i (by omega) hRt (by omega)
      rw [hrow2, hrow1]
      simpa using h
    · exact (hF1.mono fun _ _ h => h.elim).then (hF3.drew.setRow rfl row2) fun k hk e => by omega
  clear hold hROW hG hrow1 hrow2 h1s h2s hRs hRt hRl hcpA hcpB hW1 hW1q hF1 hF3 hW3 hW3g hown hq hik hlen2 hfd hi0 hz0 hzs hzb
  have hG9 : G ≤ 9223372036854775807 := by unfold maxLen at hG63; exact hG63
  clear hG63 hkk
  have hGi : ¬ (G = i) := by omega
  have hGim : ¬ (G = i + 1) := by omega
  have hci : ¬ (cap = i) := by omega
  have hw1 : IntKind.i64.wrap ((i : Int) + 1) = (i : Int) + 1 := by rw [IntKind.wrap_i64]; omega
  have hb1 : (0 : Int) ≤ (i : Int) + 1 := by omega
  have htn : ((i : Int) + 1).toNat = i + 1 := by omega
  have hb3 : (i : Int) ≤ (ts.length : Int) := by omega
  have hz2 : ¬ ((i : Int) = (ts.length : Int)) := by omega
  have hin : i ≤ ts.length := by omega
  rw [← hN] at hrz
  have HN := Lib.hid hN
  clear hN
  go_enter Try.func61, Try.ntmps61
  go_upto_region 10 with (at_builtin; refine Lib.wpList_append_run _ rfl (.tmp 34) (.tmp 39) _ _ rfl _ _ rfl rfl _ _ (hrz _) ?_)
  go_wp2
  go_region_law (refine step_copy_runI rfl (.tmp 50) (.tmp 53) 49 49 rfl (.slice (some ⟨N, (i + 1) * 2, none⟩) (ts.length - i) (G - (i + 1))) (.slice (some ⟨g, i * 2, none⟩) (ts.length - i) (cap - i)) (by simp [Act.eval, Act.put]) (by simp [Act.eval, Act.put]) (hB _ _ _) ?_)
  all_goals
    go_wp2
    go_ret
    exact HEND.out
end Go.Proofs.Ytpnglcafjofmnaa
