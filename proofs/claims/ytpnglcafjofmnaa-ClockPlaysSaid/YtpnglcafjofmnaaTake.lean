/-
  clock.take by contract: who is taken, in order, and who is left. Conditions: the clock's row is its own; what is sought is told by a call that changes nothing that was there; at most 2^20 timers.
-/
import Derived.Test.YtpnglcafjofmnaaClock
import Derived.Test.YtpnglcafjofmnaaMem3
import Derived.LoopTactic
namespace Go.Proofs.Ytpnglcafjofmnaa
open Go.RowKit

def whoL (ts : List (Int × Int)) (p : Int × Int → Bool) (k : Nat) : List Int := ((ts.take k).filter p).map (·.2)
def keptL (ts : List (Int × Int)) (p : Int × Int → Bool) (k : Nat) : List (Int × Int) := (ts.take k).filter fun t => !p t
theorem take_snoc {ts : List (Int × Int)} {k : Nat} {t : Int × Int} (h : ts[k]? = some t) : ts.take (k + 1) = ts.take k ++ [t] := by
  rw [List.take_add_one, h]; rfl
theorem whoL_yes {ts : List (Int × Int)} {p : Int × Int → Bool} {k : Nat} {t : Int × Int} (h : ts[k]? = some t) (hp : p t = true) : whoL ts p (k + 1) = whoL ts p k ++ [t.2] := by
  unfold whoL; rw [take_snoc h, List.filter_append, List.map_append]; simp [hp]
theorem whoL_no {ts : List (Int × Int)} {p : Int × Int → Bool} {k : Nat} {t : Int × Int} (h : ts[k]? = some t) (hp : p t = false) : whoL ts p (k + 1) = whoL ts p k := by
  unfold whoL; rw [take_snoc h, List.filter_append]; simp [hp]
theorem keptL_yes {ts : List (Int × Int)} {p : Int × Int → Bool} {k : Nat} {t : Int × Int} (h : ts[k]? = some t) (hp : p t = true) : keptL ts p (k + 1) = keptL ts p k := by
  unfold keptL; rw [take_snoc h, List.filter_append]; simp [hp]
theorem keptL_no {ts : List (Int × Int)} {p : Int × Int → Bool} {k : Nat} {t : Int × Int} (h : ts[k]? = some t) (hp : p t = false) : keptL ts p (k + 1) = keptL ts p k ++ [t] := by
  unfold keptL; rw [take_snoc h, List.filter_append]; simp [hp]
theorem keptL_le (ts : List (Int × Int)) (p : Int × Int → Bool) (k : Nat) : (keptL ts p k).length ≤ k := by
  unfold keptL
  exact Nat.le_trans (List.length_filter_le _ _) (by simp; omega)
theorem whoL_le (ts : List (Int × Int)) (p : Int × Int → Bool) (k : Nat) : (whoL ts p k).length ≤ k := by
  unfold whoL
  rw [List.length_map]
  exact Nat.le_trans (List.length_filter_le _ _) (by simp; omega)

/-- Some way through: who was taken, what is left at the row's head, and the row's rest as it was. -/
def TK (W : World) (g cap : Nat) (ts : List (Int × Int)) (p : Int × Int → Bool) (k : Nat) (who : Value) (wl : World) : Prop :=
  wl.ownsRow 0 3 1 who (whoL ts p k).length ((whoL ts p k).map (Value.int .i64)) ∧ (∀ q, who.ownBlock = some q → W.heap.size ≤ q) ∧
  (∃ cur, wl.heap[g]? = some (.cells cur 117 (0, 0)) ∧ cur.size = cap * 2 ∧ cur.toList.take ((keptL ts p k).length * 2) = flat (keptL ts p k) ∧ ∀ m, 2 * k ≤ m → m < 2 * ts.length → cur[m]? = (flat ts)[m]?) ∧
  Frm (fun q => q = g) W wl

theorem TK.keep {W : World} {g cap : Nat} {ts : List (Int × Int)} {p : Int × Int → Bool} {k : Nat} {who : Value} {wl w' : World} (h : TK W g cap ts p k who wl) (hb : Below wl.heap.size wl w') : TK W g cap ts p k who w' := by
  obtain ⟨h1, h2, ⟨cur, h3, h4⟩, h5⟩ := h
  exact ⟨(Frm.of_below hb fun _ => False).row h1 fun _ _ => id, h2, ⟨cur, (hb.block g (lt_of_block h3)).trans h3, h4⟩, h5.then (Frm.of_below hb fun _ => False) fun _ _ h => h.elim⟩
theorem TK.start {W : World} {g cap : Nat} {ts : List (Int × Int)} (p : Int × Int → Bool) (h : W.ownsRow 0 117 2 (.slice (some ⟨g, 0, none⟩) ts.length cap) ts.length (flat ts)) : TK W g cap ts p 0 (.slice none 0 0) W := by
  refine ⟨World.ownsRow_nil _ _ _ _, by simp [Value.ownBlock], ?_, Frm.refl _ _⟩
  rcases h.2 with ⟨h', _⟩ | ⟨g', cap', cur, h', _, hg, _, _, hcs, htake⟩
  · simp at h'
  · simp only [Value.slice.injEq, Option.some.injEq, Addr.mk.injEq, and_true, true_and] at h'
    obtain ⟨rfl, rfl⟩ := h'
    refine ⟨cur, hg, hcs, rfl, fun m _ hm => ?_⟩
    rw [← htake, List.getElem?_take, if_pos (by omega)]
    simp
/-- One more is taken. -/
theorem TK.who {W : World} {g cap : Nat} {ts : List (Int × Int)} {p : Int × Int → Bool} {k : Nat} {who who' : Value} {wl w' : World} {t : Int × Int} (h : TK W g cap ts p k who wl) (ht : ts[k]? = some t) (hp : p t = true)
    (ho : w'.ownsRow 0 3 1 who' ((whoL ts p k).length + 1) ((whoL ts p k).map (Value.int .i64) ++ [Value.int .i64 t.2])) (hf : Frm (fun q => who.ownBlock = some q) (wl.alloc (.cells #[.int .i64 t.2] 3)) w')
    (hv : who'.ownBlock = who.ownBlock ∨ ∀ q, who'.ownBlock = some q → (wl.alloc (.cells #[.int .i64 t.2] 3)).heap.size ≤ q) : TK W g cap ts p (k + 1) who' w' := by
  obtain ⟨h1, h2, ⟨cur, h3, h4, h5, h6⟩, h7⟩ := h
  have hne : who.ownBlock ≠ some g := row_ne h1 h3 (by decide)
  have hF : Frm (fun q => who.ownBlock = some q) wl w' := ((Frm.refl _ wl).alloc _).then hf fun _ _ h => h
  have hle : W.heap.size ≤ wl.heap.size := h7.size
  refine ⟨by rw [whoL_yes ht hp]; simpa using ho, ?_, ⟨cur, hF.obj h3 hne, h4, by rw [keptL_yes ht hp]; exact h5, fun m hm => h6 m (by omega)⟩, h7.then hF fun q hq he => by have := h2 q he; omega⟩
  intro q hq
  rcases hv with hv | hv
  · exact h2 q (hv ▸ hq)
  · have := hv q hq; simp at this; omega
/-- One more is left. -/
theorem TK.kept {W : World} {g cap : Nat} {ts : List (Int × Int)} {p : Int × Int → Bool} {k : Nat} {who : Value} {wl : World} {t : Int × Int} (h : TK W g cap ts p k who wl) (ht : ts[k]? = some t) (hp : p t = false) (hk : k < ts.length) (hc : ts.length ≤ cap) (cur : Array Value) (hcur : wl.heap[g]? = some (.cells cur 117 (0, 0))) :
    TK W g cap ts p (k + 1) who (wl.setRow g (cur.toList.take ((keptL ts p k).length * 2) ++ [Value.int .i64 t.1, Value.int .i64 t.2] ++ cur.toList.drop ((keptL ts p k).length * 2 + 2)).toArray) := by
  obtain ⟨h1, h2, ⟨cur', h3, h4, h5, h6⟩, h7⟩ := h
  rw [hcur] at h3
  simp only [Option.some.injEq, Obj.cells.injEq, and_true] at h3
  subst h3
  have hne : who.ownBlock ≠ some g := row_ne h1 hcur (by decide)
  have hl := keptL_le ts p k
  have hF : Frm (fun q => q = g) wl (wl.setRow g (cur.toList.take ((keptL ts p k).length * 2) ++ [Value.int .i64 t.1, Value.int .i64 t.2] ++ cur.toList.drop ((keptL ts p k).length * 2 + 2)).toArray) := (Frm.refl (fun q => q = g) wl).setRow rfl _
  have hls : cur.toList.length = cap * 2 := by simpa using h4
  have htl : (cur.toList.take ((keptL ts p k).length * 2)).length = (keptL ts p k).length * 2 := by rw [List.length_take]; omega
  refine ⟨by rw [whoL_no ht hp]; exact hF.row h1 fun q hq e => hne (by rw [hq, e]), h2, ⟨_, setRow_heap wl g cur _ _ _ hcur, ?_, ?_, ?_⟩, h7.then hF fun _ _ h => h⟩
  · simp only [List.size_toArray, List.length_append, htl, List.length_drop, List.length_cons, List.length_nil, hls]; omega
  · rw [keptL_no ht hp, flat_append, flat_one, ← h5, List.length_append]
    show List.take (((keptL ts p k).length + 1) * 2) _ = _
    have e : ((keptL ts p k).length + 1) * 2 = (cur.toList.take ((keptL ts p k).length * 2) ++ [Value.int .i64 t.1, Value.int .i64 t.2]).length := by rw [List.length_append, htl]; simp; omega
    rw [e, List.take_left]
  · intro m hm hm2
    have e : (cur.toList.take ((keptL ts p k).length * 2) ++ [Value.int .i64 t.1, Value.int .i64 t.2]).length = (keptL ts p k).length * 2 + 2 := by rw [List.length_append, htl]; simp
    rw [List.getElem?_toArray, List.getElem?_append_right (by omega), e, List.getElem?_drop, ← h6 m (by omega) hm2]
    rw [show (keptL ts p k).length * 2 + 2 + (m - ((keptL ts p k).length * 2 + 2)) = m by omega]
    simp
end Go.Proofs.Ytpnglcafjofmnaa
