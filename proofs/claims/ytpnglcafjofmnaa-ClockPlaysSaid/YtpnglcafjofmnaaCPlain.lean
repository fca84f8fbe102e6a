/-
  ClockPlays' plain facts: how the sorted timers and the timers as they were set go together, kind by kind. Plain lists alone.
-/
import Derived.Test.YtpnglcafjofmnaaRTick
namespace Go.Proofs.Ytpnglcafjofmnaa
open Go.RowKit

theorem keptL_all (ts : List (Int × Int)) (p : Int × Int → Bool) : keptL ts p ts.length = ts.filter fun t => !p t := by unfold keptL; rw [List.take_length]
theorem whoL_all (ts : List (Int × Int)) (p : Int × Int → Bool) : whoL ts p ts.length = (ts.filter p).map (·.2) := by unfold whoL; rw [List.take_length]

/-- What Drop keeps, sorted. -/
theorem kept_srt (ms : List (Int × Int)) (p : Int × Int → Bool) : keptL (srt ms) p (srt ms).length = srt (keptL ms p ms.length) := by
  rw [keptL_all, keptL_all, srt_filter]

theorem filter_count (p : Int × Int → Bool) : ∀ l : List (Int × Int), (l.filter p).length + (l.filter fun t => !p t).length = l.length
  | [] => rfl
  | x :: l => by
    have h := filter_count p l
    cases hp : p x <;> simp [hp] <;> omega

/-- How many Drop lets go. -/
theorem drop_count (ms : List (Int × Int)) (p : Int × Int → Bool) : ((whoL (srt ms) p (srt ms).length).length : Int) = (ms.length : Int) - ((keptL ms p ms.length).length : Int) := by
  rw [whoL_all, List.length_map, srt_filter, srt_length, keptL_all]
  have := filter_count p ms
  omega

/-- Next and Least: the first of the sorted is the least. -/
theorem least_head {ms : List (Int × Int)} {a : Int} (h : LA ms ms.length a) : (ms = [] ∧ a = -1 ∧ srt ms = []) ∨ ∃ m : Nat, a = m ∧ m < ms.length ∧ ∃ l, srt ms = (tm ms m, wh ms m) :: l := by
  rcases h with ⟨h0, rfl⟩ | ⟨m, rfl, hf⟩
  · obtain rfl : ms = [] := List.eq_nil_of_length_eq_zero h0
    exact .inl ⟨rfl, rfl, rfl⟩
  · exact .inr ⟨m, rfl, hf.1, _, first_split hf⟩

/-- Both rows of one state: the program's clock in sorted order, the document's as they were set. -/
def CP (W : World) (b : Nat) (v vm : Value) (ms : List (Int × Int)) (now : Int) : Prop :=
  Ck W b v (srt ms) now ∧ Rk W vm ms ∧ 0 ≤ now ∧ now ≤ 1099511627776 ∧ (ms.length : Int) ≤ 64

theorem CP.keepB {W w' : World} {b : Nat} {v vm : Value} {ms : List (Int × Int)} {now : Int} (h : CP W b v vm ms now) (hb : Below W.heap.size W w') : CP w' b v vm ms now :=
  ⟨h.1.keepB hb, (Frm.of_below hb fun _ => False).row h.2.1 fun _ _ => id, h.2.2⟩

/-- A program's step: the document's row is apart, by its elements' type. -/
theorem CP.step {W w' : World} {b : Nat} {v vm : Value} {ms : List (Int × Int)} {now : Int} (h : CP W b v vm ms now) (hf : Frm (fun k => k = b ∨ v.ownBlock = some k) W w') : Rk w' vm ms :=
  hf.row h.2.1 fun g hg e => by
    rcases e with e | e
    · exact row_ne h.2.1 h.1.1 (by decide) (by rw [hg, e])
    · exact rows_ne h.1.2 h.2.1 (by decide) hg e

theorem CP.start (W : World) (b : Nat) (h : W.heap[b]? = some (.cells #[.int .i64 0, .slice none 0 0] 51 (0, 0))) : CP W b (.slice none 0 0) (.slice none 0 0) [] 0 :=
  ⟨⟨h, World.ownsRow_nil _ _ _ _⟩, World.ownsRow_nil _ _ _ _, by omega, by omega, by simp⟩

/-- The document stepped, the program not yet. -/
theorem CP.new {W w1 : World} {b : Nat} {v vm v' : Value} {ms ms' : List (Int × Int)} {now : Int} (h : CP W b v vm ms now) (hn : NewRk W w1 v' ms') : Ck w1 b v (srt ms) now ∧ Rk w1 v' ms' := ⟨h.1.keepB hn.2.2, hn.1⟩

/-- Then the program. -/
theorem mid_step {w1 w2 : World} {b : Nat} {v v' : Value} {ts ms' : List (Int × Int)} {now : Int} (hk : Ck w1 b v ts now) (hr : Rk w1 v' ms') (hf : Frm (fun k => k = b ∨ v.ownBlock = some k) w1 w2) : Rk w2 v' ms' :=
  hf.row hr fun g hg e => by
    rcases e with e | e
    · exact row_ne hr hk.1 (by decide) (by rw [hg, e])
    · exact rows_ne hk.2 hr (by decide) hg e

/-- After Set of both. -/
theorem CP.set {W w1 w2 : World} {b : Nat} {v vm v' : Value} {ms : List (Int × Int)} {t : Int × Int} {now : Int} {e : Ending} (h : CP W b v vm ms now) (hl : (ms.length : Int) < 64) (hn : NewRk W w1 v' (ms ++ [t])) (hs : SetDone w1 w2 b v (ins t (srt ms)) now e) :
    ∃ v2, e = .returned .nilIface ∧ CP w2 b v2 v' (ms ++ [t]) now ∧ Frm (fun k => k = b ∨ v.ownBlock = some k) w1 w2 ∧ (v2.ownBlock = v.ownBlock ∨ ∀ g, v2.ownBlock = some g → w1.heap.size ≤ g) := by
  obtain ⟨k1, k2⟩ := h.new hn
  obtain ⟨v2, he, hck, hf, hv⟩ := hs
  refine ⟨v2, he, ⟨by rw [srt_snoc]; exact hck, mid_step k1 k2 hf, h.2.2.1, h.2.2.2.1, ?_⟩, hf, hv⟩
  rw [List.length_append]
  show ((ms.length + 1 : Nat) : Int) ≤ 64
  omega

/-- After Drop of both. -/
theorem CP.drop {W w1 w2 : World} {b : Nat} {v vm v' : Value} {ms : List (Int × Int)} {who now : Int} {e : Ending} (h : CP W b v vm ms now) (hn : NewRk W w1 v' (keptL ms (fun t => t.2 == who) ms.length)) (hs : DropOk w1 w2 b v (srt ms) who now e) :
    ∃ v2, e = .returned (.int .i64 ((ms.length : Int) - (keptL ms (fun t => t.2 == who) ms.length).length)) ∧ CP w2 b v2 v' (keptL ms (fun t => t.2 == who) ms.length) now ∧ Frm (fun k => k = b ∨ v.ownBlock = some k) w1 w2 ∧ v2.ownBlock = v.ownBlock := by
  obtain ⟨k1, k2⟩ := h.new hn
  obtain ⟨v2, he, hck, hv, hf⟩ := hs
  refine ⟨v2, by rw [he, drop_count], ⟨by rw [← kept_srt]; exact hck, mid_step k1 k2 hf, h.2.2.1, h.2.2.2.1, ?_⟩, hf, hv⟩
  have := keptL_le ms (fun t => t.2 == who) ms.length
  have := h.2.2.2.2
  omega

/-- The document ticked, the program not yet (w1: any later world). -/
theorem CP.tick {W w1 w2 : World} {b : Nat} {v vm v' vo : Value} {ms ls : List (Int × Int)} {now d : Int} {e2 : Ending} (h : CP W b v vm ms now) (hd : 1 ≤ d) (hm : now + d ≤ 1099511627776) (hb : Below W.heap.size W w1)
    (hrk : Rk w1 v' ls) (hvo : w1.ownsRow 0 3 1 vo (whoL (srt ms) (fun t => decide (t.1 ≤ now + d)) (srt ms).length).length ((whoL (srt ms) (fun t => decide (t.1 ≤ now + d)) (srt ms).length).map (Value.int .i64)))
    (hls : srt ls = keptL (srt ms) (fun t => decide (t.1 ≤ now + d)) (srt ms).length) (hle : ls.length ≤ ms.length) (hs : TickOk w1 w2 b v (srt ms) (now + d) e2) :
    ∃ v2 r, e2 = .returned (.tuple #[r, .nilIface]) ∧ CP w2 b v2 v' ls (now + d) ∧
      w2.ownsRow 0 3 1 vo (whoL (srt ms) (fun t => decide (t.1 ≤ now + d)) (srt ms).length).length ((whoL (srt ms) (fun t => decide (t.1 ≤ now + d)) (srt ms).length).map (Value.int .i64)) ∧
      w2.ownsRow 0 3 1 r (whoL (srt ms) (fun t => decide (t.1 ≤ now + d)) (srt ms).length).length ((whoL (srt ms) (fun t => decide (t.1 ≤ now + d)) (srt ms).length).map (Value.int .i64)) ∧
      Frm (fun k => k = b ∨ v.ownBlock = some k) w1 w2 ∧ v2.ownBlock = v.ownBlock := by
  obtain ⟨r, v2, he2, hro, _, hck, hv, hf⟩ := hs
  have k1 := h.1.keepB hb
  refine ⟨v2, r, he2, ⟨by rw [hls]; exact hck, mid_step k1 hrk hf, by have := h.2.2.1; omega, hm, by have := h.2.2.2.2; omega⟩, ?_, hro, hf, hv⟩
  refine hf.row hvo fun g hg e => ?_
  rcases e with e | e
  · exact row_ne hvo k1.1 (by decide) (by rw [hg, e])
  · exact rows_ne k1.2 hvo (by decide) hg e
theorem told_le (ms : List (Int × Int)) (p : Int × Int → Bool) : (whoL (srt ms) p (srt ms).length).length ≤ ms.length := by
  have := whoL_le (srt ms) p (srt ms).length
  rw [srt_length] at this ⊢
  exact this
end Go.Proofs.Ytpnglcafjofmnaa
