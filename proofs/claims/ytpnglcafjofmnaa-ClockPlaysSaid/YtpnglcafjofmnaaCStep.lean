/-
  ClockPlays' state, and what each kind's calls do: the refusals of both sides by one number. Conditions: CP.
-/
import Derived.Test.YtpnglcafjofmnaaCPlain
import Derived.Test.YtpnglcafjofmnaaOpsK
import Derived.Test.YtpnglcafjofmnaaOnce
import Derived.Test.YtpnglcafjofmnaaSet3
import Derived.Test.YtpnglcafjofmnaaTick2
namespace Go.Proofs.Ytpnglcafjofmnaa
open Go.RowKit

theorem bdrewN (w : World) (n : Nat) : Below w.heap.size w (w.drewN n) := ⟨rfl, rfl, rfl, Nat.le_refl _, fun _ _ => rfl⟩
theorem NewRk.keep {W w w' : World} {v : Value} {ms : List (Int × Int)} (h : NewRk W w v ms) (hb : Below w.heap.size w w') : NewRk W w' v ms := ⟨(Frm.of_below hb fun _ => False).row h.1 fun _ _ => id, h.2.1, bthen h.2.2 hb⟩
theorem obj_keep {w w' : World} (hb : Below w.heap.size w w') {b : Nat} {o : Obj} (h : w.heap[b]? = some o) : w'.heap[b]? = some o := (hb.block _ (lt_of_block h)).trans h

/-- The loop's state. -/
def LP (W wl : World) : Prop :=
  ∃ vc vm ms now, Below W.heap.size W wl ∧ CP wl W.heap.size vc vm ms now ∧ wl.heap[W.heap.size + 1]? = some (.cells #[.int .i64 now, vm] 54 (0, 0)) ∧ ∀ g, vc.ownBlock = some g → W.heap.size ≤ g

theorem LP.start (W : World) : LP W ((W.alloc (.cells #[.int .i64 0, .slice none 0 0] 51)).alloc (.cells #[.int .i64 0, .slice none 0 0] 54)) := by
  refine ⟨_, _, [], 0, balloc (balloc (Below.refl _ _) _) _, CP.start _ _ (obj_old _ (obj_new W _)), ?_, fun g h => by simp [Value.ownBlock] at h⟩
  have h := obj_new (W.alloc (.cells #[.int .i64 0, .slice none 0 0] 51)) (.cells #[.int .i64 0, .slice none 0 0] 54)
  rw [World.size_alloc] at h
  exact h

/-- The document's clock set anew. -/
theorem CP.put {w : World} {b M : Nat} {vc v' : Value} {ms' : List (Int × Int)} {now' : Int} {cs : Array Value} (h : CP w b vc v' ms' now') (hc : cs.size = 2) (hM : w.heap[M]? = some (.cells cs 54 (0, 0))) :
    CP ((w.setCell ⟨M, 0, none⟩ (.int .i64 now')).setCell ⟨M, 1, none⟩ v') b vc v' ms' now' ∧ ((w.setCell ⟨M, 0, none⟩ (.int .i64 now')).setCell ⟨M, 1, none⟩ v').heap[M]? = some (.cells #[.int .i64 now', v'] 54 (0, 0)) ∧
      Frm (fun q => q = M) w ((w.setCell ⟨M, 0, none⟩ (.int .i64 now')).setCell ⟨M, 1, none⟩ v') := by
  have h0 : Frm (fun q => q = M) w w := Frm.refl _ w
  have hF := (h0.setCell (p := ⟨M, 0, none⟩) rfl (.int .i64 now')).setCell (p := ⟨M, 1, none⟩) rfl v'
  refine ⟨⟨h.1.keep hF (fun e => obj_ne h.1.1 hM (by decide) e) (fun g hg e => row_ne h.1.2 hM (by decide) (by rw [hg, e])), hF.row h.2.1 fun g hg e => row_ne h.2.1 hM (by decide) (by rw [hg, e]), h.2.2⟩, ?_, hF⟩
  have e := obj_setCell (i := 1) v' (obj_setCell (i := 0) (.int .i64 now') hM)
  rw [e]
  obtain ⟨x, y, rfl⟩ : ∃ x y, cs = #[x, y] := by
    rcases cs with ⟨l⟩
    match l, hc with
    | [x, y], _ => exact ⟨x, y, rfl⟩
  rfl

/-- Both have stepped: the document's clock is stored. -/
theorem LP.put {W w5 w6 : World} {vc v2 v' : Value} {ms' : List (Int × Int)} {now' : Int} {cs : Array Value} (hB : Below W.heap.size W w5) (hvc : ∀ g, vc.ownBlock = some g → W.heap.size ≤ g)
    (hf : Frm (fun k => k = W.heap.size ∨ vc.ownBlock = some k) w5 w6) (hv : v2.ownBlock = vc.ownBlock ∨ ∀ g, v2.ownBlock = some g → w5.heap.size ≤ g) (h : CP w6 W.heap.size v2 v' ms' now')
    (hM : w6.heap[W.heap.size + 1]? = some (.cells cs 54 (0, 0))) (hc : cs.size = 2) :
    LP W ((w6.setCell ⟨W.heap.size + 1, 0, none⟩ (.int .i64 now')).setCell ⟨W.heap.size + 1, 1, none⟩ v') := by
  obtain ⟨h1, h2, h3⟩ := h.put hc hM
  have b6 : Below W.heap.size w5 w6 := hf.below hB.size fun k e => e.elim (fun e => by omega) fun e => hvc k e
  have b7 : Below W.heap.size w6 _ := h3.below (Nat.le_trans hB.size b6.size) fun k e => by omega
  refine ⟨v2, v', ms', now', (hB.trans b6).trans b7, h1, h2, fun g hg => ?_⟩
  rcases hv with e | e
  · exact hvc g (by rw [← e, hg])
  · exact Nat.le_trans hB.size (e g hg)

/-- An object of another type is as it was behind the program's step. -/
theorem step_obj {w5 w6 : World} {b q : Nat} {vc : Value} {ts : List (Int × Int)} {now : Int} {cs : Array Value} {t : TypeId} (hk : Ck w5 b vc ts now) (hf : Frm (fun k => k = b ∨ vc.ownBlock = some k) w5 w6)
    (h : w5.heap[q]? = some (.cells cs t (0, 0))) (h1 : t ≠ 51) (h2 : 117 ≠ t) : w6.heap[q]? = some (.cells cs t (0, 0)) :=
  hf.obj h fun e => e.elim (fun e => obj_ne h hk.1 h1 e) fun e => row_ne hk.2 h h2 e

/-- Both refuse a Set, by one number. -/
theorem set_bad {w3 : World} {b : Nat} {vc : Value} {p : Option Addr} {c : Nat} {ms : List (Int × Int)} {now at' who : Int} (h : at' ≤ now ∨ 1099511627776 < at' ∨ who < 0 ∨ 63 < who ∨ 64 ≤ (ms.length : Int)) :
    ∃ n : Int, n ≠ 0 ∧ Calls Try.prog 23 #[.agg #[.int .i64 now, .slice p ms.length c], .int .i64 at', .int .i64 who] w3 (fun e w' => Refused w3 w' now (.slice p ms.length c) n e) ∧
      ∀ w : World, Ck w b vc (srt ms) now → Calls Try.prog 24 #[.pointer (some ⟨b, 0, none⟩), .int .i64 at', .int .i64 who] w fun e w' => Bad w w' n e := by
  by_cases h1 : at' ≤ now
  · exact ⟨5, by decide, rset_low w3 now at' who p _ c h1, fun w hk => set_low w b vc _ now at' who hk h1⟩
  by_cases h2 : 1099511627776 < at'
  · exact ⟨5, by decide, rset_high w3 now at' who p _ c h1 h2, fun w hk => set_high w b vc _ now at' who hk h1 h2⟩
  by_cases h3 : who < 0
  · exact ⟨1, by decide, rset_neg w3 now at' who p _ c h1 h2 h3, fun w hk => set_neg w b vc _ now at' who hk h1 h2 h3⟩
  by_cases h4 : 63 < who
  · exact ⟨1, by decide, rset_over w3 now at' who p _ c h1 h2 h3 h4, fun w hk => set_over w b vc _ now at' who hk h1 h2 h3 (by omega)⟩
  have h5 : 64 ≤ (ms.length : Int) := by omega
  exact ⟨8, by decide, rset_many w3 now at' who p _ c h1 h2 h3 h4 h5, fun w hk => set_many w b vc _ now at' who hk h1 h2 h3 (by omega) (by rw [srt_length]; exact h5)⟩

/-- Both refuse a Tick, by one number. -/
theorem tick_bad {w3 : World} {b : Nat} {vc : Value} {p : Option Addr} {m c : Nat} {ts : List (Int × Int)} {now d : Int} (h0 : 0 ≤ now) (hm : now ≤ 1099511627776) (h : d < 1 ∨ 1099511627776 - now < d) :
    ∃ n : Int, n ≠ 0 ∧ Calls Try.prog 27 #[.agg #[.int .i64 now, .slice p m c], .int .i64 d] w3 (fun e w' => Refused3 w3 w' now (.slice p m c) n e) ∧
      ∀ w : World, Ck w b vc ts now → Calls Try.prog 28 #[.pointer (some ⟨b, 0, none⟩), .int .i64 d] w fun e w' => Bad2 w w' n e := by
  by_cases h1 : d < 1
  · exact ⟨1, by decide, rtick_low w3 now d p m c h1, fun w hk => tick_low w b vc ts now d hk h1⟩
  · have h2 := h.resolve_left h1
    exact ⟨5, by decide, rtick_over w3 now d p m c h0 hm h1 h2, fun w hk => tick_over w b vc ts now d hk h0 h1 hm h2⟩

/-- Who a tick tells. -/
def toldL (ms : List (Int × Int)) (T : Int) : List Int := whoL (srt ms) (fun t => decide (t.1 ≤ T)) (srt ms).length

theorem tick_both {W w1 w2 : World} {b : Nat} {v vm v' vo : Value} {ms ls : List (Int × Int)} {now d : Int} {e2 : Ending} (h : CP W b v vm ms now) (hd : 1 ≤ d) (hm : now + d ≤ 1099511627776) (hb : Below W.heap.size W w1)
    (hrk : Rk w1 v' ls) (hvo : w1.ownsRow 0 3 1 vo (toldL ms (now + d)).length ((toldL ms (now + d)).map (Value.int .i64)))
    (hls : srt ls = keptL (srt ms) (fun t => decide (t.1 ≤ now + d)) (srt ms).length) (hle : ls.length ≤ ms.length) (hs : TickOk w1 w2 b v (srt ms) (now + d) e2) :
    ∃ v2 r, e2 = .returned (.tuple #[r, .nilIface]) ∧ CP w2 b v2 v' ls (now + d) ∧
      w2.ownsRow 0 3 1 vo (toldL ms (now + d)).length ((toldL ms (now + d)).map (Value.int .i64)) ∧
      w2.ownsRow 0 3 1 r (toldL ms (now + d)).length ((toldL ms (now + d)).map (Value.int .i64)) ∧
      Frm (fun k => k = b ∨ v.ownBlock = some k) w1 w2 ∧ v2.ownBlock = v.ownBlock := h.tick hd hm hb hrk hvo hls hle hs

theorem rtick_told {W w' : World} {ms : List (Int × Int)} {now : Int} {e : Ending} (h : RTickOk W w' ms now e) :
    ∃ v vo ls, e = .returned (.tuple #[.agg #[.int .i64 now, v], vo, .int .i64 0]) ∧ Rk w' v ls ∧ w'.ownsRow 0 3 1 vo (toldL ms now).length ((toldL ms now).map (Value.int .i64)) ∧
      srt ls = keptL (srt ms) (fun t => decide (t.1 ≤ now)) (srt ms).length ∧ ls.length ≤ ms.length ∧ Below W.heap.size W w' := h

theorem toldL_le (ms : List (Int × Int)) (T : Int) : (toldL ms T).length ≤ ms.length := told_le ms _

/-- A row of ints: where it lies. -/
theorem ints_at {w : World} {p : Option Addr} {c : Nat} {os : List Int} (h : w.ownsRow 0 3 1 (.slice p os.length c) os.length (os.map (Value.int .i64))) :
    os.length = 0 ∨ ∃ g, p = some ⟨g, 0, none⟩ ∧ ∀ (j : Nat) (x : Int), os[j]? = some x → w.cell? ⟨g, j, none⟩ = some (.int .i64 x) := by
  rcases h.2 with ⟨_, h0⟩ | ⟨g, cap, cur, h', _⟩
  · exact .inl h0
  · simp only [Value.slice.injEq] at h'
    obtain ⟨rfl, _, rfl⟩ := h'
    refine .inr ⟨g, rfl, fun j x hj => ?_⟩
    have hlt : j < os.length := (List.getElem?_eq_some_iff.1 hj).1
    exact (h.cellAt j (by omega)).trans (by rw [List.getElem?_map, hj]; rfl)
end Go.Proofs.Ytpnglcafjofmnaa
