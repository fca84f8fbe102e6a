/-
  The document's own clock: Tick by contract. Conditions: the row is the call's own; at most 2^20 timers.
-/
import Derived.Test.YtdfcfdcekdmcmaaGreatPk31
set_option linter.unusedVariables false
set_option linter.unusedSimpArgs false
namespace Go.Proofs.YtdfcfdcekdmcmaaGreat
open Go.RowKit
def Refused3 (W w' : World) (now : Int) (v : Value) (n : Int) (e : Ending) : Prop := e = .returned (.tuple #[.agg #[.int .i64 now, v], .slice none 0 0, .int .i64 n]) ∧ Below W.heap.size W w'
set_option maxRecDepth 100000 in
theorem rtick_low (W : World) (now d : Int) (p : Option Addr) (n c : Nat) (h1 : d < 1) :
    Calls Tryz.prog 109 #[.agg #[.int .i64 now, .slice p n c], .int .i64 d] W fun e w' => Refused3 W w' now (.slice p n c) 1 e := by
  have d1 : decide (d < 1) = true := decide_eq_true h1
  go_enter Tryz.func109, Tryz.ntmps109
  go_wp2
  refine bodyPost_ret (v := .tuple #[.agg #[.int .i64 now, .slice p n c], .slice none 0 0, .int .i64 1]) ?_ rfl ⟨rfl, balloc (balloc (Below.refl _ _) _) _⟩
  simp [results, Tryz.results109, go_sem]
set_option maxRecDepth 100000 in
theorem rtick_over (W : World) (now d : Int) (p : Option Addr) (n c : Nat) (h0 : 0 ≤ now) (hm : now ≤ 1099511627776) (h1 : ¬ d < 1) (h2 : 1099511627776 - now < d) :
    Calls Tryz.prog 109 #[.agg #[.int .i64 now, .slice p n c], .int .i64 d] W fun e w' => Refused3 W w' now (.slice p n c) 5 e := by
  have d1 : decide (d < 1) = false := decide_eq_false h1
  have d2 : decide (1099511627776 - now < d) = true := decide_eq_true h2
  go_enter Tryz.func109, Tryz.ntmps109
  go_wp2
  refine bodyPost_ret (v := .tuple #[.agg #[.int .i64 now, .slice p n c], .slice none 0 0, .int .i64 5]) ?_ rfl ⟨rfl, balloc (balloc (Below.refl _ _) _) _⟩
  simp [results, Tryz.results109, go_sem]
def TX (W : World) (now : Int) (ls : List (Int × Int)) (os : List Int) (v vo : Value) (wl : World) : Prop :=
  Below W.heap.size W wl ∧ Rk wl v ls ∧ wl.ownsRow 0 3 1 vo os.length (os.map (Value.int .i64)) ∧ (∀ g, vo.ownBlock = some g → W.heap.size ≤ g) ∧
    wl.heap[W.heap.size]? = some (.cells #[.int .i64 now, v] 116 (0, 0)) ∧ wl.heap[W.heap.size + 1]? = some (.cells #[.int .i64 0, .slice none 0 0] 116 (0, 0))
theorem rows_ne {w : World} {b1 b2 s1 s2 n1 n2 : Nat} {e1 e2 : TypeId} {v1 v2 : Value} {x1 x2 : List Value} (h1 : w.ownsRow b1 e1 s1 v1 n1 x1) (h2 : w.ownsRow b2 e2 s2 v2 n2 x2) (hne : e1 ≠ e2) {g : Nat} (hg : v2.ownBlock = some g) : v1.ownBlock ≠ some g := by
  obtain ⟨cur, hc⟩ := ownsRow_obj h2 hg
  exact row_ne h1 hc hne
theorem TX.keepB {W : World} {now : Int} {ls : List (Int × Int)} {os : List Int} {v vo : Value} {wl w' : World} (h : TX W now ls os v vo wl) (hb : Below wl.heap.size wl w') : TX W now ls os v vo w' := by
  obtain ⟨h1, h2, h3, h4, h5, h6⟩ := h
  have hf := Frm.of_below hb fun _ => False
  exact ⟨h1.trans (hb.mono h1.size), hf.row h2 fun _ _ => id, hf.row h3 fun _ _ => id, h4, hf.obj h5 id, hf.obj h6 id⟩
theorem TX.told {W : World} {now x : Int} {ls : List (Int × Int)} {os : List Int} {v vo v' : Value} {wl w5 : World} {o : Obj} (h : TX W now ls os v vo wl)
    (ho : w5.ownsRow 0 3 1 v' (os.length + 1) (os.map (Value.int .i64) ++ [Value.int .i64 x])) (hf : Frm (fun q => vo.ownBlock = some q) (wl.alloc o) w5) (hv : v'.ownBlock = vo.ownBlock ∨ ∀ g, v'.ownBlock = some g → (wl.alloc o).heap.size ≤ g) :
    TX W now ls (os ++ [x]) v v' w5 := by
  have hA := h.keepB (balloc (Below.refl _ _) o)
  obtain ⟨h1, h2, h3, h4, h5, h6⟩ := hA
  have hs := h1.size
  refine ⟨h1.trans (hf.below hs h4), hf.row h2 fun g hg e => rows_ne h3 h2 (by decide) hg e, ?_, ?_, hf.obj h5 fun e => row_ne h3 h5 (by decide) e, hf.obj h6 fun e => row_ne h3 h6 (by decide) e⟩
  · simpa using ho
  · intro g hg
    rcases hv with hv | hv
    · exact h4 g (by rw [← hv]; exact hg)
    · have := hv g hg
      omega
theorem NewRk.start (W : World) : NewRk W W (.slice none 0 0) [] := ⟨World.ownsRow_nil _ _ _ _, by simp [Value.ownBlock], Below.refl _ _⟩
theorem NewRk.app {W w6 w7 : World} {vl v' : Value} {xs ys : List (Int × Int)} (h : NewRk W w6 vl xs) (ho : w7.ownsRow 0 237 2 v' (xs.length + ys.length) (flat xs ++ flat ys)) (hf : Frm (fun q => vl.ownBlock = some q) w6 w7)
    (hv : v'.ownBlock = vl.ownBlock ∨ ∀ g, v'.ownBlock = some g → w6.heap.size ≤ g) : NewRk W w7 v' (xs ++ ys) := by
  obtain ⟨h1, h2, h3⟩ := h
  have hs := h3.size
  refine ⟨?_, ?_, h3.trans (hf.below hs h2)⟩
  · unfold Rk
    rw [List.length_append, flat_append]
    exact ho
  · intro g hg
    rcases hv with hv | hv
    · exact h2 g (by rw [← hv]; exact hg)
    · have := hv g hg
      omega
theorem TX.put {W : World} {now : Int} {ls ls' : List (Int × Int)} {os : List Int} {v vo vl : Value} {w5 w7 : World} (h : TX W now ls os v vo w5) (hl : NewRk w5 w7 vl ls') : TX W now ls' os vl vo (w7.setCell ⟨W.heap.size, 1, none⟩ vl) := by
  obtain ⟨h1, h2, h3, h4, h5, h6⟩ := h.keepB hl.2.2
  obtain ⟨k1, k2, k3⟩ := hl
  have hb := lt_of_block h.2.2.2.2.1
  have hF : Frm (fun q => q = W.heap.size) w7 (w7.setCell ⟨W.heap.size, 1, none⟩ vl) := (Frm.refl (fun q => q = W.heap.size) w7).setCell (p := ⟨W.heap.size, 1, none⟩) rfl _
  exact ⟨h1.trans (hF.below h1.size fun q hq => by omega), hF.row k1 fun g hg e => by have := k2 g hg; omega, hF.row h3 fun g hg e => row_ne h3 h5 (by decide) (by rw [hg, e]), h4, obj_setCell _ h5, hF.obj h6 fun e => by omega⟩
def Told4 (ms : List (Int × Int)) (now : Int) (os : List Int) (ls : List (Int × Int)) : Prop :=
  ∃ done, srt ms = done ++ srt ls ∧ os = done.map (·.2) ∧ (∀ t ∈ done, t.1 ≤ now) ∧ os.length + ls.length = ms.length
theorem Told4.start (ms : List (Int × Int)) (now : Int) : Told4 ms now [] ms := ⟨[], rfl, rfl, by simp, by simp⟩
theorem first_split {ls : List (Int × Int)} {m : Nat} (h : First ls ls.length m) : srt ls = (tm ls m, wh ls m) :: srt (ls.take m ++ ls.drop (m + 1)) := by
  have hm := h.1
  have e : ls = ls.take m ++ (tm ls m, wh ls m) :: ls.drop (m + 1) := by
    rw [tm_get hm, wh_get hm]
    exact (List.take_append_drop m ls).symm.trans (by rw [List.drop_eq_getElem_cons hm])
  have hs := srt_head (ls.take m) (ls.drop (m + 1)) (tm ls m, wh ls m) (fun a ha => ?_) (fun b hb => ?_)
  · rw [← e] at hs
    exact hs
  · obtain ⟨j, hj, rfl⟩ := List.getElem_of_mem ha
    rw [List.length_take] at hj
    rw [List.getElem_take]
    have := h.2.1 j (by omega)
    rw [tm_get (by omega : j < ls.length)] at this
    exact this
  · obtain ⟨j, hj, rfl⟩ := List.getElem_of_mem hb
    rw [List.length_drop] at hj
    rw [List.getElem_drop]
    have := h.2.2 (m + 1 + j) (by omega)
    rw [tm_get (by omega : m + 1 + j < ls.length)] at this
    exact this
theorem Told4.step {ms ls : List (Int × Int)} {now : Int} {os : List Int} {m : Nat} (h : Told4 ms now os ls) (hf : First ls ls.length m) (ht : tm ls m ≤ now) : Told4 ms now (os ++ [wh ls m]) (ls.take m ++ ls.drop (m + 1)) := by
  obtain ⟨done, h1, h2, h3, h4⟩ := h
  have hm := hf.1
  refine ⟨done ++ [(tm ls m, wh ls m)], ?_, by rw [h2]; simp, ?_, ?_⟩
  · rw [h1, first_split hf]; simp
  · intro t ht'
    rcases List.mem_append.1 ht' with h' | h'
    · exact h3 t h'
    · simp at h'; subst h'; exact ht
  · simp [List.length_take, List.length_drop]; omega
theorem Told4.done {ms ls : List (Int × Int)} {now : Int} {os : List Int} (h : Told4 ms now os ls) (he : ∀ y ∈ ls, now < y.1) :
    os = whoL (srt ms) (fun t => decide (t.1 ≤ now)) (srt ms).length ∧ srt ls = keptL (srt ms) (fun t => decide (t.1 ≤ now)) (srt ms).length ∧ ls.length ≤ ms.length := by
  obtain ⟨done, h1, h2, h3, h4⟩ := h
  have he' : ∀ y ∈ srt ls, now < y.1 := fun y hy => he y ((mem_srt y ls).1 hy)
  have f1 : done.filter (fun t => decide (t.1 ≤ now)) = done := List.filter_eq_self.2 fun t ht => decide_eq_true (h3 t ht)
  have f2 : (srt ls).filter (fun t => decide (t.1 ≤ now)) = [] := List.filter_eq_nil_iff.2 fun t ht => by have := he' t ht; simp; omega
  have f3 : done.filter (fun t => !decide (t.1 ≤ now)) = [] := List.filter_eq_nil_iff.2 fun t ht => by have := h3 t ht; simp; omega
  have f4 : (srt ls).filter (fun t => !decide (t.1 ≤ now)) = srt ls := List.filter_eq_self.2 fun t ht => by have := he' t ht; simp; omega
  refine ⟨?_, ?_, by omega⟩
  · unfold whoL
    rw [List.take_length, h1, List.filter_append, f1, f2, List.append_nil, h2]
  · unfold keptL
    rw [List.take_length, h1, List.filter_append, f3, f4, List.nil_append]
theorem first_late {ls : List (Int × Int)} {m : Nat} {now : Int} (h : First ls ls.length m) (hl : now < tm ls m) : ∀ y ∈ ls, now < y.1 := by
  intro y hy
  obtain ⟨j, hj, rfl⟩ := List.getElem_of_mem hy
  have := h.2.2 j hj
  rw [tm_get hj] at this
  omega
def RTickOk2 (W w' : World) (v0 : Value) (ms : List (Int × Int)) (now : Int) (e : Ending) : Prop :=
  ∃ v vo ls, e = .returned (.tuple #[.agg #[.int .i64 now, v], vo, .int .i64 0]) ∧ Rk w' v ls ∧
    w'.ownsRow 0 3 1 vo (whoL (srt ms) (fun t => decide (t.1 ≤ now)) (srt ms).length).length ((whoL (srt ms) (fun t => decide (t.1 ≤ now)) (srt ms).length).map (Value.int .i64)) ∧
    srt ls = keptL (srt ms) (fun t => decide (t.1 ≤ now)) (srt ms).length ∧ ls.length ≤ ms.length ∧ Below W.heap.size W w' ∧ ((v = v0 ∧ ls = ms) ∨ ∀ g, v.ownBlock = some g → W.heap.size ≤ g) ∧ ∀ g, vo.ownBlock = some g → W.heap.size ≤ g
theorem TX.fin {W : World} {now : Int} {ms ls : List (Int × Int)} {os : List Int} {v vo : Value} {wl : World} (h : TX W now ls os v vo wl) (ht : Told4 ms now os ls) (he : ∀ y ∈ ls, now < y.1) {v0 : Value} (hn : (v = v0 ∧ ls = ms) ∨ ∀ g, v.ownBlock = some g → W.heap.size ≤ g) :
    RTickOk2 W ((wl.setCell ⟨W.heap.size + 1, 0, none⟩ (.int .i64 now)).setCell ⟨W.heap.size + 1, 1, none⟩ v) v0 ms now (.returned (.tuple #[.agg #[.int .i64 now, v], vo, .int .i64 0])) := by
  obtain ⟨e1, e2, e3⟩ := ht.done he
  obtain ⟨h1, h2, h3, h4, h5, h6⟩ := h
  have hF : Frm (fun q => q = W.heap.size + 1) wl ((wl.setCell ⟨W.heap.size + 1, 0, none⟩ (.int .i64 now)).setCell ⟨W.heap.size + 1, 1, none⟩ v) := by
    have h0 : Frm (fun q => q = W.heap.size + 1) wl wl := Frm.refl _ wl
    exact (h0.setCell (p := ⟨W.heap.size + 1, 0, none⟩) rfl _).setCell (p := ⟨W.heap.size + 1, 1, none⟩) rfl _
  refine ⟨v, vo, ls, rfl, hF.row h2 fun g hg e => row_ne h2 h6 (by decide) (by rw [hg, e]), ?_, e2, e3, h1.trans (hF.below h1.size fun q hq => by omega), hn, h4⟩
  rw [← e1]
  exact hF.row h3 fun g hg e => row_ne h3 h6 (by decide) (by rw [hg, e])
theorem tboxes {W : World} {now : Int} {ls : List (Int × Int)} {os : List Int} {v vo : Value} {wl : World} (h : TX W now ls os v vo wl) : wl.cell? ⟨W.heap.size, 0, none⟩ = some (.int .i64 now) ∧ wl.cell? ⟨W.heap.size, 1, none⟩ = some v ∧ wl.cell? ⟨W.heap.size + 1, 0, none⟩ = some (.int .i64 0) ∧ wl.cell? ⟨W.heap.size + 1, 1, none⟩ = some (.slice none 0 0) ∧
    wl.frozen? ⟨W.heap.size + 1, 0, none⟩ = false ∧ wl.frozen? ⟨W.heap.size + 1, 1, none⟩ = false ∧ wl.frozen? ⟨W.heap.size, 1, none⟩ = false :=
  ⟨(obj_cell h.2.2.2.2.1 0).trans rfl, (obj_cell h.2.2.2.2.1 1).trans rfl, (obj_cell h.2.2.2.2.2 0).trans rfl, (obj_cell h.2.2.2.2.2 1).trans rfl, obj_free h.2.2.2.2.2 0, obj_free h.2.2.2.2.2 1, obj_free h.2.2.2.2.1 1⟩
theorem TX.start (W : World) (now : Int) (v : Value) (ms : List (Int × Int)) (ho : Rk W v ms) :
    TX W now ms [] v (.slice none 0 0) ((W.alloc (.cells #[.int .i64 now, v] 116)).alloc (.cells #[.int .i64 0, .slice none 0 0] 116)) := by
  obtain ⟨h1, _, _, h4, h5⟩ := BX.start W now v
  exact ⟨h1, (Frm.of_below h1 fun _ => False).row ho fun _ _ => id, World.ownsRow_nil _ _ _ _, by simp [Value.ownBlock], h4, h5⟩
def lenOf : Value → Nat
  | .slice _ n _ => n
  | _ => 0
theorem row_cap {W : World} {g n c : Nat} {ms : List (Int × Int)} (h : Rk W (.slice (some ⟨g, 0, none⟩) n c) ms) : ms.length ≤ c ∧ c ≤ 9223372036854775807 := by
  rcases h.2 with ⟨h', _⟩ | ⟨g', cap, cur, h', _, _, h1, h2, _⟩
  · simp at h'
  · simp only [Value.slice.injEq] at h'
    obtain ⟨_, _, rfl⟩ := h'
    exact ⟨h1, by unfold maxLen at h2; exact h2⟩
theorem drop_none {ls : List (Int × Int)} {m j : Nat} {u : Value} (h : ls.length ≤ m + 1) (hj : (flat (ls.drop (m + 1)))[j]? = some u) : False := by
  rw [List.drop_eq_nil_of_le h] at hj
  simp [flat] at hj
theorem drop_news {w6 w7 : World} {g c : Nat} {ls : List (Int × Int)} {m j : Nat} {u : Value} (hb : Below w6.heap.size w6 w7) (ho : Rk w6 (.slice (some ⟨g, 0, none⟩) ls.length c) ls) (h : m + 1 ≤ ls.length) (hj : (flat (ls.drop (m + 1)))[j]? = some u) : w7.cell? ((⟨g, (m + 1) * 2, none⟩ : Addr).add j) = some u := by
  rw [Addr.add_lit]
  rw [← flat_drop ls (m + 1) h, List.getElem?_drop] at hj
  have hlt : (m + 1) * 2 + j < ls.length * 2 := by
    rcases Nat.lt_or_ge ((m + 1) * 2 + j) (ls.length * 2) with h | h
    · exact h
    · rw [List.getElem?_eq_none (by rw [flat_len]; omega)] at hj; simp at hj
  exact keepc hb ((ho.cellAt ((m + 1) * 2 + j) hlt).trans hj)
theorem take_news {ls : List (Int × Int)} {m j : Nat} {u : Value} (h : m ≤ ls.length) (hj : (flat (ls.take m))[j]? = some u) : (flat ls)[j]? = some u := by
  rw [← flat_take ls m h, List.getElem?_take] at hj
  split at hj
  · exact hj
  · cases hj
set_option maxRecDepth 100000 in
set_option maxHeartbeats 4000000 in
theorem rtick_any2 (W : World) (now d : Int) (p : Option Addr) (cap : Nat) (ms : List (Int × Int)) (ho : Rk W (.slice p ms.length cap) ms) (hn : (ms.length : Int) ≤ 1048576) (h0 : 0 ≤ now) (hm : now ≤ 1099511627776) (h1 : ¬ d < 1) (h2 : ¬ 1099511627776 - now < d) :
    Calls Tryz.prog 109 #[.agg #[.int .i64 now, .slice p ms.length cap], .int .i64 d] W fun e w' => RTickOk2 W w' (.slice p ms.length cap) ms (now + d) e := by
  obtain ⟨i0, hi0, hz0, hz1, hz2⟩ := info_parts infoRT
  obtain ⟨i1, hi1, hy0, hy1, hy2⟩ := info_parts infoInt
  have d1 : decide (d < 1) = false := decide_eq_false h1
  have d2 : decide (1099511627776 - now < d) = false := decide_eq_false h2
  have HS := Lib.hid (TX.start W (now + d) (.slice p ms.length cap) ms ho)
  clear ho
  go_enter Tryz.func109, Tryz.ntmps109
  go_wp2_with fail
  clear d1 d2
  generalize hnw : now + d = nw at *
  go_loopw [7] (fun out wl => ∃ ls os v, TX W nw ls os v out wl ∧ Hid (Told4 ms nw os ls) ∧ Hid ((v = .slice p ms.length cap ∧ ls = ms) ∨ ∀ g, v.ownBlock = some g → W.heap.size ≤ g)) (fun out _ => ms.length - lenOf out)
  case atStart => exact ⟨ms, [], _, HS.out, Told4.start ms nw, Lib.hid (.inl ⟨rfl, rfl⟩)⟩
  case round =>
    obtain ⟨ls, os, v, htx, HT, HN⟩ := hrel
    obtain ⟨pv, cv, rfl, hcv⟩ := row_form htx.2.1
    obtain ⟨po, co, rfl, hco⟩ := row_form htx.2.2.1
    have hlen : os.length + ls.length = ms.length := by obtain ⟨_, _, _, _, h⟩ := HT.out; exact h
    have HTX := Lib.hid htx
    have b1 := (tboxes htx).2.1
    clear htx hcv hco
    go_wp2_with fail
    refine (least_any wr pv cv ls HTX.out.2.1 (by omega)).mono ?_
    rintro e w4 ⟨a, rfl, hla, hb4⟩
    have htx4 := HTX.out.keepB hb4
    obtain ⟨b0, b1, z0, z1, f0, f1, f2⟩ := tboxes htx4
    have HX := Lib.hid htx4
    clear hb4 htx4
    rcases hla with ⟨hz, rfl⟩ | ⟨m, rfl, hf⟩
    · have HZ := Lib.hid hz
      clear hz
      go_wp2_with fail
      go_quiet (fail)
      have HE := Lib.hid ((HX.out.keepB (w' := w4.drewN nq) ⟨rfl, rfl, rfl, Nat.le_refl _, fun _ _ => rfl⟩).fin HT.out (fun y hy => by rw [List.eq_nil_of_length_eq_zero HZ.out] at hy; cases hy) HN.out)
      go_wp2
      refine bodyPost_ret (v := .tuple #[.agg #[.int .i64 nw, .slice pv ls.length cv], .slice po os.length co, .int .i64 0]) ?_ rfl (hnw ▸ HE.out)
      simp [results, Tryz.results109, go_sem, z0, z1]
    · have hmls := hf.1
      obtain ⟨gv, rfl⟩ := row_at HX.out.2.1 (by omega)
      have dm : decide ((m : Int) < 0) = false := by rw [decide_eq_false_iff_not]; omega
      have g0 := (rk_cells HX.out.2.1 hmls).1
      have g1 := (rk_cells HX.out.2.1 hmls).2
      have HF := Lib.hid hf
      clear hf
      by_cases hlate : nw < tm ls m
      · have dl : decide (nw < tm ls m) = true := decide_eq_true hlate
        have HL := Lib.hid hlate
        clear hlate
        go_wp2_with fail
        go_quiet (fail)
        have HE := Lib.hid ((HX.out.keepB (w' := w4.drewN nq) ⟨rfl, rfl, rfl, Nat.le_refl _, fun _ _ => rfl⟩).fin HT.out (first_late HF.out HL.out) HN.out)
        go_wp2
        refine bodyPost_ret (v := .tuple #[.agg #[.int .i64 nw, .slice (some ⟨gv, 0, none⟩) ls.length cv], .slice po os.length co, .int .i64 0]) ?_ rfl (hnw ▸ HE.out)
        simp [results, Tryz.results109, go_sem, z0, z1]
      · have dl : decide (nw < tm ls m) = false := decide_eq_false hlate
        have HL := Lib.hid (show tm ls m ≤ nw by omega)
        clear hlate
        go_wp2_with fail
        go_quiet (fail)
        have htx5 := HX.out.keepB (w' := w4.drewN nq) ⟨rfl, rfl, rfl, Nat.le_refl _, fun _ _ => rfl⟩
        have q0 : (w4.drewN nq).cell? ⟨gv, m * 2, none⟩ = some (.int .i64 (tm ls m)) := g0
        have q1 : (w4.drewN nq).cell? ⟨gv, m * 2 + 1, none⟩ = some (.int .i64 (wh ls m)) := g1
        have HX5 := Lib.hid htx5
        clear b0 b1 z0 z1 f0 f1 f2 g0 g1 HX htx5
        generalize w4.drewN nq = w5 at *
        have b5 := (tboxes HX5.out).2.1
        have hmle : m ≤ ls.length := by omega
        have hcl : ls.length ≤ cv ∧ cv ≤ 9223372036854775807 := row_cap HX5.out.2.1
        obtain ⟨hcl, hc9⟩ := hcl
        have hmc : m ≤ cv := by omega
        by_cases hcc : cv = m + 1
        · subst hcc
          go_wp2_with (first
            | (at_builtin; refine wpList_append_row rfl _ _ 40 rfl 3 i1 (.int .i64 0) 1 8 Tryz.underlying40 hi1 hy0 hy1 hy2 rfl (by decide) (.slice po os.length co) os.length _ rfl (HX5.out.2.2.1.alloc _) ⟨w5.heap.size, 0, none⟩ 1 1 [.int .i64 (wh ls m)] rfl rfl (one_cell _ _ _) (fun x hx => by simp at hx; subst hx; rfl) (by unfold maxLen; omega) (by omega) ?_; intro v' w6 hown6 hf6 hv6; have htx6 := TX.told HX5.out hown6 hf6 hv6; obtain ⟨po6, co6, rfl, hco6⟩ := row_form hown6; have b6 := (tboxes htx6).2.1; have HX6 := Lib.hid htx6; clear hown6 hf6 hv6 hco6 htx6)
            | (at_builtin; refine wpList_append_row rfl _ _ 114 rfl 237 i0 (.agg #[.int .i64 0, .int .i64 0]) 2 16 Tryz.underlying114 hi0 hz0 hz1 hz2 rfl (by decide) (.slice none 0 0) 0 [] rfl (World.ownsRow_nil _ _ _ _) ⟨gv, 0, none⟩ m _ (flat (ls.take m)) rfl (by rw [flat_len, List.length_take]; omega) (fun j u hj => (HX6.out.2.1.cells (g := gv) rfl) j u (take_news hmle hj)) (flat_cells _) (by unfold maxLen; omega) (by omega) ?_; intro v' w7 hown7 hf7 hv7; have hnr7 := NewRk.app (ys := ls.take m) (NewRk.start w6) (by rw [List.length_take, Nat.min_eq_left hmle]; exact hown7) hf7 hv7; simp only [Nat.zero_add, List.nil_append] at hown7 hnr7; obtain ⟨p7, c7, rfl, hc7⟩ := row_form hown7; have b7 := (tboxes (HX6.out.keepB hnr7.2.2)).2.1; have HR7 := Lib.hid hnr7; have HO7 := Lib.hid hown7; clear hown7 hf7 hv7 hc7 hnr7)
            | (at_builtin; refine wpList_append_row rfl _ _ 114 rfl 237 i0 (.agg #[.int .i64 0, .int .i64 0]) 2 16 Tryz.underlying114 hi0 hz0 hz1 hz2 rfl (by decide) (.slice p7 m c7) m (flat (ls.take m)) rfl HO7.out ⟨gv, 0, none⟩ (ls.length - (m + 1)) _ (flat (ls.drop (m + 1))) rfl (by rw [flat_len, List.length_drop]) (fun j u hj => (drop_none (by omega) hj).elim) (flat_cells _) (by unfold maxLen; omega) (by omega) ?_; intro v' w8 hown8 hf8 hv8; have hnr8 := NewRk.app (ys := ls.drop (m + 1)) HR7.out (by rw [List.length_take, Nat.min_eq_left hmle, List.length_drop]; exact hown8) hf8 hv8; obtain ⟨p8, c8, rfl, hc8⟩ := row_form hown8; have htx8 := HX6.out.keepB hnr8.2.2; have b8 := (tboxes htx8).2.1; have f8 := (tboxes htx8).2.2.2.2.2.2; have HE := Lib.hid (TX.put HX6.out hnr8); have HN8 := Lib.hid (show ∀ g, (Value.slice p8 _ c8).ownBlock = some g → W.heap.size ≤ g from fun g hg => Nat.le_trans HX6.out.1.size (hnr8.2.1 g hg)); clear hown8 hf8 hv8 hc8 hnr8 htx8)
            | (at_builtin; refine wpList_append_row rfl _ _ 114 rfl 237 i0 (.agg #[.int .i64 0, .int .i64 0]) 2 16 Tryz.underlying114 hi0 hz0 hz1 hz2 rfl (by decide) (.slice p7 m c7) m (flat (ls.take m)) rfl HO7.out ⟨gv, 0, none⟩ 0 _ [] rfl rfl (fun j u hj => by simp at hj) (fun x hx => by simp at hx) (by unfold maxLen; omega) (by omega) ?_; intro v' w8 hown8 hf8 hv8; have hnr8 := NewRk.app (ys := ls.drop (m + 1)) HR7.out (by rw [List.drop_eq_nil_of_le (by omega : ls.length ≤ m + 1), List.length_take, Nat.min_eq_left hmle]; exact hown8) hf8 hv8; simp only [Nat.add_zero] at hown8; obtain ⟨p8, c8, rfl, hc8⟩ := row_form hown8; have htx8 := HX6.out.keepB hnr8.2.2; have b8 := (tboxes htx8).2.1; have f8 := (tboxes htx8).2.2.2.2.2.2; have HE := Lib.hid (TX.put HX6.out hnr8); have HN8 := Lib.hid (show ∀ g, (Value.slice p8 _ c8).ownBlock = some g → W.heap.size ≤ g from fun g hg => Nat.le_trans HX6.out.1.size (hnr8.2.1 g hg)); clear hown8 hf8 hv8 hc8 hnr8 htx8))
          all_goals exact ⟨⟨_, _, _, HE.out, Told4.step HT.out HF.out HL.out, Lib.hid (.inr HN8.out)⟩, by simp [lenOf]; omega⟩
        · go_wp2_with (first
            | (at_builtin; refine wpList_append_row rfl _ _ 40 rfl 3 i1 (.int .i64 0) 1 8 Tryz.underlying40 hi1 hy0 hy1 hy2 rfl (by decide) (.slice po os.length co) os.length _ rfl (HX5.out.2.2.1.alloc _) ⟨w5.heap.size, 0, none⟩ 1 1 [.int .i64 (wh ls m)] rfl rfl (one_cell _ _ _) (fun x hx => by simp at hx; subst hx; rfl) (by unfold maxLen; omega) (by omega) ?_; intro v' w6 hown6 hf6 hv6; have htx6 := TX.told HX5.out hown6 hf6 hv6; obtain ⟨po6, co6, rfl, hco6⟩ := row_form hown6; have b6 := (tboxes htx6).2.1; have HX6 := Lib.hid htx6; clear hown6 hf6 hv6 hco6 htx6)
            | (at_builtin; refine wpList_append_row rfl _ _ 114 rfl 237 i0 (.agg #[.int .i64 0, .int .i64 0]) 2 16 Tryz.underlying114 hi0 hz0 hz1 hz2 rfl (by decide) (.slice none 0 0) 0 [] rfl (World.ownsRow_nil _ _ _ _) ⟨gv, 0, none⟩ m _ (flat (ls.take m)) rfl (by rw [flat_len, List.length_take]; omega) (fun j u hj => (HX6.out.2.1.cells (g := gv) rfl) j u (take_news hmle hj)) (flat_cells _) (by unfold maxLen; omega) (by omega) ?_; intro v' w7 hown7 hf7 hv7; have hnr7 := NewRk.app (ys := ls.take m) (NewRk.start w6) (by rw [List.length_take, Nat.min_eq_left hmle]; exact hown7) hf7 hv7; simp only [Nat.zero_add, List.nil_append] at hown7 hnr7; obtain ⟨p7, c7, rfl, hc7⟩ := row_form hown7; have b7 := (tboxes (HX6.out.keepB hnr7.2.2)).2.1; have HR7 := Lib.hid hnr7; have HO7 := Lib.hid hown7; clear hown7 hf7 hv7 hc7 hnr7)
            | (at_builtin; refine wpList_append_row rfl _ _ 114 rfl 237 i0 (.agg #[.int .i64 0, .int .i64 0]) 2 16 Tryz.underlying114 hi0 hz0 hz1 hz2 rfl (by decide) (.slice p7 m c7) m (flat (ls.take m)) rfl HO7.out ⟨gv, (m + 1) * 2, none⟩ (ls.length - (m + 1)) _ (flat (ls.drop (m + 1))) rfl (by rw [flat_len, List.length_drop]) (fun j u hj => drop_news HR7.out.2.2 HX6.out.2.1 (by omega) hj) (flat_cells _) (by unfold maxLen; omega) (by omega) ?_; intro v' w8 hown8 hf8 hv8; have hnr8 := NewRk.app (ys := ls.drop (m + 1)) HR7.out (by rw [List.length_take, Nat.min_eq_left hmle, List.length_drop]; exact hown8) hf8 hv8; obtain ⟨p8, c8, rfl, hc8⟩ := row_form hown8; have htx8 := HX6.out.keepB hnr8.2.2; have b8 := (tboxes htx8).2.1; have f8 := (tboxes htx8).2.2.2.2.2.2; have HE := Lib.hid (TX.put HX6.out hnr8); have HN8 := Lib.hid (show ∀ g, (Value.slice p8 _ c8).ownBlock = some g → W.heap.size ≤ g from fun g hg => Nat.le_trans HX6.out.1.size (hnr8.2.1 g hg)); clear hown8 hf8 hv8 hc8 hnr8 htx8))
          all_goals exact ⟨⟨_, _, _, HE.out, Told4.step HT.out HF.out HL.out, Lib.hid (.inr HN8.out)⟩, by simp [lenOf]; omega⟩
end Go.Proofs.YtdfcfdcekdmcmaaGreat
