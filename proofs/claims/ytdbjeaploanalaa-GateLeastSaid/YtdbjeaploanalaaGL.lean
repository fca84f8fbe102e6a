/-
  What GateLeast's law has when its group stands: an arena, a group, the numbers and what their cells have; how a row of bytes that is read lies. No condition but those that each theorem names.
-/
import Derived.Test.YtdbjeaploanalaaGateRef
import Derived.Test.YtdbjeaploanalaaGate5
import Derived.Test.YtdbjeaploanalaaLongs
namespace Go.Proofs.Ytdbjeaploanalaa
open Go.RowKit Go.ChangeShapes Go.WideShapes Go.Deep

theorem longs_ints {W : World} {v : Value} {n : Nat} {z : Nat → Int} (h : LongsAt W v n z) : IntsAt W v ((List.range n).map z) := by
  obtain ⟨p, cap, rfl, hm, h⟩ := h
  refine ⟨p, cap, by simp, ?_⟩
  rcases h with h | ⟨b, off, rfl, hc⟩
  · exact .inl (by simpa using h)
  · refine .inr ⟨b, off, rfl, fun j hj => ?_⟩
    have hj' : j < n := by simpa using hj
    rw [(hc j hj').1]
    simp [hj']

/-- A row of bytes that is read. -/
def BytesAt (W : World) (v : Value) (n : Nat) (z : Nat → Int) : Prop :=
  ∃ p cap, v = .slice p n cap ∧ n ≤ maxLen ∧ (n = 0 ∨ ∃ b off, p = some ⟨b, off, none⟩ ∧ ∀ j, j < n → W.cell? ⟨b, off + j, none⟩ = some (.int .u8 (z j)) ∧ 0 ≤ z j ∧ z j ≤ 255)
theorem open_bytes {H : Type} {enc : TypeId × Value → H} {w : World} {base : Nat} {spare : Nat → Bool} {held : Bool} {fuel : Nat} {v : Value} {x : DataW H × List MemPlace} (h : DataW.trod enc Try.prog w base spare held fuel 80 [v] = some x) : ∃ n z, BytesAt w v n z := by
  rcases open_ints Try.underlying80 Try.underlying5 (by kernel_rfl) h with ⟨h0, _⟩ | ⟨a, len, cap, zs, hcs, _, hl, hm, hlen, _, hcell, hwf⟩
  · simp at h0; subst h0
    exact ⟨0, fun _ => 0, none, 0, rfl, Nat.zero_le _, Or.inl rfl⟩
  · simp at hcs; subst hcs
    have hle : len ≤ zs.length := by rw [hlen]; split <;> omega
    refine ⟨len, fun j => zs.getD j 0, _, cap, rfl, by omega, ?_⟩
    rcases Nat.eq_zero_or_pos len with h0 | hpos
    · exact Or.inl h0
    · right
      obtain ⟨b, off, spot⟩ := a
      have hspot : spot = none := by simpa [Addr.add] using World.cell?_spot (hcell 0 (by omega))
      subst hspot
      refine ⟨b, off, rfl, fun j hj => ?_⟩
      have hj' : j < zs.length := by omega
      have h1 := hcell j hj'
      rw [addr_add] at h1
      have h2 := u8_wf (hwf zs[j] (List.getElem_mem hj'))
      have e : zs.getD j 0 = zs[j] := by simp [List.getD, hj']
      rw [← e] at h2
      exact ⟨h1, h2⟩

/-- Who of a group without a cell, of one with cells. -/
theorem gwho_empty {W : World} {g b : Nat} {ids xs : List Int} {v : Value} {st : Int} (h : Gr W g ids) (ha : Ar W b v xs st) (h0 : 0 ≤ st) (h1 : st < 2305843009213693952) (hne : ids.length = 0) :
    Calls Try.prog 48 #[.pointer (some ⟨g, 0, none⟩), .pointer (some ⟨b, 0, none⟩)] W fun e w' => e = .returned (.tuple #[.slice none 0 0, .nilIface]) ∧ Loaded W w' b v xs (st + ids.length) := by
  have HL := Lib.hid (loads_ok ⟨#[119, 104, 111]⟩ h ha (fun j hj => by omega) h0 h1)
  rw [hne] at HL ⊢
  clear h ha hne
  go_enter Try.func48, Try.ntmps48
  go_wp2_with (first
    | (go_at_call 74; refine HL.out.mono ?_; rintro e w1 ⟨r, c, rfl, hr, ha1, hf1⟩; have HLD := Lib.hid (show Loaded W w1 b v xs _ from ⟨ha1, hf1⟩); clear hr ha1 hf1))
  go_returns
  exact ⟨rfl, HLD.out⟩
theorem gwho_all {W : World} {g b : Nat} {ids xs : List Int} {v : Value} {st : Int} (h : Gr W g ids) (ha : Ar W b v xs st) (hin : ∀ j, j < ids.length → 0 ≤ ids.getD j 0 ∧ ids.getD j 0 < (xs.length : Int)) (h0 : 0 ≤ st) (h1 : st < 2305843009213693952) :
    Calls Try.prog 48 #[.pointer (some ⟨g, 0, none⟩), .pointer (some ⟨b, 0, none⟩)] W fun e w' => ∃ m p k c, (0 < ids.length → IsMin (valsOf xs ids) m) ∧ e = .returned (.tuple #[.slice p k c, .nilIface]) ∧ w'.ownsRow W.heap.size 3 1 (.slice p k c) k ((whoOf xs ids m).map (Value.int .i64)) ∧ Loaded W w' b v xs (st + ids.length) := by
  rcases Nat.eq_zero_or_pos ids.length with hz | hp
  · refine (gwho_empty h ha h0 h1 hz).mono ?_
    rintro e w ⟨rfl, hl⟩
    obtain rfl : ids = [] := List.eq_nil_of_length_eq_zero hz
    exact ⟨0, none, 0, 0, fun h => by simp at h, rfl, World.ownsRow_nil _ _ _ _, hl⟩
  · refine (gwho_ok h ha hin h0 h1 hp).mono ?_
    rintro e w ⟨m, p, k, c, hm, rfl, hr, hl⟩
    exact ⟨m, p, k, c, fun _ => hm, rfl, hr, hl⟩
theorem isMin_max {l : List Int} {m y M : Int} (h : IsMin (l ++ [M]) y) (k : IsMin l m) (hM : ∀ x ∈ l, x ≤ M) : y = m := by
  have h1 := h.2 m (by simp [k.1])
  have h2 := h.1
  simp only [List.mem_append, List.mem_singleton] at h2
  have h3 := hM m k.1
  rcases h2 with h2 | h2
  · have := k.2 y h2
    omega
  · omega
theorem isMin_front {l : List Int} {y x M : Int} (h : IsMin (l ++ [M]) y) : IsMin (l ++ [x] ++ [M]) (min y x) := by
  refine (h.snoc x).same fun z => ?_
  simp only [List.mem_append, List.mem_singleton]
  constructor
  · rintro ((h | h) | h)
    · exact .inl (.inl h)
    · exact .inr h
    · exact .inl (.inr h)
  · rintro ((h | h) | h)
    · exact .inl (.inl h)
    · exact .inr h
    · exact .inl (.inr h)
/-- A whole row that is loaded, in a region that draws its order. -/
theorem quiet_load_row {P : Program} {C : World → Prop} {K : Act → Prop} {a : Act} {o : Oper} (ty : TypeId) (x : Operand) (ho : o.op = .load ty x)
    (g : Nat) (hx : a.eval x = .pointer (some ⟨g, 0, none⟩)) (t : TypeId) (cs : Array Value) (fr : Nat × Nat) (d : TypeDesc) (hg : ∀ w, C w → w.heap[g]? = some (.cells cs t fr))
    (hu : P.underlying ty = some d) (hd : (match d with | .struct _ | .array _ _ => true | _ => false) = true) (hi : (P.info? ty).map (·.size) = some cs.size)
    (hk : K (a.put o.dst (.agg cs))) : o.quiet P a C K := by
  refine ⟨.agg cs, fun w hw => ?_, hk⟩
  unfold Oper.quietAt execOp
  simp only [ho, hx, Instr.loadAt, Instr.sureAddr, Sem.run_bind, Sem.run_pure, Result.andThen_ok, run_loadVar_row w g t ty cs fr d (hg w hw) hu hd hi]
  exact ⟨rfl, rfl⟩

/-- The arena was made since W0, the group beside it; two rows: what the group's cells have, and the group's numbers. -/
structure GL (W0 W : World) (b : Nat) (v : Value) (xs : List Int) (st : Int) (g : Nat) (ids : List Int) (lv : Value) (n : Nat) (ls : List Int) (iv : Value) (m : Nat) (js : List Int) : Prop where
  ar : Ar W b v xs st
  gr : Gr W g ids
  lr : W.ownsRow W0.heap.size 2 1 lv n (ls.map (Value.int .i64))
  ir : W.ownsRow W0.heap.size 3 1 iv m (js.map (Value.int .i64))
  low : Below W0.heap.size W0 W
  hb : W0.heap.size ≤ b
  hg : W0.heap.size ≤ g
  hv : ∀ r, v.ownBlock = some r → W0.heap.size ≤ r
  ap : ∀ r, lv.ownBlock = some r → v.ownBlock ≠ some r

section
variable {W0 W w' : World} {b g n m : Nat} {v lv iv : Value} {xs ids ls js : List Int} {st : Int}
theorem GL.keep (h : GL W0 W b v xs st g ids lv n ls iv m js) (hb : Below W.heap.size W w') : GL W0 w' b v xs st g ids lv n ls iv m js :=
  ⟨h.ar.keepB hb, h.gr.keepB hb, (Frm.of_below hb fun _ => False).row h.lr fun _ _ => id, (Frm.of_below hb fun _ => False).row h.ir fun _ _ => id, bthen h.low hb, h.hb, h.hg, h.hv, h.ap⟩
/-- The group's own call. -/
theorem GL.group (h : GL W0 W b v xs st g ids lv n ls iv m js) {ids' : List Int} (hs : GrStep W w' g ids') : GL W0 w' b v xs st g ids' lv n ls iv m js := by
  obtain ⟨h1, hf⟩ := hs
  refine ⟨h.ar.keep hf (fun e => h.gr.ne h.ar e.symm) ?_, h1, hf.row h.lr ?_, hf.row h.ir ?_, h.low.trans (hf.below h.low.size fun k e => e ▸ h.hg), h.hb, h.hg, h.hv, h.ap⟩
  · rintro r hr rfl
    exact h.gr.neR h.ar.2 (by decide) hr
  · rintro r hr rfl
    exact h.gr.neR h.lr (by decide) hr
  · rintro r hr rfl
    exact h.gr.neR h.ir (by decide) hr
/-- A load of the arena's. -/
theorem GL.loaded (h : GL W0 W b v xs st g ids lv n ls iv m js) {st' : Int} (hs : Loaded W w' b v xs st') : GL W0 w' b v xs st' g ids lv n ls iv m js := by
  obtain ⟨h1, hf⟩ := hs
  refine ⟨h1, h.gr.keep hf (h.gr.ne h.ar), hf.row h.lr ?_, hf.row h.ir ?_, h.low.trans (hf.below h.low.size fun k e => e ▸ h.hb), h.hb, h.hg, h.hv, h.ap⟩
  · rintro r hr rfl
    exact row_ne h.lr h.ar.1 (by decide) hr
  · rintro r hr rfl
    exact row_ne h.ir h.ar.1 (by decide) hr
/-- One more of what the cells have. -/
theorem GL.appL (h : GL W0 W b v xs st g ids lv n ls iv m js) {lv' : Value} {x : Int} {o : Obj} (hown : w'.ownsRow 0 2 1 lv' (n + 1) (ls.map (Value.int .i64) ++ [Value.int .i64 x])) (hf : Frm (fun k => lv.ownBlock = some k) (W.alloc o) w') (hv : lv'.ownBlock = lv.ownBlock ∨ ∀ r, lv'.ownBlock = some r → (W.alloc o).heap.size ≤ r) :
    GL W0 w' b v xs st g ids lv' (n + 1) (ls ++ [x]) iv m js := by
  have hlow : ∀ r, lv.ownBlock = some r → W0.heap.size ≤ r := fun r hr => (h.lr.lt r hr).1
  have h0 := h.low.size
  have hB : Below W.heap.size W (W.alloc o) := (Below.refl _ _).alloc (Nat.le_refl _) _
  have k := h.keep hB
  refine ⟨k.ar.keep hf (fun e => row_ne k.lr k.ar.1 (by decide) e) (fun r hr e => h.ap r e hr), k.gr.keep hf (fun e => k.gr.neR k.lr (by decide) e), ?_, hf.row k.ir (fun r hr e => rows_apart k.ir k.lr (by decide) hr e), k.low.trans (hf.below k.low.size fun r hr => hlow r hr), h.hb, h.hg, h.hv, ?_⟩
  · rw [List.map_append]
    refine row_up hown fun r hr => ?_
    rcases hv with hv | hv
    · exact hlow r (hv ▸ hr)
    · have := hv r hr
      simp at this
      omega
  · intro r hr e
    rcases hv with hv | hv
    · exact h.ap r (hv ▸ hr) e
    · have h1 := hv r hr
      have h2 := row_lt h.ar.2 e
      simp at h1
      omega
/-- One more of the numbers. -/
theorem GL.appI (h : GL W0 W b v xs st g ids lv n ls iv m js) {iv' : Value} {x : Int} {o : Obj} (hown : w'.ownsRow 0 3 1 iv' (m + 1) (js.map (Value.int .i64) ++ [Value.int .i64 x])) (hf : Frm (fun k => iv.ownBlock = some k) (W.alloc o) w') (hv : iv'.ownBlock = iv.ownBlock ∨ ∀ r, iv'.ownBlock = some r → (W.alloc o).heap.size ≤ r) :
    GL W0 w' b v xs st g ids lv n ls iv' (m + 1) (js ++ [x]) := by
  have hlow : ∀ r, iv.ownBlock = some r → W0.heap.size ≤ r := fun r hr => (h.ir.lt r hr).1
  have h0 := h.low.size
  have hB : Below W.heap.size W (W.alloc o) := (Below.refl _ _).alloc (Nat.le_refl _) _
  have k := h.keep hB
  refine ⟨k.ar.keep hf (fun e => row_ne k.ir k.ar.1 (by decide) e) (fun r hr e => rows_apart k.ar.2 k.ir (by decide) hr e), k.gr.keep hf (fun e => k.gr.neR k.ir (by decide) e), hf.row k.lr (fun r hr e => rows_apart k.lr k.ir (by decide) hr e), ?_, k.low.trans (hf.below k.low.size fun r hr => hlow r hr), h.hb, h.hg, h.hv, h.ap⟩
  rw [List.map_append]
  refine row_up hown fun r hr => ?_
  rcases hv with hv | hv
  · exact hlow r (hv ▸ hr)
  · have := hv r hr
    simp at this
    omega
/-- A scan in a variable of the law's own. -/
theorem GL.scan (h : GL W0 W b v xs st g ids lv n ls iv m js) {q : Nat} {cs : Array Value} {fr : Nat × Nat} (hq : W.heap[q]? = some (.cells cs 86 fr)) (hl : W0.heap.size ≤ q) (hf : Frm (fun k => k = q) W w') : GL W0 w' b v xs st g ids lv n ls iv m js := by
  refine ⟨h.ar.keep hf (obj_ne h.ar.1 hq (by decide)) ?_, h.gr.keep hf (obj_ne h.gr.1 hq (by decide)), hf.row h.lr ?_, hf.row h.ir ?_, h.low.trans (hf.below h.low.size fun k e => e ▸ hl), h.hb, h.hg, h.hv, h.ap⟩
  · rintro r hr rfl
    exact row_ne h.ar.2 hq (by decide) hr
  · rintro r hr rfl
    exact row_ne h.lr hq (by decide) hr
  · rintro r hr rfl
    exact row_ne h.ir hq (by decide) hr
theorem valsOf_more {xs ids : List Int} {j z : Nat} {x : Int} (hj : j < ids.length) (hz : ids.getD j 0 = z) (hx : xs[z]? = some x) : valsOf xs (ids.take (j + 1)) = valsOf xs (ids.take j) ++ [x] := by
  rw [take_snoc hj, hz]
  simp [valsOf, hx]
theorem ints_cut {w : World} {B : Nat} {e : TypeId} {r n c j : Nat} {xs ids : List Int} (h : w.ownsRow B e 1 (.slice (some ⟨r, 0, none⟩) n c) n ((valsOf xs ids).map (Value.int .i64))) (hj : j ≤ ids.length) : IntsAt w (.slice (some ⟨r, 0, none⟩) j c) (valsOf xs (ids.take j)) := by
  have hn : ids.length = n := by have := h.1; simpa [valsOf] using this
  have hl : (valsOf xs (ids.take j)).length = j := by simp [valsOf]; omega
  refine ⟨_, c, by rw [hl], .inr ⟨r, 0, rfl, fun i hi => ?_⟩⟩
  rw [hl] at hi
  rw [Nat.zero_add, h.cellAt i (by omega)]
  have h1 : i < ids.length := by omega
  simp [valsOf, List.getElem?_eq_getElem h1, hi]
end
end Go.Proofs.Ytdbjeaploanalaa
