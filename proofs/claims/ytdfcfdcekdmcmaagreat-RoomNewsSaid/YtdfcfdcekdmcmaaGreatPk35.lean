/-
  The document's world of layer 14: Wake whoever it is, and Signal, by contract. Conditions: timers are of actors that are there and aren't halted.
  The document's world of layer 14: Park, Tick, an actor more, by contract. Conditions: as each theorem names them.
-/
import Derived.Test.YtdfcfdcekdmcmaaGreatPk19
import Derived.Test.YtdfcfdcekdmcmaaGreatPk34
set_option linter.unusedVariables false
set_option linter.unusedSimpArgs false
namespace Go.Proofs.YtdfcfdcekdmcmaaGreat
open Go.RowKit
set_option linter.unusedVariables false
set_option linter.unusedSimpArgs false
def Tim (ms : List (Int × Int)) (xs : List Ac) : Prop := ∀ t ∈ ms, ∃ (i : Nat) (a : Ac), t.2 = i ∧ xs[i]? = some a ∧ a.1 ≠ 2
theorem keptL_all' (ts : List (Int × Int)) (p : Int × Int → Bool) : keptL ts p ts.length = ts.filter fun t => !p t := by
  unfold keptL
  simp
theorem Tim.drop_bad {ms : List (Int × Int)} {xs : List Ac} (h : Tim ms xs) {id n : Int} (hw : Wr xs id n) : dropD ms id = ms := by
  unfold dropD
  rw [keptL_all', List.filter_eq_self]
  intro t ht
  obtain ⟨i, a, e1, e2, e3⟩ := h t ht
  have : t.2 ≠ id := by
    rintro rfl
    rcases hw with ⟨_, h1 | h1⟩ | ⟨_, j, b, e4, e5, e6⟩
    · omega
    · have := (List.getElem?_eq_some_iff.1 e2).1
      omega
    · obtain rfl : i = j := by omega
      rw [e2] at e5
      injection e5 with e5
      subst e5
      exact e3 e6
  simpa using this
theorem dropD_sub {ms : List (Int × Int)} {who : Int} : ∀ t ∈ dropD ms who, t ∈ ms ∧ t.2 ≠ who := by
  intro t ht
  unfold dropD at ht
  rw [keptL_all', List.mem_filter] at ht
  exact ⟨ht.1, by simpa using ht.2⟩
theorem Tim.wk {ms : List (Int × Int)} {xs : List Ac} (h : Tim ms xs) (who : Int) : Tim (wk (ms, xs) who).1 (wk (ms, xs) who).2 := by
  rcases wr_or xs who with ⟨n, hn, hw⟩ | ⟨i, a, rfl, hi, hs⟩
  · rw [(wk_no hw).1]
    exact h
  · rw [(wk_yes hi hs).1]
    intro t ht
    obtain ⟨t1, t2⟩ := dropD_sub t ht
    obtain ⟨j, b, e1, e2, e3⟩ := h t t1
    have hij : i ≠ j := fun e => t2 (by rw [e1, e])
    exact ⟨j, b, e1, by rw [List.getElem?_set_ne hij]; exact e2, e3⟩
theorem Tim.wks {p : List (Int × Int) × List Ac} (h : Tim p.1 p.2) (l : List Int) (k : Nat) (hk : k ≤ l.length) : Tim (wks p l k).1.1 (wks p l k).1.2 := by
  induction k with
  | zero => rw [wks_zero]; exact h
  | succ k ih =>
    rw [wks_next (by omega)]
    exact Tim.wk (ih (by omega)) _
section
variable {R : Rest} {W0 W w : World} {a : Nat} {cs : List Int} {st : Int} {d : Dw} {i : Nat} {x : Dr}
theorem dwake_any (h : Dm R W0 W a cs st d) (ht : Tim d.ms d.xs) {B : Int} (hb : Wb B d.xs) (hB : B < 4611686018427387904) (hn : (d.ms.length : Int) ≤ 1048576) (who : Int) :
    Calls Tryz.prog 60 #[.pointer (some ⟨d.wb, 0, none⟩), .int .i64 who] W fun e w' => (∃ v', Dm R W0 w' a cs st { d with ms := (wk (d.ms, d.xs) who).1, tv := v', xs := (wk (d.ms, d.xs) who).2 }) ∧ ((e = .returned (.tuple #[.bool true, .int .i64 0]) ∧ woke (d.ms, d.xs) who = 1) ∨ (e = .returned (.tuple #[.bool false, .int .i64 0]) ∧ woke (d.ms, d.xs) who = 0) ∨ (∃ n, n ≠ 0 ∧ e = .returned (.tuple #[.bool false, .int .i64 n]) ∧ woke (d.ms, d.xs) who = 0)) := by
  rcases wr_or d.xs who with ⟨n, hne, hw⟩ | ⟨j, y, rfl, hy, hs⟩
  · refine (dwake_bad h hn who n hw hne).mono ?_
    rintro e w' ⟨rfl, ⟨v', hd⟩, _⟩
    rw [(wk_no hw).1, (wk_no hw).2]
    rw [ht.drop_bad hw] at hd
    exact ⟨⟨v', hd⟩, .inr (.inr ⟨n, hne, rfl, rfl⟩)⟩
  · have hm := hb y (List.mem_of_getElem? hy)
    refine (dwake_ok h hn hy hs hm.1 (by omega)).mono ?_
    rintro e w' ⟨rfl, v', hd⟩
    rw [(wk_yes hy hs).1, (wk_yes hy hs).2]
    refine ⟨⟨v', hd⟩, ?_⟩
    by_cases h1 : y.1 = 1
    · rw [if_pos h1]
      exact .inl ⟨by simp [h1], rfl⟩
    · rw [if_neg h1]
      exact .inr (.inl ⟨by simp [h1], rfl⟩)
theorem dsignal_none (h : Dm R W0 W a cs st d) (z : Int) (hz : z < 0 ∨ (d.L.length : Int) ≤ z) (hl : d.L.length ≤ 8) :
    Calls Tryz.prog 58 #[.pointer (some ⟨d.wb, 0, none⟩), .int .i64 z] W fun e w' => e = .returned (.tuple #[.int .i64 0, .int .i64 3]) ∧ W = w' := by
  obtain ⟨p, cap, hv, -⟩ := row_form h.rings
  have k4 : W.cell? ⟨d.wb, 4, none⟩ = some (.slice p d.L.length cap) := (obj_cell h.box 4).trans (by simp [Dw.cells, hv])
  generalize d.L.length = n at *
  generalize d.wb = wb at *
  clear h hv
  by_cases hn : z < 0
  · have e1 : decide (z < 0) = true := decide_eq_true hn
    go_enter Tryz.func58, Tryz.ntmps58
    go_wp2
    go_ret2
    exact ⟨rfl, rfl⟩
  · have e1 : decide (z < 0) = false := decide_eq_false hn
    have e2 : decide ((n : Int) ≤ z) = true := decide_eq_true (by omega)
    go_enter Tryz.func58, Tryz.ntmps58
    go_wp2
    go_ret2
    exact ⟨rfl, rfl⟩
set_option maxHeartbeats 4000000 in
set_option maxRecDepth 100000 in
theorem dsignal_ok (h : Dm R W0 W a cs st d) (hx : d.L[i]? = some x) (hl8 : d.L.length ≤ 8) (ht : Tim d.ms d.xs) {B : Int} (hb : Wb B d.xs) (hB : B + x.ws.length < 4611686018427387904) (hn : (d.ms.length : Int) ≤ 1048576) (hl : (x.ws.length : Int) ≤ 1048576) :
    Calls Tryz.prog 58 #[.pointer (some ⟨d.wb, 0, none⟩), .int .i64 i] W fun e w' => e = .returned (.tuple #[.int .i64 (wks (d.ms, d.xs) x.ws x.ws.length).2, .int .i64 0]) ∧ ∃ v, Dm R W0 w' a cs st { d with ms := (wks (d.ms, d.xs) x.ws x.ws.length).1.1, tv := v, xs := (wks (d.ms, d.xs) x.ws x.ws.length).1.2, L := d.L.set i { x with ws := [], wv := .slice none 0 0 } } := by
  obtain ⟨rb, cap, hv, hrd⟩ := h.rd hx
  have hil : i < d.L.length := (List.getElem?_eq_some_iff.1 hx).1
  obtain ⟨pw, cw, hwv, -⟩ := row_form (h.wt hx)
  have k4 := hrd.k4
  have r8 := hrd.r8
  rw [hwv] at r8
  have b0 : (0 : Int) ≤ (i : Int) := by omega
  have b1 : (i : Int) < (d.L.length : Int) := by omega
  have e0 : decide ((i : Int) < 0) = false := decide_eq_false (by omega)
  have e00 : decide ((d.L.length : Int) ≤ (i : Int)) = false := decide_eq_false (by omega)
  have e01 : decide (d.L.length ≤ i) = false := decide_eq_false (by omega)
  have HX := Lib.hid hx
  have HT := Lib.hid ht
  have H := Lib.hid h
  have HN := Lib.hid hn
  have HB := Lib.hid hb
  have HB2 := Lib.hid hB
  have HV := Lib.hid hv
  have HWV := Lib.hid hwv
  clear h hx ht hn hb hB hrd hv hwv
  go_enter Tryz.func58, Tryz.ntmps58
  go_wp2_with fail
  clear k4 r8
  go_loopw [6, 8] (fun m iv wl => ∃ k : Nat, k ≤ x.ws.length ∧ m = .int .i64 (wks (d.ms, d.xs) x.ws k).2 ∧ iv = .int .i64 k ∧ Hid (∃ v, Dm R W0 wl a cs st { d with ms := (wks (d.ms, d.xs) x.ws k).1.1, tv := v, xs := (wks (d.ms, d.xs) x.ws k).1.2 })) (fun _ iv _ => x.ws.length - (intOf iv).toNat)
  case atStart => exact ⟨0, by omega, by rw [wks_zero]; rfl, rfl, Lib.hid ⟨d.tv, by rw [wks_zero]; exact H.out⟩⟩
  case round =>
    obtain ⟨k, hk, rfl, rfl, HK⟩ := hrel
    obtain ⟨v, hkd⟩ := HK.out
    have HKD := Lib.hid hkd
    have HWT := Lib.hid (hkd.wt HX.out)
    clear hkd HK
    by_cases hlt : k < x.ws.length
    · obtain ⟨rg, cap2, hsl, _⟩ := row_some HWT.out (by omega)
      rw [HWV.out] at hsl
      obtain rfl : pw = some ⟨rg, 0, none⟩ := by simp at hsl; exact hsl.1
      have ck : wr.cell? ⟨rg, k, none⟩ = some (.int .i64 (x.ws.getD k 0)) := by
        have := HWT.out
        rw [HWV.out] at this
        rw [this.cellAt k (by omega)]
        simp [List.getD, hlt]
      have hbd := wks_bound HB.out (p := (d.ms, d.xs)) x.ws k hk
      have hl5 : ((wks (d.ms, d.xs) x.ws k).1.1.length : Int) ≤ 1048576 := by have h3 := hbd.2.2.1; have h4 := HN.out; simp only at h3; omega
      have hm : (wks (d.ms, d.xs) x.ws k).2 ≤ k := hbd.2.2.2
      have HW := Lib.hid (dwake_any HKD.out (HT.out.wks x.ws k hk) hbd.1 (by have := HB2.out; omega) hl5 (x.ws.getD k 0))
      have HXX : Hid (∀ w, (∃ v', Dm R W0 w a cs st { d with ms := (wk (wks (d.ms, d.xs) x.ws k).1 (x.ws.getD k 0)).1, tv := v', xs := (wk (wks (d.ms, d.xs) x.ws k).1 (x.ws.getD k 0)).2 }) → ∃ v', Dm R W0 w a cs st { d with ms := (wks (d.ms, d.xs) x.ws (k + 1)).1.1, tv := v', xs := (wks (d.ms, d.xs) x.ws (k + 1)).1.2 }) := Lib.hid fun w hh => by rw [wks_next hlt]; exact hh
      have HM : Hid ((wks (d.ms, d.xs) x.ws (k + 1)).2 = (wks (d.ms, d.xs) x.ws k).2 + woke (wks (d.ms, d.xs) x.ws k).1 (x.ws.getD k 0)) := Lib.hid (by rw [wks_next hlt])
      simp only at HW
      clear hsl hbd hl5
      generalize (wks (d.ms, d.xs) x.ws k).2 = m at *
      generalize hdd : woke (wks (d.ms, d.xs) x.ws k).1 (x.ws.getD k 0) = dd at *
      generalize x.ws.getD k 0 = z at *
      go_wp2_with fail
      refine HW.out.mono ?_
      rintro e w2 ⟨hh, ⟨rfl, hd⟩ | ⟨rfl, hd⟩ | ⟨n, hne, rfl, hd⟩⟩
      · have H2 := Lib.hid (HXX.out _ hh)
        have hd1 : dd = 1 := hd
        clear hh
        go_wp2
        exact ⟨⟨k + 1, by omega, by rw [HM.out, hd1]; go_num, by go_num, H2⟩, by simp [intOf]; omega⟩
      · have H2 := Lib.hid (HXX.out _ hh)
        have hd1 : dd = 0 := hd
        clear hh
        go_wp2
        exact ⟨⟨k + 1, by omega, by rw [HM.out, hd1]; rfl, by go_num, H2⟩, by simp [intOf]; omega⟩
      · have H2 := Lib.hid (HXX.out _ hh)
        have hd1 : dd = 0 := hd
        clear hh
        go_wp2
        exact ⟨⟨k + 1, by omega, by rw [HM.out, hd1]; rfl, by go_num, H2⟩, by simp [intOf]; omega⟩
    · obtain rfl : k = x.ws.length := by omega
      have hrd := HKD.out.rd' HX.out HV.out
      have k4 := hrd.k4
      have kf := hrd.f (i * 9 + 8)
      have r8 := hrd.r8
      simp only at k4
      rw [HWV.out] at r8
      have HE := Lib.hid (HKD.out.wapp (w := wr) HX.out HV.out (v' := .slice none 0 0) (ws' := []) (World.ownsRow_nil _ _ _ _) (Frm.refl _ _) (.inr (by simp [Value.ownBlock])))
      clear hrd
      go_wp2
      go_ret2
      exact ⟨rfl, v, HE.out⟩
end
end Go.Proofs.YtdfcfdcekdmcmaaGreat
namespace Go.Proofs.YtdfcfdcekdmcmaaGreat
open Go.RowKit
set_option linter.unusedVariables false
set_option linter.unusedSimpArgs false
section
variable {R : Rest} {W0 W w : World} {a : Nat} {cs : List Int} {st : Int} {d : Dw} {i : Nat} {x : Dr}
theorem Dm.tabNew (h : Dm R W0 W a cs st d) {xs' : List Ac} (ht : RtStep W w d.tb d.v1 d.v2 d.v3 xs') : ∃ v1' v2' v3', Dm R W0 w a cs st { d with xs := xs', v1 := v1', v2 := v2', v3 := v3' } := by
  have h1 : Mv (lay W0.heap.size ((d.head ++ d.clock) ++ (d.table ++ lays Dr.lys d.L)) R) W0 W a cs st := by
    have h1 : Mv (lay W0.heap.size d.lys R) W0 W a cs st := h
    simpa [Dw.lys, List.append_assoc] using h1
  have h2 := Mv.le h1 (lay_upg _ _ _)
  obtain ⟨v1', v2', v3', ⟨r0, r1, r2, r3, r4⟩, hf, n1, n2, n3⟩ := ht
  refine ⟨v1', v2', v3', ?_⟩
  have hR := lay_inv h2.inv
  generalize hRR : lay W0.heap.size (d.head ++ d.clock ++ lays Dr.lys d.L) R = RR at *
  have low : ∀ {l : Ly} {k : Nat}, l ∈ d.table → l.blk k → W0.heap.size ≤ k := fun hl hb => lay_low h2.inv _ hl hb
  have off : ∀ {l : Ly} {k : Nat}, RR.prot k → l ∈ d.table → ¬ l.blk k := fun hk hl => lay_off h2.inv hk _ hl
  have m0 : Ly.box d.tb #[d.v1, d.v2, d.v3] 113 ∈ d.table := by simp [Dw.table]
  have m1 : Ly.row 3 1 d.v1 d.xs.length (d.xs.map fun a => .int .i64 a.1) ∈ d.table := by simp [Dw.table]
  have m2 : Ly.row 4 1 d.v2 d.xs.length (d.xs.map fun a => .bool a.2.1) ∈ d.table := by simp [Dw.table]
  have m3 : Ly.row 3 1 d.v3 d.xs.length (d.xs.map fun a => .int .i64 a.2.2) ∈ d.table := by simp [Dw.table]
  have hsz := h2.below.size
  have hpl : ∀ k, RR.prot k → k < W.heap.size := fun k hk => h2.prot_lt (lay_prot.2 (.inl hk))
  have lo1 : ∀ g, v1'.ownBlock = some g → W0.heap.size ≤ g := fun g hg => by
    rcases n1 with n1 | n1
    · exact low m1 (show d.v1.ownBlock = some g from n1 ▸ hg)
    · have := n1 g hg
      omega
  have lo2 : ∀ g, v2'.ownBlock = some g → W0.heap.size ≤ g := fun g hg => by
    rcases n2 with n2 | n2
    · exact low m2 (show d.v2.ownBlock = some g from n2 ▸ hg)
    · have := n2 g hg
      omega
  have lo3 : ∀ g, v3'.ownBlock = some g → W0.heap.size ≤ g := fun g hg => by
    rcases n3 with n3 | n3
    · exact low m3 (show d.v3.ownBlock = some g from n3 ▸ hg)
    · have := n3 g hg
      omega
  have of1 : ∀ k, RR.prot k → v1'.ownBlock ≠ some k := fun k hk e => by
    rcases n1 with n1 | n1
    · exact off hk m1 (show d.v1.ownBlock = some k from n1 ▸ e)
    · have := n1 k e
      have := hpl k hk
      omega
  have of2 : ∀ k, RR.prot k → v2'.ownBlock ≠ some k := fun k hk e => by
    rcases n2 with n2 | n2
    · exact off hk m2 (show d.v2.ownBlock = some k from n2 ▸ e)
    · have := n2 k e
      have := hpl k hk
      omega
  have of3 : ∀ k, RR.prot k → v3'.ownBlock ≠ some k := fun k hk e => by
    rcases n3 with n3 | n3
    · exact off hk m3 (show d.v3.ownBlock = some k from n3 ▸ e)
    · have := n3 k e
      have := hpl k hk
      omega
  have pp : ∀ {v v' : Value} {l : Ly} {k : Nat}, (v'.ownBlock = v.ownBlock ∨ ∀ g, v'.ownBlock = some g → W.heap.size ≤ g) → l ∈ d.table → (v.ownBlock = some k → l.blk k) → v'.ownBlock = some k → k < w.heap.size → (lay W0.heap.size d.table RR).prot k ∨ (W.heap.size ≤ k ∧ k < w.heap.size) := fun hn hl hb hk hlt => by
    rcases hn with hn | hn
    · exact .inl (lay_prot.2 (.inr ⟨_, hl, hb (hn ▸ hk)⟩))
    · exact .inr ⟨hn _ hk, hlt⟩
  have h3 : Mv (lay W0.heap.size ({ d with xs := xs', v1 := v1', v2 := v2', v3 := v3' } : Dw).table RR) W0 w a cs st := by
    refine h2.turn2 hf (fun k hk => ?_) (fun k hk => ?_) ⟨⟨⟨⟨RR.ok _ _ hR fun k hk => hf.block k (hpl k hk) fun e => ?_, row_up r3 lo3, of3⟩, row_up r2 lo2, fun k hk => ?_⟩, row_up r1 lo1, fun k hk => ?_⟩, r0, fun e => ?_, low m0 rfl⟩
    · rcases hk with rfl | hk | hk | hk
      · exact ⟨low m0 rfl, lay_prot.2 (.inr ⟨_, m0, rfl⟩)⟩
      · exact ⟨low m1 hk, lay_prot.2 (.inr ⟨_, m1, hk⟩)⟩
      · exact ⟨low m2 hk, lay_prot.2 (.inr ⟨_, m2, hk⟩)⟩
      · exact ⟨low m3 hk, lay_prot.2 (.inr ⟨_, m3, hk⟩)⟩
    · rcases hk with (((hk | hk) | hk) | hk) | rfl
      · exact .inl (lay_prot.2 (.inl hk))
      · exact pp n3 m3 (fun e => e) hk (r3.lt k hk).2
      · exact pp n2 m2 (fun e => e) hk (r2.lt k hk).2
      · exact pp n1 m1 (fun e => e) hk (r1.lt k hk).2
      · exact .inl (lay_prot.2 (.inr ⟨_, m0, rfl⟩))
    · rcases e with rfl | e | e | e
      · exact off hk m0 rfl
      · exact off hk m1 e
      · exact off hk m2 e
      · exact off hk m3 e
    · rcases hk with hk | hk
      · exact of2 k hk
      · exact fun e => rows_apart r3 r2 (by decide) hk e
    · rcases hk with (hk | hk) | hk
      · exact of1 k hk
      · exact fun e => r4 k e hk
      · exact fun e => rows_apart r2 r1 (by decide) hk e
    · rcases e with ((e | e) | e) | e
      · exact off e m0 rfl
      · exact row_ne r3 r0 (by decide) e
      · exact row_ne r2 r0 (by decide) e
      · exact row_ne r1 r0 (by decide) e
  rw [← hRR] at h3
  have h4 := Mv.le h3 (lay_downg _ _ _)
  show Mv (lay W0.heap.size ({ d with xs := xs', v1 := v1', v2 := v2', v3 := v3' } : Dw).lys R) W0 w a cs st
  have e : ({ d with xs := xs', v1 := v1', v2 := v2', v3 := v3' } : Dw).lys = (d.head ++ d.clock) ++ (({ d with xs := xs', v1 := v1', v2 := v2', v3 := v3' } : Dw).table ++ lays Dr.lys d.L) := by simp [Dw.lys, Dw.head, Dw.clock, Dw.cells, List.append_assoc]
  rw [e]
  exact h4
theorem dadd_some (h : Dm R W0 W a cs st d) (hl : (d.xs.length : Int) < 64) :
    Calls Tryz.prog 56 #[.pointer (some ⟨d.tb, 0, none⟩)] W fun e w' => e = .returned (.int .i64 0) ∧ ∃ v1' v2' v3', Dm R W0 w' a cs st { d with xs := d.xs ++ [(0, false, 0)], v1 := v1', v2 := v2', v3 := v3' } :=
  (r5add_some W d.tb d.v1 d.v2 d.v3 d.xs h.rt hl).mono fun e w' ⟨he, hr⟩ => ⟨he, h.tabNew hr⟩
theorem dadd_many (h : Dm R W0 W a cs st d) (hl : 64 ≤ (d.xs.length : Int)) :
    Calls Tryz.prog 56 #[.pointer (some ⟨d.tb, 0, none⟩)] W fun e w' => e = .returned (.int .i64 8) ∧ W = w' := r5add_many W d.tb d.v1 d.v2 d.v3 d.xs h.rt hl
theorem dpark_range (h : Dm R W0 W a cs st d) (who t : Int) (ht : t < 0 ∨ 1099511627776 < t) :
    Calls Tryz.prog 59 #[.pointer (some ⟨d.wb, 0, none⟩), .int .i64 who, .int .i64 t] W fun e w' => e = .returned (.tuple #[.bool false, .int .i64 5]) ∧ W = w' := by
  clear h
  by_cases h1 : t < 0
  · have e1 : decide (t < 0) = true := decide_eq_true h1
    go_enter Tryz.func59, Tryz.ntmps59
    go_wp2
    go_ret2
    exact ⟨rfl, rfl⟩
  · have e1 : decide (t < 0) = false := decide_eq_false h1
    have e2 : decide (1099511627776 < t) = true := decide_eq_true (by omega)
    go_enter Tryz.func59, Tryz.ntmps59
    go_wp2
    go_ret2
    exact ⟨rfl, rfl⟩
theorem dpark_bad (h : Dm R W0 W a cs st d) (who n t : Int) (hw : Wr d.xs who n) (hn : n ≠ 0) (h0 : 0 ≤ t) (h1 : t ≤ 1099511627776) :
    Calls Tryz.prog 59 #[.pointer (some ⟨d.wb, 0, none⟩), .int .i64 who, .int .i64 t] W fun e w' => e = .returned (.tuple #[.bool false, .int .i64 n]) ∧ W = w' := by
  have HW := Lib.hid (dwrong_bad h who n hw)
  have e1 : decide (t < 0) = false := decide_eq_false (by omega)
  have e2 : decide (1099511627776 < t) = false := decide_eq_false (by omega)
  have d1 : (n != 0) = true := by simp [hn]
  clear h hw hn
  go_enter Tryz.func59, Tryz.ntmps59
  go_wp2_with (go_at_call 104; refine HW.out.mono ?_; rintro e w1 ⟨rfl, rfl⟩)
  go_ret2
  exact ⟨rfl, rfl⟩
theorem dpark_late (h : Dm R W0 W a cs st d) {j : Nat} {y : Ac} (hy : d.xs[j]? = some y) (hs : y.1 ≠ 2) (t : Int) (h0 : 1 ≤ t) (h1 : t ≤ 1099511627776) (h2 : t ≤ d.now) :
    Calls Tryz.prog 59 #[.pointer (some ⟨d.wb, 0, none⟩), .int .i64 j, .int .i64 t] W fun e w' => e = .returned (.tuple #[.bool false, .int .i64 0]) ∧ W = w' := by
  have HW := Lib.hid (dwrong_ok h hy hs)
  have k0 : W.cell? ⟨d.wb, 0, none⟩ = some (.int .i64 d.now) := (obj_cell h.box 0).trans rfl
  have e1 : decide (t < 0) = false := decide_eq_false (by omega)
  have e2 : decide (1099511627776 < t) = false := decide_eq_false (by omega)
  have e3 : (t != 0) = true := by simp; omega
  have e4 : decide (t ≤ d.now) = true := decide_eq_true h2
  clear h hy hs
  go_enter Tryz.func59, Tryz.ntmps59
  go_wp2_with (go_at_call 104; refine HW.out.mono ?_; rintro e w1 ⟨rfl, rfl⟩)
  go_ret2
  exact ⟨rfl, rfl⟩
set_option maxHeartbeats 1000000 in
theorem dpark_plain (h : Dm R W0 W a cs st d) {j : Nat} {y : Ac} (hy : d.xs[j]? = some y) (hs : y.1 ≠ 2) (t : Int) (h0 : 0 ≤ t) (h1 : t ≤ 1099511627776) (h2 : t = 0 ∨ (d.now < t ∧ y.2.1 = true)) :
    Calls Tryz.prog 59 #[.pointer (some ⟨d.wb, 0, none⟩), .int .i64 j, .int .i64 t] W fun e w' => e = .returned (.tuple #[.bool (!y.2.1), .int .i64 0]) ∧ Dm R W0 w' a cs st { d with xs := d.xs.set j (parkS y) } := by
  have HW := Lib.hid (dwrong_ok h hy hs)
  have HP := Lib.hid (r5park_ok W d.tb d.v1 d.v2 d.v3 d.xs j y h.rt hy hs)
  have k0 : W.cell? ⟨d.wb, 0, none⟩ = some (.int .i64 d.now) := (obj_cell h.box 0).trans rfl
  have k2 : W.cell? ⟨d.wb, 2, none⟩ = some (.pointer (some ⟨d.tb, 0, none⟩)) := (obj_cell h.box 2).trans rfl
  have e1 : decide (t < 0) = false := decide_eq_false (by omega)
  have e2 : decide (1099511627776 < t) = false := decide_eq_false (by omega)
  have HH := Lib.hid h
  by_cases hz : t = 0
  · subst hz
    clear h hy hs
    cases hb : y.2.1 with
    | false =>
      rw [hb] at HP
      go_enter Tryz.func59, Tryz.ntmps59
      go_wp2_with (first
        | (go_at_call 104; refine HW.out.mono ?_; rintro e w1 ⟨rfl, rfl⟩)
        | (go_at_call 105; refine HP.out.mono ?_; rintro e w1 ⟨rfl, hr⟩; have HE := Lib.hid (HH.out.tab hr); clear hr k0 k2))
      go_ret2
      exact ⟨rfl, HE.out⟩
    | true =>
      rw [hb] at HP
      go_enter Tryz.func59, Tryz.ntmps59
      go_wp2_with (first
        | (go_at_call 104; refine HW.out.mono ?_; rintro e w1 ⟨rfl, rfl⟩)
        | (go_at_call 105; refine HP.out.mono ?_; rintro e w1 ⟨rfl, hr⟩; have HE := Lib.hid (HH.out.tab hr); clear hr k0 k2))
      go_ret2
      exact ⟨rfl, HE.out⟩
  · obtain ⟨h3, h4⟩ : d.now < t ∧ y.2.1 = true := by
      rcases h2 with h2 | h2
      · exact absurd h2 hz
      · exact h2
    have e3 : (t != 0) = true := by simp; omega
    have e4 : decide (t ≤ d.now) = false := decide_eq_false (by omega)
    rw [h4] at HP ⊢
    clear h hy hs
    go_enter Tryz.func59, Tryz.ntmps59
    go_wp2_with (first
      | (go_at_call 104; refine HW.out.mono ?_; rintro e w1 ⟨rfl, rfl⟩)
      | (go_at_call 105; refine HP.out.mono ?_; rintro e w1 ⟨rfl, hr⟩; have HE := Lib.hid (HH.out.tab hr); clear hr k0 k2))
    go_ret2
    exact ⟨rfl, HE.out⟩
set_option maxHeartbeats 4000000 in
set_option maxRecDepth 100000 in
theorem dpark_set (h : Dm R W0 W a cs st d) {j : Nat} {y1 y3 : Int} (hy : d.xs[j]? = some (y1, false, y3)) (hs : y1 ≠ 2) (t : Int) (h1 : 1 ≤ t) (h2 : t ≤ 1099511627776) (h3 : d.now < t) (hj : (j : Int) < 64) (hms : (d.ms.length : Int) ≤ 1048576) (h64 : ((dropD d.ms j).length : Int) < 64) :
    Calls Tryz.prog 59 #[.pointer (some ⟨d.wb, 0, none⟩), .int .i64 j, .int .i64 t] W fun e w' => e = .returned (.tuple #[.bool true, .int .i64 0]) ∧ ∃ v, Dm R W0 w' a cs st { d with ms := dropD d.ms j ++ [(t, (j : Int))], tv := v, xs := d.xs.set j (1, false, y3) } := by
  have HW := Lib.hid (dwrong_ok h hy hs)
  have HP := Lib.hid (r5park_ok W d.tb d.v1 d.v2 d.v3 d.xs j (y1, false, y3) h.rt hy hs)
  have k0 : W.cell? ⟨d.wb, 0, none⟩ = some (.int .i64 d.now) := (obj_cell h.box 0).trans rfl
  have k2 : W.cell? ⟨d.wb, 2, none⟩ = some (.pointer (some ⟨d.tb, 0, none⟩)) := (obj_cell h.box 2).trans rfl
  have e1 : decide (t < 0) = false := decide_eq_false (by omega)
  have e2 : decide (1099511627776 < t) = false := decide_eq_false (by omega)
  have e3 : (t != 0) = true := by simp; omega
  have e4 : decide (t ≤ d.now) = false := decide_eq_false (by omega)
  have HH := Lib.hid h
  obtain ⟨p, cap, hv, -⟩ := row_form h.rk
  have HV := Lib.hid hv
  clear h hy hs hv
  go_enter Tryz.func59, Tryz.ntmps59
  go_upto_region 9 with (first
    | (go_at_call 104; refine HW.out.mono ?_; rintro e w1 ⟨rfl, rfl⟩)
    | (go_at_call 105; refine HP.out.mono ?_; rintro e w1 ⟨rfl, hr⟩; have HE := Lib.hid (HH.out.tab hr); clear hr k0 k2))
  clear HW HP
  have hrk := HE.out.rk
  simp only at hrk
  rw [HV.out] at hrk
  have HD := Lib.hid (rdrop_any w1 p cap d.ms d.now j hrk hms)
  have k0 : w1.cell? ⟨d.wb, 0, none⟩ = some (.int .i64 d.now) := (obj_cell HE.out.box 0).trans rfl
  have k1 : w1.cell? ⟨d.wb, 1, none⟩ = some (.slice p d.ms.length cap) := (obj_cell HE.out.box 1).trans (by simp [Dw.cells, HV.out])
  clear hrk
  go_upto_region 11 with (go_at_call 106; refine HD.out.mono ?_; rintro e w2 ⟨v', rfl, hnr⟩; obtain ⟨pn, cn, rfl, -⟩ := row_form hnr.1; have HNR := Lib.hid hnr; have j0 := keepc hnr.2.2 k0; have j1 := keepc hnr.2.2 k1; have f0 := obj_free ((HE.out.keep hnr.2.2).box) 0; have f1 := obj_free ((HE.out.keep hnr.2.2).box) 1; clear hnr k0 k1)
  have HF := Lib.hid (HE.out.clk HNR.out d.now)
  generalize World.setCell (World.setCell _ _ _) _ _ = w3 at *
  clear j0 j1 f0 f1 HNR HD
  simp only at HF
  have HS := Lib.hid (rset_any w3 (.slice pn (dropD d.ms j).length cn) (dropD d.ms j) d.now (t, (j : Int)) HF.out.rk (by simp only; omega) (by simp only; omega) (by simp only; omega) (by simp only; omega) (by omega))
  have k0 : w3.cell? ⟨d.wb, 0, none⟩ = some (.int .i64 d.now) := (obj_cell HF.out.box 0).trans rfl
  have k1 : w3.cell? ⟨d.wb, 1, none⟩ = some (.slice pn (dropD d.ms j).length cn) := (obj_cell HF.out.box 1).trans rfl
  have HQ : Hid (∀ (w4 : World) (v : Value), NewRk w3 w4 v (dropD d.ms j ++ [(t, (j : Int))]) → Dm R W0 ((w4.setCell ⟨d.wb, 0, none⟩ (.int .i64 d.now)).setCell ⟨d.wb, 1, none⟩ v) a cs st { d with ms := dropD d.ms j ++ [(t, (j : Int))], tv := v, xs := d.xs.set j (1, false, y3) }) := Lib.hid fun w4 v hnr => HF.out.clk hnr d.now
  simp only at HS
  change (w3.cell? ⟨d.wb, 1, none⟩ = some (.slice pn (keptL d.ms (fun t => t.2 == (j : Int)) d.ms.length).length cn)) at k1
  change Hid (Calls Tryz.prog 107 #[.agg #[.int .i64 d.now, .slice pn (keptL d.ms (fun t => t.2 == (j : Int)) d.ms.length).length cn], .int .i64 t, .int .i64 j] w3 fun e w' => RSetOk w3 w' d.now (dropD d.ms j ++ [(t, (j : Int))]) e) at HS
  generalize (keptL d.ms (fun t => t.2 == (j : Int)) d.ms.length).length = ln at *
  go_upto_region 12 with (go_at_call 107; refine HS.out.mono ?_; rintro e w4 ⟨v', rfl, hnr⟩; obtain ⟨pm, cm, rfl, -⟩ := row_form hnr.1; have HNR := Lib.hid hnr; have j0 := keepc hnr.2.2 k0; have j1 := keepc hnr.2.2 k1; have f0 := obj_free ((HF.out.keep hnr.2.2).box) 0; have f1 := obj_free ((HF.out.keep hnr.2.2).box) 1; clear hnr k0 k1)
  have HG := Lib.hid (HQ.out _ _ HNR.out)
  rw [show (dropD d.ms (j : Int) ++ [(t, (j : Int))]).length = (dropD d.ms (j : Int)).length + 1 by simp] at HG
  generalize World.setCell (World.setCell _ _ _) _ _ = w5 at *
  clear j0 j1 f0 f1 HNR HS HQ
  go_wp2
  go_ret2
  exact ⟨rfl, _, HG.out⟩
theorem dtick_bad (h : Dm R W0 W a cs st d) (t n : Int) (h0 : 0 ≤ d.now) (hm : d.now ≤ 1099511627776) (ht : (t < 1 ∧ n = 1) ∨ (1 ≤ t ∧ 1099511627776 - d.now < t ∧ n = 5)) :
    Calls Tryz.prog 61 #[.pointer (some ⟨d.wb, 0, none⟩), .int .i64 t] W fun e w' => e = .returned (.tuple #[.slice none 0 0, .int .i64 n]) ∧ Below W.heap.size W w' := by
  obtain ⟨p, cap, hv, -⟩ := row_form h.rk
  have HT : Hid (Calls Tryz.prog 109 #[.agg #[.int .i64 d.now, .slice p d.ms.length cap], .int .i64 t] W fun e w' => Refused3 W w' d.now (.slice p d.ms.length cap) n e) := by
    rcases ht with ⟨h1, rfl⟩ | ⟨h1, h2, rfl⟩
    · exact Lib.hid (rtick_low W d.now t p _ cap h1)
    · exact Lib.hid (rtick_over W d.now t p _ cap h0 hm (by omega) h2)
  have dn : (n != 0) = true := by
    rcases ht with ⟨_, rfl⟩ | ⟨_, _, rfl⟩ <;> rfl
  have k0 : W.cell? ⟨d.wb, 0, none⟩ = some (.int .i64 d.now) := (obj_cell h.box 0).trans rfl
  have k1 : W.cell? ⟨d.wb, 1, none⟩ = some (.slice p d.ms.length cap) := (obj_cell h.box 1).trans (by simp [Dw.cells, hv])
  clear h ht hv
  go_enter Tryz.func61, Tryz.ntmps61
  go_wp2_with (go_at_call 109; refine HT.out.mono ?_; rintro e w1 ⟨rfl, hb⟩; have HB := Lib.hid hb; clear hb)
  go_ret2
  refine ⟨rfl, ?_⟩
  exact balloc HB.out _
end
end Go.Proofs.YtdfcfdcekdmcmaaGreat
