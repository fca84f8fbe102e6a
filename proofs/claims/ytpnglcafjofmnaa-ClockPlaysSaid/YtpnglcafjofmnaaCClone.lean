/-
  Clone of package clock by contract. Conditions: the clock's row is its own; at most 2^20 timers.
-/
import Derived.Test.YtpnglcafjofmnaaSet
import Derived.Deep.RegionHeld3
namespace Go.Proofs.Ytpnglcafjofmnaa
open Go.RowKit

def TFresh (W w' : World) (n : Nat) (ys : List Value) (e : Ending) : Prop :=
  ∃ v', e = .returned v' ∧ w'.ownsRow 0 117 2 v' n ys ∧ Below W.heap.size W w' ∧ ∀ g, v'.ownBlock = some g → W.heap.size ≤ g

theorem tfresh_end {W w' : World} {v' : Value} {n : Nat} {ys : List Value} (T : TypeId) (hown : w'.ownsRow 0 117 2 v' n ys) (hf : Frm (fun k => (Value.slice (some ⟨W.heap.size, 0, none⟩) 0 0).ownBlock = some k) (W.alloc (.cells #[] T)) w')
    (hv : v'.ownBlock = (Value.slice (some ⟨W.heap.size, 0, none⟩) 0 0).ownBlock ∨ ∀ g, v'.ownBlock = some g → (W.alloc (.cells #[] T)).heap.size ≤ g) : TFresh W w' n ys (.returned v') := by
  refine ⟨v', rfl, hown, ?_, ?_⟩
  · have h : Frm (fun k => W.heap.size ≤ k) W w' := ((Frm.refl _ W).alloc _).then hf fun k hk he => by simp [Value.ownBlock] at he; omega
    exact h.below (Nat.le_refl _) fun _ h => h
  · intro g hg
    rcases hv with hv | hv
    · rw [hv] at hg; simp [Value.ownBlock] at hg; omega
    · have := hv g hg; simp at this; omega

theorem flat_cells (ts : List (Int × Int)) : ∀ u ∈ flat ts, u.oneCell' = true := by
  intro u hu
  unfold flat at hu
  rw [List.mem_flatMap] at hu
  obtain ⟨t, _, h⟩ := hu
  simp at h
  rcases h with rfl | rfl <;> rfl

set_option maxRecDepth 100000 in
theorem tclone_any (W : World) (v : Value) (ts : List (Int × Int)) (ho : W.ownsRow 0 117 2 v ts.length (flat ts)) (hl : (ts.length : Int) ≤ 1048576) :
    Calls Try.prog 65 #[v] W fun e w' => TFresh W w' ts.length (flat ts) e := by
  obtain ⟨i1, hi1, hy0, hy1, hy2⟩ := info_parts infoTimer3
  have HO := Lib.hid ho
  have HB := Lib.hid hl
  rcases ho.2 with ⟨rfl, h0⟩ | ⟨g, cap, cur, rfl, _, hg, hnc, hcm, hcs, htake⟩
  · obtain rfl : ts = [] := List.eq_nil_of_length_eq_zero h0
    clear ho hl
    have keq := fun w : World => Lib.run_eql_slice_nil (P := Try.prog) w 49 117 none 0 0 0 0 Try.underlying49
    go_enter Try.func65, Try.ntmps65
    go_wp2
    go_ret
    exact ⟨_, rfl, World.ownsRow_nil _ _ _ _, Below.refl _ _, by simp [Value.ownBlock]⟩
  · have hnews : ∀ w' : World, Frm (fun _ => False) W w' → ∀ j u, (flat ts)[j]? = some u → w'.cell? ((⟨g, 0, none⟩ : Addr).add j) = some u := fun w' hf => (hf.row ho fun _ _ => id).cells (g := g) rfl
    have HN := Lib.hid hnews
    have HM := Lib.hid ho.1
    clear ho hl hg hnc hcm hcs htake hnews
    have keq := fun w : World => Lib.run_eql_slice_nil (P := Try.prog) w 49 117 (some ⟨g, 0, none⟩) ts.length cap 0 0 Try.underlying49
    go_enter Try.func65, Try.ntmps65
    go_wp2_with (at_builtin; refine wpList_append_row rfl _ _ 49 rfl 117 i1 (.agg #[.int .i64 0, .int .i64 0]) 2 16 Try.underlying49 hi1 hy0 hy1 hy2 rfl (by decide) (.slice (some ⟨W.heap.size, 0, none⟩) 0 0) 0 [] rfl (World.ownsRow_lit W #[] 0 (Nat.zero_le _) (Nat.zero_le _) rfl) ⟨g, 0, none⟩ ts.length cap (flat ts) rfl HM.out (HN.out _ ((Frm.refl _ _).alloc _)) (flat_cells ts) (by have := HB.out; unfold maxLen; omega) (by have := HB.out; omega) ?_; intro v' w3 hown3 hf3 hv3; simp only [Nat.zero_add, List.nil_append] at hown3; obtain ⟨p', c', rfl, hc'⟩ := row_form hown3; have HE := Lib.hid (tfresh_end _ hown3 hf3 hv3); clear hown3 hf3 hv3 hc')
    go_ret
    exact HE.out

/-- A clone: the same, new. -/
def CCloned (W w' : World) (ts : List (Int × Int)) (now : Int) (e : Ending) : Prop :=
  ∃ b v', e = .returned (.pointer (some ⟨b, 0, none⟩)) ∧ Ck w' b v' ts now ∧ Below W.heap.size W w' ∧ W.heap.size ≤ b ∧ ∀ g, v'.ownBlock = some g → W.heap.size ≤ g

theorem cclone_end {W w2 : World} {v' : Value} {ts : List (Int × Int)} {now : Int} (hb : Below W.heap.size W w2) (ho : w2.ownsRow 0 117 2 v' ts.length (flat ts)) (hg : ∀ g, v'.ownBlock = some g → W.heap.size ≤ g) :
    CCloned W (w2.alloc (.cells #[.int .i64 now, v'] 51)) ts now (.returned (.pointer (some ⟨w2.heap.size, 0, none⟩))) :=
  ⟨_, v', rfl, ⟨obj_new _ _, ho.alloc _⟩, balloc hb _, hb.size, hg⟩
theorem ccl_row {W a : World} {b n : Nat} {v x u : Value} {ys : List Value} (h : a.cell? ⟨b, 0, none⟩ = some v ∧ a.cell? ⟨b, 1, none⟩ = some x ∧ Below W.heap.size W a) (ho : W.ownsRow 0 117 2 u n ys) : a.ownsRow 0 117 2 u n ys :=
  (Frm.of_below h.2.2 fun _ => False).row ho fun _ _ => id

set_option maxRecDepth 100000 in
set_option maxHeartbeats 1000000 in
theorem cclone_some (W : World) (b : Nat) (v : Value) (ts : List (Int × Int)) (now : Int) (h : Ck W b v ts now) (hl : (ts.length : Int) ≤ 1048576) :
    Calls Try.prog 33 #[.pointer (some ⟨b, 0, none⟩)] W fun e w' => CCloned W w' ts now e := by
  have c0 := h.c0
  have c1 := h.c1
  have HR := Lib.hid h.2
  have HB := Lib.hid hl
  obtain ⟨p, c, rfl, hc⟩ := row_form h.2
  clear h hl hc
  go_enter Try.func33, Try.ntmps33
  go_wp2_with fail
  go_region_held3 (fun w' => w'.cell? ⟨b, 0, none⟩ = some (.int .i64 now) ∧ w'.cell? ⟨b, 1, none⟩ = some (.slice p ts.length c) ∧ Below W.heap.size W w') (first
      | exact ⟨by assumption, by assumption, by assumption⟩
      | exact ⟨by go_simp, by go_simp, Below.drew (by assumption)⟩
      | exact ⟨by go_simp, by go_simp, (Below.refl _ _).drew⟩
      | exact cl_alloc _ (by assumption)
      | exact cl_keep (by assumption) (by assumption)) (first
      | (go_at_call 65; refine (tclone_any _ _ ts (ccl_row (by assumption) HR.out) HB.out).mono ?_; rintro e w3 ⟨v', rfl, ho3, hb3, hg3⟩; obtain ⟨p', c', rfl, hc'⟩ := row_form ho3; have HO3 := Lib.hid ho3; have HG3 := Lib.hid hg3; clear ho3 hg3 hc'))
  go_wp2
  go_ret
  exact cclone_end (bthen (Below.drew (Below.refl _ _)) hb3) HO3.out HG3.out

/-- Behind a Tick of a clock with one timer or none: in plain parts. -/
def Ticked (W w' : World) (b : Nat) (v : Value) (ts : List (Int × Int)) (now : Int) : Prop :=
  ∃ v', Ck w' b v' ts now ∧ v'.ownBlock = v.ownBlock ∧ Frm (fun k => k = b ∨ v.ownBlock = some k) W w'

theorem tick_zero (W : World) (b : Nat) (v : Value) (now d : Int) (h : Ck W b v [] now) (hd : 1 ≤ d) (h0 : 0 ≤ now) (hm : now + d ≤ 1099511627776) :
    Calls Try.prog 28 #[.pointer (some ⟨b, 0, none⟩), .int .i64 d] W fun e w' => ∃ q c, e = .returned (.tuple #[.slice q 0 c, .nilIface]) ∧ Ticked W w' b v [] (now + d) := by
  refine (tick_some W b v [] now d h (by decide) hd h0 hm).mono ?_
  rintro e w' ⟨r, v', rfl, ho, _, hk, hv, hf⟩
  obtain ⟨q, c, rfl, _⟩ := row_form ho
  exact ⟨q, c, rfl, v', hk, hv, hf⟩
theorem tick_one_no (W : World) (b : Nat) (v : Value) (t : Int × Int) (now d : Int) (h : Ck W b v [t] now) (hd : 1 ≤ d) (h0 : 0 ≤ now) (hm : now + d ≤ 1099511627776) (hno : now + d < t.1) :
    Calls Try.prog 28 #[.pointer (some ⟨b, 0, none⟩), .int .i64 d] W fun e w' => ∃ q c, e = .returned (.tuple #[.slice q 0 c, .nilIface]) ∧ Ticked W w' b v [t] (now + d) := by
  refine (tick_some W b v [t] now d h (by simp) hd h0 hm).mono ?_
  have e1 : whoL [t] (fun t => decide (t.1 ≤ now + d)) [t].length = [] := by unfold whoL; simp; omega
  have e2 : keptL [t] (fun t => decide (t.1 ≤ now + d)) [t].length = [t] := by unfold keptL; simp; omega
  rintro e w' ⟨r, v', rfl, ho, _, hk, hv, hf⟩
  rw [e1] at ho
  rw [e2] at hk
  obtain ⟨q, c, rfl, _⟩ := row_form ho
  exact ⟨q, c, rfl, v', hk, hv, hf⟩
theorem tick_one_yes (W : World) (b : Nat) (v : Value) (t : Int × Int) (now d : Int) (h : Ck W b v [t] now) (hd : 1 ≤ d) (h0 : 0 ≤ now) (hm : now + d ≤ 1099511627776) (hyes : t.1 ≤ now + d) :
    Calls Try.prog 28 #[.pointer (some ⟨b, 0, none⟩), .int .i64 d] W fun e w' => ∃ g c, e = .returned (.tuple #[.slice (some ⟨g, 0, none⟩) 1 c, .nilIface]) ∧ w'.cell? ⟨g, 0, none⟩ = some (.int .i64 t.2) ∧ Ticked W w' b v [] (now + d) := by
  refine (tick_some W b v [t] now d h (by simp) hd h0 hm).mono ?_
  have e1 : whoL [t] (fun t => decide (t.1 ≤ now + d)) [t].length = [t.2] := by unfold whoL; simp [hyes]
  have e2 : keptL [t] (fun t => decide (t.1 ≤ now + d)) [t].length = [] := by unfold keptL; simp [hyes]
  rintro e w' ⟨r, v', rfl, ho, _, hk, hv, hf⟩
  rw [e1] at ho
  rw [e2] at hk
  obtain ⟨g, c, rfl, _⟩ := row_some ho (by simp)
  exact ⟨g, c, rfl, (ho.cellAt 0 (by simp)).trans rfl, v', hk, hv, hf⟩

theorem Ticked.under {W0 W w' : World} {b : Nat} {v : Value} {ts : List (Int × Int)} {now : Int} (h : Ticked W w' b v ts now) (h0 : Below W0.heap.size W0 W) (h1 : W0.heap.size ≤ b) (h2 : ∀ g, v.ownBlock = some g → W0.heap.size ≤ g) : Below W0.heap.size W0 w' := by
  obtain ⟨_, _, _, hf⟩ := h
  refine h0.trans (hf.below h0.size ?_)
  rintro k (rfl | hk)
  · exact h1
  · exact h2 k hk

/-- The statements' own example. -/
theorem awake4 (W : World) : Calls Try.prog 22 #[] W fun e w' => e = .returned (.bool true) ∧ Below W.heap.size W w' := by
  go_enter Try.func22, Try.ntmps22
  go_wp2_with fail
  refine (set_empty _ W.heap.size (3, 5) ⟨obj_new W _, World.ownsRow_nil _ _ _ _⟩ (by decide) (by decide) (by decide) (by decide)).mono ?_
  rintro e w2 ⟨v2, rfl, hk2, hg2, hf2⟩
  have hb2 : Below W.heap.size W w2 := (balloc (Below.refl _ _) _).trans (hf2.below (by simp) fun k h => by omega)
  have ho2 : ∀ g, v2.ownBlock = some g → W.heap.size ≤ g := fun g hg => by have := hg2 g hg; simp at this; omega
  have HB2 := Lib.hid hb2
  have HO2 := Lib.hid ho2
  clear hg2 hf2 hb2 ho2
  go_wp2_with fail
  refine (tick_one_no w2 W.heap.size v2 (3, 5) 0 2 hk2 (by decide) (by decide) (by decide) (by decide)).mono ?_
  rintro e w3 ⟨q3, c3, rfl, ht3⟩
  have hb3 := ht3.under HB2.out (Nat.le_refl _) HO2.out
  obtain ⟨v3, hk3, hv3, _⟩ := ht3
  have ho3 : ∀ g, v3.ownBlock = some g → W.heap.size ≤ g := fun g hg => HO2.out g (hv3 ▸ hg)
  have HB3 := Lib.hid hb3
  have HO3 := Lib.hid ho3
  clear hb3 ho3 hk2 hv3
  go_wp2_with fail
  refine (tick_one_yes w3 W.heap.size v3 (3, 5) 2 1 hk3 (by decide) (by decide) (by decide) (by decide)).mono ?_
  rintro e w4 ⟨g4, c4, rfl, hc4, ht4⟩
  have HB4 := Lib.hid (ht4.under HB3.out (Nat.le_refl _) HO3.out)
  clear ht4 hk3
  go_wp2
  go_ret
  exact ⟨rfl, HB4.out⟩
end Go.Proofs.Ytpnglcafjofmnaa
