/-
  A ring of package slots: its row of events, two cells each; what is refused, where an index's slot lies, New, Size, Clone: by contract. Conditions: the ring is one that New made.
  Put, Get, Size, New of package slots, by contract. Conditions: the ring is one that New made.
  Get, Size, New, Clone of package slots, by contract. Conditions: the ring is one that New made.
  New, Size, Clone of package slots, by contract. Conditions: the ring is one that New made.
  A new room, by contract. No condition.
  A new ring from which many claim, the first one of a room; the statements' own example of rooms; by contract. Conditions: the room is new.
  The first ring of a new room, and the statements' own example of rooms, by contract. Conditions: the room is new.
  The statements' own example of rooms, by contract. No condition.
-/
import Derived.Test.YtdfcfdcekdmcmaaGreatPk02
import Derived.Test.YtdfcfdcekdmcmaaGreatPk07
import Derived.Test.YtdfcfdcekdmcmaaGreatPk16
import Derived.Test.YtdfcfdcekdmcmaaGreatPk19
import Derived.OwnWalk
import Derived.Outline
import Derived.Deep.RegionHeld3
set_option linter.unusedVariables false
set_option linter.unusedSimpArgs false
namespace Go.Proofs.YtdfcfdcekdmcmaaGreat
open Go.RowKit
abbrev Ev := Int × Int
def flat2 (xs : List Ev) : List Value := xs.flatMap fun a => [.int .i64 a.1, .int .i64 a.2]
theorem flat2_len (xs : List Ev) : (flat2 xs).length = xs.length * 2 := by
  unfold flat2
  induction xs with
  | nil => rfl
  | cons t l ih => simp only [List.flatMap_cons, List.length_append, ih, List.length_cons, List.length_nil]; omega
theorem flat2_cons (a : Ev) (l : List Ev) : flat2 (a :: l) = .int .i64 a.1 :: .int .i64 a.2 :: flat2 l := rfl
theorem flat2_replicate (n : Nat) : flat2 (List.replicate n (0, 0)) = List.replicate (n * 2) (.int .i64 0) := by
  induction n with
  | zero => rfl
  | succ n ih => rw [List.replicate_succ, flat2_cons, ih, Nat.succ_mul, ← List.replicate_succ, ← List.replicate_succ]
def Rg (W : World) (b g c k : Nat) (xs : List Ev) : Prop :=
  W.heap[b]? = some (.cells #[.int .u8 k, .slice (some ⟨g, 0, none⟩) xs.length c] 185 (0, 0)) ∧ W.ownsRow 0 86 2 (.slice (some ⟨g, 0, none⟩) xs.length c) xs.length (flat2 xs) ∧ (xs.length : Int) = two k ∧ k ≤ 20
theorem Rg.c0 {W : World} {b g c k : Nat} {xs : List Ev} (h : Rg W b g c k xs) : W.cell? ⟨b, 0, none⟩ = some (.int .u8 k) := (obj_cell h.1 0).trans rfl
theorem Rg.lt {W : World} {b g c k : Nat} {xs : List Ev} (h : Rg W b g c k xs) : b < W.heap.size ∧ g < W.heap.size := ⟨lt_of_block h.1, row_lt h.2.1 rfl⟩
theorem Rg.ne {W : World} {b g c k : Nat} {xs : List Ev} (h : Rg W b g c k xs) : b ≠ g := fun e => row_ne h.2.1 h.1 (by decide) (by simp [Value.ownBlock, e])
theorem Rg.keep {S : Nat → Prop} {W w' : World} {b g c k : Nat} {xs : List Ev} (h : Rg W b g c k xs) (hf : Frm S W w') (hb : ¬ S b) (hg : ¬ S g) : Rg w' b g c k xs :=
  ⟨hf.obj h.1 hb, hf.row h.2.1 (fun g' hg' => by simp [Value.ownBlock] at hg'; subst hg'; exact hg), h.2.2⟩
end Go.Proofs.YtdfcfdcekdmcmaaGreat
namespace Go.Proofs.YtdfcfdcekdmcmaaGreat
open Go.RowKit
end Go.Proofs.YtdfcfdcekdmcmaaGreat
namespace Go.Proofs.YtdfcfdcekdmcmaaGreat
open Go.RowKit
end Go.Proofs.YtdfcfdcekdmcmaaGreat
namespace Go.Proofs.YtdfcfdcekdmcmaaGreat
open Go.RowKit
theorem size_some (W : World) (b g c k : Nat) (xs : List Ev) (h : Rg W b g c k xs) :
    Calls Tryz.prog 50 #[.pointer (some ⟨b, 0, none⟩)] W fun e w' => e = .returned (.agg #[.int .u8 k]) ∧ Below W.heap.size W w' := by
  have c0 := h.c0
  have hlt := h.lt.1
  clear h
  go_enter Tryz.func50, Tryz.ntmps50
  go_wp2
  go_returns
  exact ⟨rfl, by go_grown⟩
def RgNew (W w' : World) (k : Nat) (xs : List Ev) (e : Ending) : Prop :=
  ∃ b g c, e = .returned (.tuple #[.pointer (some ⟨b, 0, none⟩), .nilIface]) ∧ Rg w' b g c k xs ∧ Below W.heap.size W w' ∧ W.heap.size ≤ b ∧ W.heap.size ≤ g
theorem infoEv : (Tryz.prog.info? 86).map (fun i => (i.zero, i.size, i.bytes)) = some (some (.agg #[.int .i64 0, .int .i64 0]), 2, 16) := by kernel_rfl
theorem made_zero (n : Nat) : (madeCells (Value.agg #[.int .i64 0, .int .i64 0]).cells (n * 2)).toList = flat2 (List.replicate n (0, 0)) := by
  rw [flat2_replicate]
  apply List.ext_getElem
  · simp [size_madeCells]
  · intro i h1 h2
    simp only [madeCells, Value.cells, List.getElem_replicate]
    simp only [Array.getElem_toList, Array.getElem_map, Array.getElem_range]
    have : i % 2 = 0 ∨ i % 2 = 1 := by omega
    rcases this with e | e <;> simp [e]
theorem make_events (k n : Nat) (hk : k ≤ 20) (hn : (n : Int) = two k) (w : World) :
    (Instr.makeSlice 137 (.int .i64 (two k)) (.int .i64 (two k))).run Tryz.prog w = .ok (.slice (some ⟨w.heap.size, 0, none⟩) n n) (w.alloc (.cells (flat2 (List.replicate n (0, 0))).toArray 86)) := by
  obtain ⟨i0, hi, hz0, hz1, hz2⟩ := info_parts infoEv
  have h1 := two_le hk
  have h2 := two_pos k
  have := run_make (P := Tryz.prog) w 137 86 i0 _ Tryz.underlying137 hi hz0 .i64 .i64 (two k) (two k) (by omega) (Int.le_refl _) (by rw [hz2]; omega) (by omega)
  rw [this, ← hn]
  simp only [Int.toNat_natCast, hz1]
  rw [← made_zero]
theorem new_keep {W a w' : World} {b : Nat} {v : Value} (hb : Below a.heap.size a w') (h : a.cell? ⟨b, 0, none⟩ = some v ∧ Below W.heap.size W a) : w'.cell? ⟨b, 0, none⟩ = some v ∧ Below W.heap.size W w' := ⟨keepc hb h.1, bthen h.2 hb⟩
theorem new_alloc {W a : World} {b : Nat} {v : Value} (o : Obj) (h : a.cell? ⟨b, 0, none⟩ = some v ∧ Below W.heap.size W a) : (a.alloc o).cell? ⟨b, 0, none⟩ = some v ∧ Below W.heap.size W (a.alloc o) := new_keep ((Below.refl _ _).alloc (Nat.le_refl _) o) h
theorem rnew_end {W w : World} {k n : Nat} (hk : k ≤ 20) (hn : (n : Int) = two k) (hb : Below W.heap.size W w) :
    RgNew W ((w.alloc (.cells (flat2 (List.replicate n (0, 0))).toArray 86)).alloc (.cells #[.int .u8 k, .slice (some ⟨w.heap.size, 0, none⟩) n n] 185)) k (List.replicate n (0, 0)) (.returned (.tuple #[.pointer (some ⟨w.heap.size + 1, 0, none⟩), .nilIface])) := by
  have hs : (w.alloc (.cells (flat2 (List.replicate n (0, 0))).toArray 86)).heap.size = w.heap.size + 1 := by simp
  have hl : (List.replicate n ((0 : Int), (0 : Int))).length = n := by simp
  have h1 := two_le hk
  have ho : (w.alloc (.cells (flat2 (List.replicate n (0, 0))).toArray 86)).ownsRow 0 86 2 (.slice (some ⟨w.heap.size, 0, none⟩) n n) n (flat2 (List.replicate n (0, 0))) :=
    World.ownsRow_lit w _ n (Nat.zero_le _) (by unfold maxLen; omega) (by simp [flat2_len])
  refine ⟨_, w.heap.size, n, rfl, ⟨?_, ?_, ?_, hk⟩, balloc (balloc hb _) _, by have := hb.size; omega, hb.size⟩
  · rw [hl, ← hs]; exact obj_new _ _
  · rw [hl]; exact ho.alloc _
  · rw [hl]; exact hn
set_option maxRecDepth 100000 in
set_option maxHeartbeats 1000000 in
theorem rnew_ok (k n : Nat) (hk : k ≤ 20) (hn : (n : Int) = two k) (W : World) :
    Calls Tryz.prog 123 #[.int .i64 (two k)] W fun e w' => RgNew W w' k (List.replicate n (0, 0)) e := by
  have hmk := make_events k n hk hn
  have HE := Lib.hid (fun (w : World) (hb : Below W.heap.size W w) => rnew_end (W := W) (w := w) hk hn hb)
  clear hn
  generalize flat2 (List.replicate n (0, 0)) = row at *
  generalize List.replicate n ((0 : Int), (0 : Int)) = xs at *
  go_enter Tryz.func123, Tryz.ntmps123
  go_wp2_with (go_at_call 79; refine (of_yes k hk _).mono ?_; rintro e w1 ⟨rfl, hb1⟩; have HB1 := Lib.hid hb1; clear hb1)
  have hb2 := balloc HB1.out (.cells #[.int .u8 k] 100)
  have hc2 : (w1.alloc (.cells #[.int .u8 k] 100)).cell? ⟨w1.heap.size, 0, none⟩ = some (.int .u8 k) := (obj_cell (obj_new w1 _) 0).trans rfl
  clear HB1
  generalize w1.heap.size = ob at *
  generalize w1.alloc (.cells #[.int .u8 k] 100) = w2 at *
  go_region_held3 (fun w' => w'.cell? ⟨ob, 0, none⟩ = some (.int .u8 k) ∧ Below W.heap.size W w') (first
      | exact ⟨by assumption, by assumption⟩
      | exact ⟨by go_simp, Below.drew (by assumption)⟩
      | exact new_alloc _ (by assumption)
      | exact new_keep (by assumption) (by assumption)) (first
      | (go_at_call 51; refine (slots_any k hk _).mono ?_; rintro e w3 ⟨rfl, hw⟩; have hb3 := slots_below hw; clear hw))
  go_wp2
  go_ret2
  exact HE.out w3 (bthen hb2.drew hb3)
theorem wrap_end {W w w' : World} {op : ByteArray} {seq n : Int} {E : Value} {d : Nat} (hc : Chain w E d n) (hb : Below W.heap.size W w) (h : w.alloc (.cells #[.string op, .int .i64 seq, E] 202) = w') :
    Chain w' (.iface 200 (.pointer (some ⟨w.heap.size, 0, none⟩))) (d + 1) n ∧ Below W.heap.size W w' := by
  subst h
  exact ⟨.fault _ _ _ _ _ _ (obj_new _ _) (hc.keep ((Below.refl _ _).alloc (Nat.le_refl _) _)), balloc hb _⟩
end Go.Proofs.YtdfcfdcekdmcmaaGreat
namespace Go.Proofs.YtdfcfdcekdmcmaaGreat
open Go.RowKit
set_option linter.unusedVariables false
structure RmNew (W w : World) (r a c t : Nat) : Prop where
  rm : w.heap[r]? = some (.cells #[.pointer (some ⟨a, 0, none⟩), .pointer (some ⟨c, 0, none⟩), .pointer (some ⟨t, 0, none⟩), .slice none 0 0] 109 (0, 0))
  ar : w.heap[a]? = some (.cells #[.slice none 0 0, .int .i64 0] 171 (0, 0))
  ck : w.heap[c]? = some (.cells #[.int .i64 0, .slice none 0 0] 106 (0, 0))
  tb : w.heap[t]? = some (.cells #[.slice none 0 0] 142 (0, 0))
  bl : Below W.heap.size W w
  lo : W.heap.size ≤ r ∧ W.heap.size ≤ a ∧ W.heap.size ≤ c ∧ W.heap.size ≤ t
theorem RmNew.end {W w1 : World} {a : Nat} (ha : Ar w1 a (.slice none 0 0) [] 0) (hb : Below W.heap.size W w1) (hl : W.heap.size ≤ a) :
    RmNew W (((w1.alloc (.cells #[.int .i64 0, .slice none 0 0] 106)).alloc (.cells #[.slice none 0 0] 142)).alloc (.cells #[.pointer (some ⟨a, 0, none⟩), .pointer (some ⟨w1.heap.size, 0, none⟩), .pointer (some ⟨w1.heap.size + 1, 0, none⟩), .slice none 0 0] 109)) (w1.heap.size + 2) a w1.heap.size (w1.heap.size + 1) := by
  have hs := hb.size
  have e1 : (w1.alloc (.cells #[.int .i64 0, .slice none 0 0] 106)).heap.size = w1.heap.size + 1 := by simp
  have e2 : ((w1.alloc (.cells #[.int .i64 0, .slice none 0 0] 106)).alloc (.cells #[.slice none 0 0] 142)).heap.size = w1.heap.size + 2 := by simp
  refine ⟨?_, obj_old _ (obj_old _ (obj_old _ ha.1)), obj_old _ (obj_old _ (obj_new _ _)), ?_, balloc (balloc (balloc hb _) _) _, by omega, hl, by omega, by omega⟩
  · have := obj_new ((w1.alloc (.cells #[.int .i64 0, .slice none 0 0] 106)).alloc (.cells #[.slice none 0 0] 142)) (.cells #[.pointer (some ⟨a, 0, none⟩), .pointer (some ⟨w1.heap.size, 0, none⟩), .pointer (some ⟨w1.heap.size + 1, 0, none⟩), .slice none 0 0] 109)
    rw [e2] at this
    exact this
  · have := obj_new (w1.alloc (.cells #[.int .i64 0, .slice none 0 0] 106)) (.cells #[.slice none 0 0] 142)
    rw [e1] at this
    exact obj_old _ this
theorem rnew (W : World) : Calls Tryz.prog 10 #[] W fun e w' => ∃ r a c t, e = .returned (.pointer (some ⟨r, 0, none⟩)) ∧ RmNew W w' r a c t := by
  go_enter Tryz.func10, Tryz.ntmps10
  go_wp2_with (first
    | (go_at_call 53; refine (new_any _).mono ?_; rintro e w1 ⟨rfl, ha, hb⟩; have HA := Lib.hid ha; have HB := Lib.hid hb; clear ha hb)
    | (go_at_call 54; refine (tnew _).mono ?_; rintro e w2 ⟨rfl, rfl⟩))
  go_ret
  exact ⟨_, _, _, _, rfl, by have := RmNew.end HA.out HB.out (Nat.le_refl _); simpa using this⟩
end Go.Proofs.YtdfcfdcekdmcmaaGreat
namespace Go.Proofs.YtdfcfdcekdmcmaaGreat
open Go.RowKit
set_option linter.unusedVariables false
def Ring1 (R : Rest) (W0 w : World) (a k n : Nat) (st : Int) (g sb rg rc : Nat) (s : Sh) : Prop :=
  s.b = a ∧ s.k = k ∧ Lv (R.box W0.heap.size g #[.pointer (some ⟨sb, 0, none⟩), .pointer none, .pointer (some ⟨s.p, 0, none⟩), .slice none 0 0] 149) W0 w s (-1) (-1) (List.replicate n (-1)) [] (-1) st ∧ Rg w sb rg rc k (List.replicate n (0, 0))
section
variable {R : Rest} {W0 W w w1 w2 : World} {a k n : Nat} {st : Int} {s : Sh}
theorem Lv.many {g : Nat} {c sn sw : Int} {sh gv : List Int} (h : Lv (R.box W0.heap.size g #[.pointer none, .pointer none, .pointer none, .slice none 0 0] 149) W0 w s c sn sh gv sw st) (u : Value) : Lv (R.box W0.heap.size g #[.pointer none, .pointer none, u, .slice none 0 0] 149) W0 (w.setCell ⟨g, 2, none⟩ u) s c sn sh gv sw st :=
  h.of_ms (h.ms.boxSet (by decide) 2 u)
theorem Ring1.end {g sb rg rc : Nat} (hb : s.b = a) (hk : s.k = k) (h : Lv (R.box W0.heap.size g #[.pointer none, .pointer none, .pointer (some ⟨s.p, 0, none⟩), .slice none 0 0] 149) W0 w s (-1) (-1) (List.replicate n (-1)) [] (-1) st) (hr : Rg w sb rg rc k (List.replicate n (0, 0))) :
    Ring1 R W0 (w.setCell ⟨g, 0, none⟩ (.pointer (some ⟨sb, 0, none⟩))) a k n st g sb rg rc s := by
  refine ⟨hb, hk, h.of_ms (h.ms.boxSet (by decide) 0 (.pointer (some ⟨sb, 0, none⟩))), ?_⟩
  have hg := h.ms.boxIs
  refine hr.keep ((Frm.refl (fun k => k = g) w).setCell (p := ⟨g, 0, none⟩) rfl _) ?_ ?_
  · exact obj_ne hr.1 hg (by decide)
  · intro e
    exact row_ne hr.2.1 hg (by decide) (by simp [Value.ownBlock, e])
set_option maxHeartbeats 1000000 in
set_option maxRecDepth 100000 in
theorem rlay_many (h : Mv R W0 W a [] st) (hk : k ≤ 20) (hn : (n : Int) = two k) :
    Calls Tryz.prog 80 #[.pointer (some ⟨a, 0, none⟩), .int .i64 (two k), .int .i64 1] W fun e w' => ∃ g sb rg rc s, e = .returned (.tuple #[.pointer (some ⟨g, 0, none⟩), .nilIface]) ∧ Ring1 R W0 w' a k n st g sb rg rc s := by
  have hm := mnew_ok (h.boxNew #[.pointer none, .pointer none, .pointer none, .slice none 0 0] 149) k n hk hn
  have g2 := (obj_cell (obj_new W (.cells #[.pointer none, .pointer none, .pointer none, .slice none 0 0] 149)) 2).trans rfl
  have HM := Lib.hid hm
  have HS := Lib.hid (rnew_ok k n hk hn)
  clear h hm hn
  go_enter Tryz.func80, Tryz.ntmps80
  go_wp2_with (first
    | (go_at_call 121; refine HM.out.mono ?_; rintro e w1 ⟨s, rfl, hsb, hsk, hl⟩; have HSB := Lib.hid hsb; have HSK := Lib.hid hsk; have hbx := hl.ms.boxIs; have k2 := (obj_cell hbx 2).trans rfl; have f2 := obj_free hbx 2; have HL := Lib.hid (hl.many (.pointer (some ⟨s.p, 0, none⟩))); generalize W.heap.size = g at *; clear hsb hsk hl hbx)
    | (go_at_call 123; refine (HS.out _).mono ?_; rintro e w2 ⟨sb, rg, rc, rfl, hrg, hb, _, _⟩; have H2 := Lib.hid (HL.out.keep hb); have k0 := (obj_cell H2.out.ms.boxIs 0).trans rfl; have f0 := obj_free H2.out.ms.boxIs 0; have HRG := Lib.hid hrg; clear hb hrg))
  go_ret2
  exact ⟨_, _, _, _, _, rfl, Ring1.end HSB.out HSK.out H2.out HRG.out⟩
end
end Go.Proofs.YtdfcfdcekdmcmaaGreat
namespace Go.Proofs.YtdfcfdcekdmcmaaGreat
open Go.RowKit
set_option linter.unusedVariables false
structure RnF (R : Rest) (W0 w : World) (r g : Nat) (rcs gcs : Array Value) : Prop where
  rm : w.heap[r]? = some (.cells rcs 109 (0, 0))
  rn : w.heap[g]? = some (.cells gcs 149 (0, 0))
  lo : W0.heap.size ≤ r ∧ W0.heap.size ≤ g
  np : ¬ R.prot r ∧ ¬ R.prot g
  pl : ∀ k, R.prot k → k < w.heap.size
  inv : R.inv w
  bl : Below W0.heap.size W0 w
section
variable {R : Rest} {W0 W w w' : World} {r g : Nat} {rcs gcs : Array Value}
theorem RnF.of {s : Sh} {ids xs : List Int} {sw st : Int} (h : Ms ((R.box W0.heap.size r rcs 109).box W0.heap.size g gcs 149) W0 w s ids sw xs st) : RnF R W0 w r g rcs gcs := by
  obtain ⟨⟨i1, i2, i3, i4⟩, i5, i6, i7⟩ := h.inv
  exact ⟨i2, i5, ⟨i4, i7⟩, ⟨i3, fun e => i6 (.inl e)⟩, fun k hk => h.prot_lt (.inl (.inl hk)), i1, h.below⟩
theorem RnF.later (h : RnF R W0 w r g rcs gcs) (hb : Below w.heap.size w w') : RnF R W0 w' r g rcs gcs :=
  ⟨blk_keep h.rm hb, blk_keep h.rn hb, h.lo, h.np, fun k hk => Nat.lt_of_lt_of_le (h.pl k hk) hb.size, R.ok _ _ h.inv fun k hk => hb.block k (h.pl k hk), bthen h.bl hb⟩
theorem RnF.ne (h : RnF R W0 w r g rcs gcs) : r ≠ g := obj_ne h.rm h.rn (by decide)
theorem RnF.store (h : RnF R W0 w r g rcs gcs) (i : Nat) (u : Value) : RnF R W0 (w.setCell ⟨r, i, none⟩ u) r g (rcs.setIfInBounds i u) gcs := by
  have hf : Frm (fun k => k = r) w (w.setCell ⟨r, i, none⟩ u) := (Frm.refl (fun k => k = r) w).setCell (p := ⟨r, i, none⟩) rfl u
  refine ⟨obj_setCell _ h.rm, hf.obj h.rn fun e => h.ne e.symm, h.lo, h.np, fun k hk => Nat.lt_of_lt_of_le (h.pl k hk) hf.size, R.ok _ _ h.inv fun k hk => hf.block k (h.pl k hk) fun e => h.np.1 (e ▸ hk), h.bl.trans (hf.below h.bl.size fun k e => ?_)⟩
  subst e
  exact h.lo.1
theorem row_setRoom {u v : Value} {ys : List Value} {n : Nat} (h : RnF R W0 w r g rcs gcs) (ho : w.ownsRow W0.heap.size 143 1 v n ys) (i : Nat) : (w.setCell ⟨r, i, none⟩ u).ownsRow W0.heap.size 143 1 v n ys :=
  ((Frm.refl (fun k => k = r) w).setCell (p := ⟨r, i, none⟩) rfl u).row ho fun q hq e => row_ne ho h.rm (by decide) (e ▸ hq)
theorem infoRn : (Tryz.prog.info? 143).map (fun i => (i.zero, i.size, i.bytes)) = some (some (.pointer none), 1, 8) := by kernel_rfl
theorem ring_end {w1 w3 : World} {v' : Value} {o : Obj} {a c t : Nat} (h : RnF R W0 w1 r g #[.pointer (some ⟨a, 0, none⟩), .pointer (some ⟨c, 0, none⟩), .pointer (some ⟨t, 0, none⟩), .slice none 0 0] gcs) (hown : w3.ownsRow 0 143 1 v' (0 + 1) ([] ++ [.pointer (some ⟨g, 0, none⟩)])) (hf : Frm (fun k => (Value.slice none 0 0).ownBlock = some k) (w1.alloc o) w3) (hv : v'.ownBlock = (Value.slice none 0 0).ownBlock ∨ ∀ q, v'.ownBlock = some q → (w1.alloc o).heap.size ≤ q) :
    RnF R W0 w3 r g #[.pointer (some ⟨a, 0, none⟩), .pointer (some ⟨c, 0, none⟩), .pointer (some ⟨t, 0, none⟩), .slice none 0 0] gcs ∧
    RnF R W0 (w3.setCell ⟨r, 3, none⟩ v') r g #[.pointer (some ⟨a, 0, none⟩), .pointer (some ⟨c, 0, none⟩), .pointer (some ⟨t, 0, none⟩), v'] gcs ∧ (w3.setCell ⟨r, 3, none⟩ v').ownsRow W0.heap.size 143 1 v' 1 [.pointer (some ⟨g, 0, none⟩)] := by
  have hb : Below w1.heap.size w1 w3 := by
    have h2 : Frm (fun _ => False) (w1.alloc o) w3 := hf.mono fun k _ e => by simp [Value.ownBlock] at e
    exact bthen (balloc (Below.refl _ _) o) (h2.below (Nat.le_refl _) fun _ e => e.elim)
  have h3 := h.later hb
  have hlow : ∀ q, v'.ownBlock = some q → W0.heap.size ≤ q := fun q hq => by
    have b0 := h.bl.size
    have bs : (w1.alloc o).heap.size = w1.heap.size + 1 := by simp
    rcases hv with hv | hv
    · rw [hv] at hq; simp [Value.ownBlock] at hq
    · have := hv q hq; omega
  exact ⟨h3, h3.store 3 v', row_setRoom h3 (row_up (by simpa using hown) hlow) 3⟩
set_option maxHeartbeats 1000000 in
set_option maxRecDepth 100000 in
theorem rring_many {a c t k n : Nat} {st : Int} (h : Mv (R.box W0.heap.size r #[.pointer (some ⟨a, 0, none⟩), .pointer (some ⟨c, 0, none⟩), .pointer (some ⟨t, 0, none⟩), .slice none 0 0] 109) W0 W a [] st) (hk : k ≤ 20) (hn : (n : Int) = two k) :
    Calls Tryz.prog 23 #[.pointer (some ⟨r, 0, none⟩), .int .i64 (two k), .int .i64 1] W fun e w' => e = .returned (.tuple #[.int .i64 0, .nilIface]) ∧ ∃ g sb sp rv, RnF R W0 w' r g #[.pointer (some ⟨a, 0, none⟩), .pointer (some ⟨c, 0, none⟩), .pointer (some ⟨t, 0, none⟩), rv] #[.pointer (some ⟨sb, 0, none⟩), .pointer none, .pointer (some ⟨sp, 0, none⟩), .slice none 0 0] ∧ w'.ownsRow W0.heap.size 143 1 rv 1 [.pointer (some ⟨g, 0, none⟩)] := by
  obtain ⟨i1, hi1, hy0, hy1, hy2⟩ := info_parts infoRn
  have HM := Lib.hid h
  have HLAY : Hid (∀ w, Mv (R.box W0.heap.size r #[.pointer (some ⟨a, 0, none⟩), .pointer (some ⟨c, 0, none⟩), .pointer (some ⟨t, 0, none⟩), .slice none 0 0] 109) W0 w a [] st → Calls Tryz.prog 80 #[.pointer (some ⟨a, 0, none⟩), .int .i64 (two k), .int .i64 1] w fun e w' => ∃ g sb sp, e = .returned (.tuple #[.pointer (some ⟨g, 0, none⟩), .nilIface]) ∧ RnF R W0 w' r g #[.pointer (some ⟨a, 0, none⟩), .pointer (some ⟨c, 0, none⟩), .pointer (some ⟨t, 0, none⟩), .slice none 0 0] #[.pointer (some ⟨sb, 0, none⟩), .pointer none, .pointer (some ⟨sp, 0, none⟩), .slice none 0 0]) := Lib.hid fun w hm => (rlay_many hm hk hn).mono fun e w' ⟨g, sb, rg, rc, s, he, hr⟩ => ⟨g, sb, s.p, he, RnF.of hr.2.2.1.ms⟩
  clear h hn
  go_enter Tryz.func23, Tryz.ntmps23
  go_wp2_with (first
    | (go_at_call 79; refine (of_yes k hk _).mono ?_; rintro e w1 ⟨rfl, hb⟩; have HM1 := Lib.hid (HM.out.keep (balloc hb (.cells #[.int .u8 k] 100))); have k3 := (obj_cell HM1.out.boxIs 3).trans rfl; have k0 := (obj_cell HM1.out.boxIs 0).trans rfl; clear hb)
    | (go_at_call 80; refine (HLAY.out _ HM1.out).mono ?_; rintro e w2 ⟨g, sb, sp, rfl, hf⟩; have HF := Lib.hid hf; have k3 : w2.cell? ⟨r, 3, none⟩ = some (.slice none 0 0) := (obj_cell hf.rm 3).trans rfl; clear hf)
    | (at_builtin; refine wpList_append_row rfl _ _ 107 rfl 143 i1 (.pointer none) 1 8 Tryz.underlying107 hi1 hy0 hy1 hy2 rfl (by decide) (.slice none 0 0) 0 [] rfl (World.ownsRow_nil _ _ _ _) ⟨w2.heap.size, 0, none⟩ 1 1 [.pointer (some ⟨g, 0, none⟩)] rfl rfl (one_cellA _ _ _) (fun x hx => by simp at hx; subst hx; rfl) (by unfold maxLen; omega) (by omega) ?_; intro v' w3 hown3 hf3 hv3; obtain ⟨he1, he2, he3⟩ := ring_end HF.out hown3 hf3 hv3; have k4 : w3.cell? ⟨r, 3, none⟩ = some (.slice none 0 0) := (obj_cell he1.rm 3).trans rfl; have f4 := obj_free he1.rm 3; have HE := Lib.hid he2; have HRW := Lib.hid he3; obtain ⟨p', c', rfl, hc'⟩ := row_form hown3; clear he1 he2 he3 hown3 hf3 hv3 hc'))
  go_ret2
  exact ⟨rfl, g, sb, sp, _, HE.out, HRW.out⟩
end
end Go.Proofs.YtdfcfdcekdmcmaaGreat
namespace Go.Proofs.YtdfcfdcekdmcmaaGreat
open Go.RowKit
set_option linter.unusedVariables false
theorem RmNew.mv {W w : World} {r a c t : Nat} (h : RmNew W w r a c t) : Mv (((R0.box W.heap.size c #[.int .i64 0, .slice none 0 0] 106).box W.heap.size t #[.slice none 0 0] 142).box W.heap.size r #[.pointer (some ⟨a, 0, none⟩), .pointer (some ⟨c, 0, none⟩), .pointer (some ⟨t, 0, none⟩), .slice none 0 0] 109) W w a [] 0 := by
  obtain ⟨l1, l2, l3, l4⟩ := h.lo
  have n1 : c ≠ a := obj_ne h.ck h.ar (by decide)
  have n2 : t ≠ a := obj_ne h.tb h.ar (by decide)
  have n3 : r ≠ a := obj_ne h.rm h.ar (by decide)
  have n4 : t ≠ c := obj_ne h.tb h.ck (by decide)
  have n5 : r ≠ c := obj_ne h.rm h.ck (by decide)
  have n6 : r ≠ t := obj_ne h.rm h.tb (by decide)
  refine ⟨.slice none 0 0, ⟨h.ar, World.ownsRow_nil _ _ _ _⟩, h.bl, l2, fun g hg => by simp [Value.ownBlock] at hg, fun k hk => ?_, ⟨⟨trivial, h.ck, fun e => e.elim, l3⟩, h.tb, ?_, l4⟩, h.rm, ?_, l1⟩
  · rcases hk with ((hk | rfl) | rfl) | rfl
    · exact hk.elim
    · exact ⟨lt_of_block h.ck, n1, by simp [Value.ownBlock]⟩
    · exact ⟨lt_of_block h.tb, n2, by simp [Value.ownBlock]⟩
    · exact ⟨lt_of_block h.rm, n3, by simp [Value.ownBlock]⟩
  · rintro (e | e)
    · exact e.elim
    · exact n4 e
  · rintro ((e | e) | e)
    · exact e.elim
    · exact n5 e
    · exact n6 e
def OneRing (W w : World) (r c t : Nat) (xs : List Ac) : Prop :=
  ∃ (R1 : Rest) (a g : Nat) (sl one many : Value), (∀ w, R1.inv w → RmC w r a c t) ∧ (∀ (w : World) (op : ByteArray), R1.inv w → Calls Tryz.prog 69 #[.pointer (some ⟨r, 0, none⟩), .string op, .int .i64 (0 : Nat)] w fun e w' => e = .returned (.tuple #[.pointer (some ⟨g, 0, none⟩), .nilIface]) ∧ w = w') ∧ Rc (RnR R1 W.heap.size g sl one many (.slice none 0 0) []) W w c t [] 0 xs
theorem ring_rc {W w : World} {r g a c t sb sp : Nat} {rv : Value} (h : RnF ((R0.box W.heap.size c #[.int .i64 0, .slice none 0 0] 106).box W.heap.size t #[.slice none 0 0] 142) W w r g #[.pointer (some ⟨a, 0, none⟩), .pointer (some ⟨c, 0, none⟩), .pointer (some ⟨t, 0, none⟩), rv] #[.pointer (some ⟨sb, 0, none⟩), .pointer none, .pointer (some ⟨sp, 0, none⟩), .slice none 0 0]) (ho : w.ownsRow W.heap.size 143 1 rv 1 [.pointer (some ⟨g, 0, none⟩)]) : OneRing W w r c t [] := by
  obtain ⟨rg, cap, rfl, _, hcm⟩ := row_some ho (by decide)
  obtain ⟨⟨_, ick, _, ilc⟩, itb, _, ilt⟩ := h.inv
  have hrg := row_lt ho (g := rg) (by simp [Value.ownBlock])
  have r1 : rg ≠ r := fun e => row_ne ho h.rm (by decide) (by simp [Value.ownBlock, e])
  have r2 : rg ≠ c := fun e => row_ne ho ick (by decide) (by simp [Value.ownBlock, e])
  have r3 : rg ≠ t := fun e => row_ne ho itb (by decide) (by simp [Value.ownBlock, e])
  have r4 : rg ≠ g := fun e => row_ne ho h.rn (by decide) (by simp [Value.ownBlock, e])
  have g1 : g ≠ c := obj_ne h.rn ick (by decide)
  have g2 : g ≠ t := obj_ne h.rn itb (by decide)
  have g3 : r ≠ c := obj_ne h.rm ick (by decide)
  have g4 : r ≠ t := obj_ne h.rm itb (by decide)
  refine ⟨(R0.box W.heap.size r #[.pointer (some ⟨a, 0, none⟩), .pointer (some ⟨c, 0, none⟩), .pointer (some ⟨t, 0, none⟩), .slice (some ⟨rg, 0, none⟩) 1 cap] 109).row W.heap.size 143 1 (.slice (some ⟨rg, 0, none⟩) 1 cap) 1 [.pointer (some ⟨g, 0, none⟩)], a, g, .pointer (some ⟨sb, 0, none⟩), .pointer none, .pointer (some ⟨sp, 0, none⟩), fun w hi => RmC.of hi.1.2.1, fun w op hi => ?_, ?_⟩
  · refine rfind_ok op (n := 1) (cap := cap) (rg := rg) ((obj_cell hi.1.2.1 3).trans rfl) (by decide) (by decide) ?_
    rw [hi.2.1.cellAt 0 (by decide)]
    rfl
  · refine ⟨.slice none 0 0, .slice none 0 0, ⟨ick, World.ownsRow_nil _ _ _ _⟩, ⟨itb, World.ownsRow_nil _ _ _ _⟩, h.bl, ⟨ilc, ilt⟩, fun g hg => by simp [Value.ownBlock] at hg, fun k hk => ?_, ⟨⟨⟨trivial, h.rm, fun e => e.elim, h.lo.1⟩, ho, ?_⟩, World.ownsRow_nil _ _ _ _, fun k _ e => by simp [Value.ownBlock] at e⟩, h.rn, ?_, h.lo.2⟩
    · rcases hk with (((hk | rfl) | hk) | hk) | rfl
      · exact hk.elim
      · refine ⟨lt_of_block h.rm, ?_⟩
        rintro ((e | e) | (e | e))
        · exact g3 e
        · simp [Value.ownBlock] at e
        · exact g4 e
        · simp [Value.ownBlock] at e
      · obtain rfl : rg = k := by simpa [Value.ownBlock] using hk
        refine ⟨hrg, ?_⟩
        rintro ((e | e) | (e | e))
        · exact r2 e
        · simp [Value.ownBlock] at e
        · exact r3 e
        · simp [Value.ownBlock] at e
      · simp [Value.ownBlock] at hk
      · refine ⟨lt_of_block h.rn, ?_⟩
        rintro ((e | e) | (e | e))
        · exact g1 e
        · simp [Value.ownBlock] at e
        · exact g2 e
        · simp [Value.ownBlock] at e
    · rintro k (hk | rfl) e
      · exact hk.elim
      · exact r1 (by simpa [Value.ownBlock] using e)
    · rintro (((e | e) | e) | e)
      · exact e.elim
      · exact h.ne e.symm
      · exact r4 (by simpa [Value.ownBlock] using e)
      · simp [Value.ownBlock] at e
set_option maxHeartbeats 2000000 in
set_option maxRecDepth 100000 in
theorem awake14 (W : World) : Calls Tryz.prog 9 #[] W fun e w' => e = .returned (.bool true) ∧ Below W.heap.size W w' := by
  have HRG : Hid (∀ w r a c t, RmNew W w r a c t → Calls Tryz.prog 23 #[.pointer (some ⟨r, 0, none⟩), .int .i64 2, .int .i64 1] w fun e w' => e = .returned (.tuple #[.int .i64 0, .nilIface]) ∧ OneRing W w' r c t []) := Lib.hid fun w r a c t h => (rring_many (k := 1) (n := 2) h.mv (by decide) rfl).mono fun e w' ⟨he, g, sb, sp, rv, h1, h2⟩ => ⟨he, ring_rc h1 h2⟩
  go_enter Tryz.func9, Tryz.ntmps9
  go_wp2_with fail
  refine (rnew W).mono ?_
  rintro e w1 ⟨r, a, c, t, rfl, hn⟩
  have HN := Lib.hid hn
  clear hn
  go_wp2_with fail
  refine (HRG.out _ _ _ _ _ HN.out).mono ?_
  rintro e w2 ⟨rfl, R1, a1, g, sl, one, many, hr, hfd, hc⟩
  have HA : Hid (∀ w, R1.inv w → Calls Tryz.prog 14 #[.pointer (some ⟨r, 0, none⟩)] w fun e w' => e = .returned (.pointer (some ⟨t, 0, none⟩)) ∧ w = w') := Lib.hid fun w hi => ractors (hr w hi)
  have H2 := Lib.hid hc
  have E0 : Hid (∀ w, Rc (RnR R1 W.heap.size g sl one many (.slice none 0 0) []) W w c t [] 0 [(0, false, 0), (0, false, 0)] → Calls Tryz.prog 17 #[.pointer (some ⟨r, 0, none⟩), .int .i64 0, .int .i64 0] w fun e w' => e = .returned .nilIface ∧ ∃ wv, Rc (RnR R1 W.heap.size g sl one many wv [0]) W w' c t [] 0 [(0, false, 0), (0, false, 0)]) := Lib.hid fun w h => renlist_new hr hfd h 0 (0, false, 0) rfl (by decide) rfl (by decide)
  have E1 : Hid (∀ w wv, Rc (RnR R1 W.heap.size g sl one many wv [0]) W w c t [] 0 [(0, false, 0), (0, false, 0)] → Calls Tryz.prog 17 #[.pointer (some ⟨r, 0, none⟩), .int .i64 0, .int .i64 1] w fun e w' => e = .returned .nilIface ∧ ∃ wv, Rc (RnR R1 W.heap.size g sl one many wv [0, 1]) W w' c t [] 0 [(0, false, 0), (0, false, 0)]) := Lib.hid fun w wv h => renlist_new hr hfd h 1 (0, false, 0) rfl (by decide) rfl (by decide)
  have PK : Hid (∀ w wv, Rc (RnR R1 W.heap.size g sl one many wv [0, 1]) W w c t [] 0 [(0, false, 0), (0, false, 0)] → Calls Tryz.prog 22 #[.pointer (some ⟨r, 0, none⟩), .int .i64 0, .int .i64 0] w fun e w' => e = .returned (.tuple #[.bool true, .nilIface]) ∧ Rc (RnR R1 W.heap.size g sl one many wv [0, 1]) W w' c t [] 0 [(1, false, 0), (0, false, 0)]) := Lib.hid fun w wv h => rpark_zero (R := RnR R1 W.heap.size g sl one many wv [0, 1]) (fun w hi => hr w hi.1.1) h 0 (0, false, 0) rfl (by decide)
  have SG : Hid (∀ w wv, Rc (RnR R1 W.heap.size g sl one many wv [0, 1]) W w c t [] 0 [(1, false, 0), (0, false, 0)] → Calls Tryz.prog 20 #[.pointer (some ⟨r, 0, none⟩), .int .i64 0] w fun e w' => e = .returned (.tuple #[.int .i64 1, .nilIface]) ∧ Rc (R1.box W.heap.size g #[sl, one, many, .slice none 0 0] 149) W w' c t [] 0 [(0, false, 1), (0, true, 1)]) := Lib.hid fun w wv h => rsignal_ok hr hfd h (B := 0) (fun a ha => by simp at ha; rcases ha with rfl | rfl <;> decide) (by decide) (by decide) (by decide)
  clear HN HRG hr hfd hc
  go_wp2_with (first
    | (go_at_call 14; refine (HA.out _ (by first | exact H9.out.inv.1 | exact H8.out.inv.1 | exact H3.out.inv.1.1 | exact H2.out.inv.1.1)).mono ?_; rintro e y ⟨rfl, rfl⟩)
    | (go_at_call 52; refine (tadd_c (xs := [(0, false, 0)]) H3.out (by decide)).mono ?_; rintro e w4 ⟨rfl, hh⟩; have H4 := Lib.hid hh; clear hh)
    | (go_at_call 52; refine (tadd_c H2.out (by decide)).mono ?_; rintro e w3 ⟨rfl, hh⟩; have H3 := Lib.hid hh; clear hh)
    | (go_at_call_of 17 (Value.int .i64 1); refine (E1.out _ _ H5.out).mono ?_; rintro e w6 ⟨rfl, wv6, hh⟩; have H6 := Lib.hid hh; clear hh)
    | (go_at_call 17; refine (E0.out _ H4.out).mono ?_; rintro e w5 ⟨rfl, wv5, hh⟩; have H5 := Lib.hid hh; clear hh)
    | (go_at_call 22; refine (PK.out _ _ H6.out).mono ?_; rintro e w7 ⟨rfl, hh⟩; have H7 := Lib.hid hh; clear hh)
    | (go_at_call 20; refine (SG.out _ _ H7.out).mono ?_; rintro e w8 ⟨rfl, hh⟩; have H8 := Lib.hid hh; clear hh)
    | (go_at_call 19; refine (tstate_c H8.out 0 (0, false, 1) rfl).mono ?_; rintro e w9 ⟨rfl, hb⟩; have H9 := Lib.hid (H8.out.keep hb); clear hb)
    | (go_at_call 21; refine (ttoken_c H9.out 1 (0, true, 1) rfl).mono ?_; rintro e w10 ⟨rfl, hb⟩; have H10 := Lib.hid (H9.out.keep hb); clear hb))
  go_ret
  exact ⟨rfl, H10.out.below⟩
end Go.Proofs.YtdfcfdcekdmcmaaGreat
