/-
  What of a room's ring is published, and how it is, by contract. Conditions: the ring is found.
  Show and Published of a room, by contract. Conditions: the ring is found; what it does is known.
  A new ring from which one claims, by contract. Conditions: its size is a power of two up to 2^20; the arena has room for one cell more.
  A sequencer of package multi in plain numbers is such a state as the claims of a room's ring work on; what a ring of many publishes. No condition but those that each theorem names.
  What a room tells of a ring that it has: its slots, its kind, its cursor's cell, its gate, its buffer; by contract. No condition but those that each theorem names.
  What a ring of many publishes and has published, by contract. No condition but those that each theorem names.
  The first ring of a room, of either kind, by contract. Conditions: the room has none; how a ring is laid is known.
  States beside any rest that keep one block more, one row more, or something unnamed: they are such states too. No condition.
  The first ring of a room, of either kind, with its slots: where it lies, how it is found; by contract. Conditions: the room has none.
  States beside any rest that grows by what is new; the slots of a ring as such a part of the rest. No condition but those that each theorem names.
  A ring from which one claims is laid, with its slots; by contract. Conditions: its size is a power of two up to 2^20; the arena has room for one cell more.
  A ring from which many claim is laid, with its slots; by contract. Conditions: its size is a power of two up to 2^20; the arena is empty.
  The slots of a ring of a room: Put and Get by what the room knows; by contract. No condition but those that each theorem names.
-/
import Derived.Test.YtdfcfdcekdmcmaaGreatPk16
import Derived.Test.YtdfcfdcekdmcmaaGreatPk23
import Derived.Test.YtdfcfdcekdmcmaaGreatPk20
import Derived.Test.YtdfcfdcekdmcmaaGreatPk24
set_option linter.unusedVariables false
set_option linter.unusedSimpArgs false
set_option linter.unusedSimpArgs false
namespace Go.Proofs.YtdfcfdcekdmcmaaGreat
open Go.RowKit
set_option linter.unusedVariables false
section
variable {W0 W : World} {R : Rest} {r g p a k cur i0 : Nat} {ids xs : List Int} {cl pub sn sc st : Int} {sl u : Value}
theorem one_publish (sl u : Value) (h : Sg R W0 W p a k cur ids cl pub sn sc xs st) (at' hi : Int) (h1 : pub < hi) (h2 : hi ≤ cl) (hc : cur < xs.length) (h0 : 0 ≤ st) (hs : st < 4611686018427387904) :
    Calls Tryz.prog 91 #[.agg #[sl, .pointer (some ⟨p, 0, none⟩), .pointer none, u], .int .i64 at', .int .i64 hi] W fun e w' => e = .returned (.tuple #[.int .i64 hi, .nilIface]) ∧ Sg R W0 w' p a k cur ids cl hi sn sc (xs.set cur hi) (st + 1) := by
  have HH := Lib.hid h
  clear h
  go_enter Tryz.func91, Tryz.ntmps91
  go_wp2_with (go_at_call 133; refine (spublish_ok (HH.out.keep (balloc (Below.refl _ _) _)) hi h1 h2 hc h0 hs).mono ?_; rintro e w1 ⟨rfl, hg⟩; have HG := Lib.hid hg; clear hg)
  go_ret2
  exact ⟨rfl, HG.out⟩
theorem one_published (sl u : Value) (h : Sg R W0 W p a k cur ids cl pub sn sc xs st) (from' : Int) (hf : 0 ≤ from') (hf2 : from' ≤ 4611686018427387904) :
    Calls Tryz.prog 92 #[.agg #[sl, .pointer (some ⟨p, 0, none⟩), .pointer none, u], .int .i64 from'] W fun e w' => e = .returned (.tuple #[.int .i64 (max (from' - 1) pub), .nilIface]) ∧ Sg R W0 w' p a k cur ids cl pub sn sc xs st := by
  have HH := Lib.hid h
  clear h
  go_enter Tryz.func92, Tryz.ntmps92
  go_wp2_with (go_at_call 135; refine (spublished_some (HH.out.keep (balloc (Below.refl _ _) _)).c).mono ?_; rintro e w1 ⟨rfl, rfl⟩; have HG := Lib.hid (HH.out.keep (balloc (Below.refl _ _) (.cells #[sl, .pointer (some ⟨p, 0, none⟩), .pointer none, u] 149))))
  all_goals
    go_ret2
    exact ⟨by simp, HG.out⟩
end
end Go.Proofs.YtdfcfdcekdmcmaaGreat
namespace Go.Proofs.YtdfcfdcekdmcmaaGreat
open Go.RowKit
set_option linter.unusedVariables false
section
variable {W0 W : World} {Pd Pe : Rest → World → Prop} {R : Rest} {r g i0 : Nat} {sl o m u : Value}
set_option maxRecDepth 100000 in
theorem rshow_any (hB : Bx W0 Pd) (hm : Pd R W) (at' hi y : Int) (ha : at' ≤ hi) (hy0 : -1 ≤ y) (hy : y < 4611686018427387905)
    (hf : ∀ (op : ByteArray) (w : World), R.inv w → Calls Tryz.prog 69 #[.pointer (some ⟨r, 0, none⟩), .string op, .int .i64 i0] w fun e w' => e = .returned (.tuple #[.pointer (some ⟨g, 0, none⟩), .nilIface]) ∧ Below w.heap.size w w')
    (hg : ∀ w : World, R.inv w → w.heap[g]? = some (.cells #[sl, o, m, u] 149 (0, 0)))
    (hp : ∀ w : World, Pd R w → Calls Tryz.prog 91 #[.agg #[sl, o, m, u], .int .i64 at', .int .i64 hi] w fun e w' => e = .returned (.tuple #[.int .i64 y, .nilIface]) ∧ Pe R w') :
    Calls Tryz.prog 29 #[.pointer (some ⟨r, 0, none⟩), .int .i64 i0, .int .i64 at', .int .i64 hi] W fun e w' => e = .returned (.tuple #[.int .i64 (y + 1), .nilIface]) ∧ Pe R w' := by
  have HB := Lib.hid hB
  have HM := Lib.hid hm
  have HF := Lib.hid hf
  have HG := Lib.hid hg
  have HP := Lib.hid hp
  have da : decide (hi < at') = false := decide_eq_false (by omega)
  clear hB hm hf hg hp
  go_enter Tryz.func29, Tryz.ntmps29
  go_wp2_with (first
    | (go_at_call 69; refine (HF.out _ _ (HB.out.inv HM.out)).mono ?_; rintro e w2 ⟨rfl, hb⟩; have H2 := Lib.hid (HB.out.keep HM.out hb); have hgb := HG.out _ (HB.out.inv H2.out); have q0 := (obj_cell hgb 0).trans rfl; have q1 := (obj_cell hgb 1).trans rfl; have q2 := (obj_cell hgb 2).trans rfl; have q3 := (obj_cell hgb 3).trans rfl; clear hb)
    | (go_at_call 91; refine (HP.out _ H2.out).mono ?_; rintro e w3 ⟨rfl, hg⟩; have H3 := Lib.hid hg; clear hg))
  go_ret2
  exact ⟨rfl, H3.out⟩
set_option maxRecDepth 100000 in
theorem rpublished_any (hB : Bx W0 Pd) (hm : Pd R W) (from' y : Int) (h0 : 0 ≤ from') (h1 : from' ≤ 4611686018427387904)
    (hf : ∀ (op : ByteArray) (w : World), R.inv w → Calls Tryz.prog 69 #[.pointer (some ⟨r, 0, none⟩), .string op, .int .i64 i0] w fun e w' => e = .returned (.tuple #[.pointer (some ⟨g, 0, none⟩), .nilIface]) ∧ Below w.heap.size w w')
    (hg : ∀ w : World, R.inv w → w.heap[g]? = some (.cells #[sl, o, m, u] 149 (0, 0)))
    (hp : ∀ w : World, Pd R w → Calls Tryz.prog 92 #[.agg #[sl, o, m, u], .int .i64 from'] w fun e w' => e = .returned (.tuple #[.int .i64 y, .nilIface]) ∧ Pe R w') :
    Calls Tryz.prog 30 #[.pointer (some ⟨r, 0, none⟩), .int .i64 i0, .int .i64 from'] W fun e w' => e = .returned (.tuple #[.int .i64 y, .nilIface]) ∧ Pe R w' := by
  have HB := Lib.hid hB
  have HM := Lib.hid hm
  have HF := Lib.hid hf
  have HG := Lib.hid hg
  have HP := Lib.hid hp
  have d0 : decide (from' < 0) = false := decide_eq_false (by omega)
  have d1 : decide (4611686018427387904 < from') = false := decide_eq_false (by omega)
  clear hB hm hf hg hp h0 h1
  go_enter Tryz.func30, Tryz.ntmps30
  go_wp2_with (first
    | (go_at_call 69; refine (HF.out _ _ (HB.out.inv HM.out)).mono ?_; rintro e w2 ⟨rfl, hb⟩; have H2 := Lib.hid (HB.out.keep HM.out hb); have hgb := HG.out _ (HB.out.inv H2.out); have q0 := (obj_cell hgb 0).trans rfl; have q1 := (obj_cell hgb 1).trans rfl; have q2 := (obj_cell hgb 2).trans rfl; have q3 := (obj_cell hgb 3).trans rfl; clear hb)
    | (go_at_call 92; refine (HP.out _ H2.out).mono ?_; rintro e w3 ⟨rfl, hg⟩; have H3 := Lib.hid hg; clear hg))
  go_ret2
  exact ⟨rfl, H3.out⟩
end
end Go.Proofs.YtdfcfdcekdmcmaaGreat
namespace Go.Proofs.YtdfcfdcekdmcmaaGreat
open Go.RowKit
set_option linter.unusedVariables false
section
variable {R : Rest} {W0 W w : World} {a k n : Nat} {xs : List Int} {st : Int}
end
end Go.Proofs.YtdfcfdcekdmcmaaGreat
namespace Go.Proofs.YtdfcfdcekdmcmaaGreat
open Go.RowKit
set_option linter.unusedVariables false
theorem ms_bx (W0 : World) (s : Sh) (ids : List Int) (sw : Int) (xs : List Int) (st : Int) : Bx W0 fun R w => Ms R W0 w s ids sw xs st where
  keep h hb := h.keep hb
  inv h := h.inv
  new bx U h := h.boxNew bx U
  turn hU h hf hb := h.boxTurn hU hf hb
  le h hp hi := h.less hp hi
theorem mv_bx (W0 : World) (a : Nat) (xs : List Int) (st : Int) : Bx W0 fun R w => Mv R W0 w a xs st where
  keep h hb := h.keep hb
  inv h := h.inv
  new bx U h := h.boxNew bx U
  turn hU h hf hb := h.boxTurn hf hb
  le h hp hi := h.less hp hi
end Go.Proofs.YtdfcfdcekdmcmaaGreat
namespace Go.Proofs.YtdfcfdcekdmcmaaGreat
open Go.RowKit
set_option linter.unusedVariables false
structure RgAt (w : World) (r i g n cap rg : Nat) (sl o m u : Value) : Prop where
  c3 : w.cell? ⟨r, 3, none⟩ = some (.slice (some ⟨rg, 0, none⟩) n cap)
  lt : i < n
  le : n ≤ 4611686018427387904
  cg : w.cell? ⟨rg, i, none⟩ = some (.pointer (some ⟨g, 0, none⟩))
  one : (#[sl, o, m, u] : Array Value).all (·.oneCell') = true
  rn : w.heap[g]? = some (.cells #[sl, o, m, u] 149 (0, 0))
section
variable {W w : World} {r i g n cap rg p : Nat} {sl o m u : Value}
theorem RgAt.keep (h : RgAt W r i g n cap rg sl o m u) (hb : Below W.heap.size W w) : RgAt w r i g n cap rg sl o m u := ⟨keepc hb h.c3, h.lt, h.le, keepc hb h.cg, h.one, blk_keep h.rn hb⟩
set_option maxRecDepth 100000 in
theorem look_ok (h : RgAt W r i g n cap rg sl o m u) : Calls Tryz.prog 73 #[.pointer (some ⟨r, 0, none⟩), .int .i64 i] W fun e w' => e = .returned (.agg #[sl, o, m, u]) ∧ Below W.heap.size W w' := by
  have d1 : decide ((i : Int) < 0) = false := decide_eq_false (by omega)
  have d2 : decide ((n : Int) ≤ (i : Int)) = false := decide_eq_false (by have := h.lt; omega)
  have HRI : Hid (∀ w, Below W.heap.size W w → Calls Tryz.prog 16 #[.pointer (some ⟨r, 0, none⟩)] w fun e w' => e = .returned (.int .i64 n) ∧ w = w') := Lib.hid fun w hb => by
    have c3 := (h.keep hb).c3
    have hle := h.le
    clear h d1 d2 hb
    go_enter Tryz.func16, Tryz.ntmps16
    go_wp2
    go_ret
    exact ⟨rfl, rfl⟩
  have HH := Lib.hid h
  have hlt := h.lt
  have hle := h.le
  have HONE := Lib.hid h.one
  have HI : Hid ((Tryz.prog.info? 149).map (·.size) = some (#[sl, o, m, u] : Array Value).size) := Lib.hid (by kernel_rfl)
  have hal : ∀ ob : Obj, RgAt (W.alloc ob) r i g n cap rg sl o m u := fun ob => h.keep (balloc (Below.refl _ _) ob)
  have k3 := fun ob => (hal ob).c3
  have kg := fun ob => (hal ob).cg
  have r0 := fun ob => (obj_cell (hal ob).rn 0).trans rfl
  have r1 := fun ob => (obj_cell (hal ob).rn 1).trans rfl
  have r2 := fun ob => (obj_cell (hal ob).rn 2).trans rfl
  have r3 := fun ob => (obj_cell (hal ob).rn 3).trans rfl
  clear h hal
  go_enter Tryz.func73, Tryz.ntmps73
  go_wp2_with (first
    | (go_at_call 16; refine (HRI.out _ (by first | exact balloc (Below.refl _ _) _ | exact Below.refl _ _)).mono ?_; rintro e w' ⟨rfl, rfl⟩)
    | (refine wpList_store_row rfl 149 (.tmp 4) (.tmp 22) rfl W.heap.size #[sl, o, m, u] rfl rfl 149 _ (obj_new _ _) HI.out rfl HONE.out ?_))
  exact bodyPost_ret (results_row (p := 4) (by kernel_rfl) _ _ W.heap.size 149 #[sl, o, m, u] _ rfl (setRow_heap _ _ _ _ _ _ (obj_new _ _)) Tryz.underlying149 rfl HI.out) rfl ⟨rfl, bsetRow (balloc (Below.refl _ _) _) (Nat.le_refl _) _⟩
theorem rslots_ok (h : RgAt W r i g n cap rg sl o m u) : Calls Tryz.prog 39 #[.pointer (some ⟨r, 0, none⟩), .int .i64 i] W fun e w' => e = .returned sl ∧ Below W.heap.size W w' := by
  have hfl := rfld0
  have HL := Lib.hid (look_ok h)
  clear h
  go_enter Tryz.func39, Tryz.ntmps39
  go_wp2_with (go_at_call 73; refine HL.out.mono ?_; rintro e w1 ⟨rfl, hb⟩; have HB := Lib.hid hb; clear hb)
  go_ret
  exact ⟨rfl, HB.out⟩
theorem rmany_no (h : RgAt W r i g n cap rg sl o (.pointer none) u) : Calls Tryz.prog 31 #[.pointer (some ⟨r, 0, none⟩), .int .i64 i] W fun e w' => e = .returned (.bool false) ∧ Below W.heap.size W w' := by
  have hfl := rfld2
  have HL := Lib.hid (look_ok h)
  clear h
  go_enter Tryz.func31, Tryz.ntmps31
  go_wp2_with (go_at_call 73; refine HL.out.mono ?_; rintro e w1 ⟨rfl, hb⟩; have HB := Lib.hid hb; clear hb)
  go_ret
  exact ⟨rfl, HB.out⟩
theorem rmany_yes (h : RgAt W r i g n cap rg sl o (.pointer (some ⟨p, 0, none⟩)) u) : Calls Tryz.prog 31 #[.pointer (some ⟨r, 0, none⟩), .int .i64 i] W fun e w' => e = .returned (.bool true) ∧ Below W.heap.size W w' := by
  have hfl := rfld2
  have HL := Lib.hid (look_ok h)
  clear h
  go_enter Tryz.func31, Tryz.ntmps31
  go_wp2_with (go_at_call 73; refine HL.out.mono ?_; rintro e w1 ⟨rfl, hb⟩; have HB := Lib.hid hb; clear hb)
  go_ret
  exact ⟨rfl, HB.out⟩
theorem rcursor_one {a k cur : Nat} {cl pub sn sc : Int} (h : RgAt W r i g n cap rg sl (.pointer (some ⟨p, 0, none⟩)) (.pointer none) u) (hc : SgC W p a k cur cl pub sn sc) : Calls Tryz.prog 36 #[.pointer (some ⟨r, 0, none⟩), .int .i64 i] W fun e w' => e = .returned (.int .i64 cur) ∧ Below W.heap.size W w' := by
  have HL := Lib.hid (look_ok h)
  have HC := Lib.hid hc
  clear h hc
  go_enter Tryz.func36, Tryz.ntmps36
  go_wp2_with (first
    | (go_at_call 73; refine HL.out.mono ?_; rintro e w1 ⟨rfl, hb⟩; have HB := Lib.hid hb; clear hb)
    | (go_at_call 95; refine (seq_one _ _ _ _).mono ?_; rintro e w2 ⟨rfl, hb⟩; have HB2 := Lib.hid (bthen HB.out hb); clear hb)
    | (go_at_call 195; refine (scursor_some (HC.out.later HB2.out)).mono ?_; rintro e w3 ⟨rfl, rfl⟩))
  go_ret
  exact ⟨rfl, HB2.out⟩
theorem mcursor_c {s : Sh} {sw : Int} (hc : MsC W s sw) : Calls Tryz.prog 198 #[.pointer (some ⟨s.p, 0, none⟩)] W fun e w' => e = .returned (.int .i64 s.cur) ∧ W = w' := by
  have c := hc.c2
  clear hc
  go_enter Tryz.func198, Tryz.ntmps198
  go_wp2
  go_ret
  exact ⟨rfl, rfl⟩
theorem rcursor_many {s : Sh} {sw : Int} (h : RgAt W r i g n cap rg sl o (.pointer (some ⟨s.p, 0, none⟩)) u) (hc : MsC W s sw) : Calls Tryz.prog 36 #[.pointer (some ⟨r, 0, none⟩), .int .i64 i] W fun e w' => e = .returned (.int .i64 s.cur) ∧ Below W.heap.size W w' := by
  have HL := Lib.hid (look_ok h)
  have HC := Lib.hid hc
  clear h hc
  go_enter Tryz.func36, Tryz.ntmps36
  go_wp2_with (first
    | (go_at_call 73; refine HL.out.mono ?_; rintro e w1 ⟨rfl, hb⟩; have HB := Lib.hid hb; clear hb)
    | (go_at_call 95; refine (seq_many _ _ _ _ _).mono ?_; rintro e w2 ⟨rfl, hb⟩; have HB2 := Lib.hid (bthen HB.out hb); clear hb)
    | (go_at_call 198; refine (mcursor_c (HC.out.later HB2.out)).mono ?_; rintro e w3 ⟨rfl, rfl⟩))
  go_ret
  exact ⟨rfl, HB2.out⟩
end
end Go.Proofs.YtdfcfdcekdmcmaaGreat
namespace Go.Proofs.YtdfcfdcekdmcmaaGreat
open Go.RowKit
set_option linter.unusedVariables false
section
variable {W0 W : World} {R : Rest} {s : Sh} {c sn sw st : Int} {sh gv : List Int} {sl o u : Value}
end
end Go.Proofs.YtdfcfdcekdmcmaaGreat
namespace Go.Proofs.YtdfcfdcekdmcmaaGreat
open Go.RowKit
set_option linter.unusedVariables false
section
variable {W0 W w w' : World} {Pd Pe : Rest → World → Prop} {R : Rest} {r g : Nat} {x : Array Value} {T U : TypeId} {v : Value} {n z : Nat} {ys : List Value}
theorem Bx.boxOut (hE : Bx W0 Pe) (h : Pe ((R.box W0.heap.size r x U).row W0.heap.size T z v n ys) w) : Pe ((R.row W0.heap.size T z v n ys).box W0.heap.size r x U) w := by
  obtain ⟨⟨i1, i2, i3, i4⟩, i5, i6⟩ := hE.inv h
  refine hE.le h (fun k hk => ?_) ⟨⟨i1, i5, fun k hk => i6 k (.inl hk)⟩, i2, ?_, i4⟩
  · rcases hk with (e | e) | e
    · exact .inl (.inl e)
    · exact .inr e
    · exact .inl (.inr e)
  · rintro (e | e)
    · exact i3 e
    · exact i6 r (.inr rfl) e
theorem sg_more (p a k cur : Nat) (ids : List Int) (cl pub sn sc : Int) (xs : List Int) (st : Int) (h : Sg R W0 w p a k cur ids cl pub sn sc xs st) (hb : Below w.heap.size w w') (ho : w'.ownsRow w.heap.size T z v n ys) : Sg (R.row W0.heap.size T z v n ys) W0 w' p a k cur ids cl pub sn sc xs st := by
  obtain ⟨cs, h1, h2⟩ := h
  exact ⟨cs, h1, (mv_bx W0 a xs st).boxOut (h2.more hb ho)⟩
end
end Go.Proofs.YtdfcfdcekdmcmaaGreat
namespace Go.Proofs.YtdfcfdcekdmcmaaGreat
open Go.RowKit
set_option linter.unusedVariables false
structure Bm (W0 : World) (Pd : Rest → World → Prop) : Prop extends Bx W0 Pd where
  more : ∀ (R : Rest) (w w' : World) (T : TypeId) (z : Nat) (v : Value) (n : Nat) (ys : List Value), Pd R w → Below w.heap.size w w' → w'.ownsRow w.heap.size T z v n ys → Pd (R.row W0.heap.size T z v n ys) w'
section
variable {W0 w w' : World} {Pd : Rest → World → Prop} {R : Rest} {r g : Nat} {x : Array Value} {T T' U : TypeId} {v v' : Value} {n n' z z' : Nat} {ys ys' : List Value}
theorem Bx.boxIn (hE : Bx W0 Pd) (h : Pd ((R.row W0.heap.size T z v n ys).box W0.heap.size r x U) w) : Pd ((R.box W0.heap.size r x U).row W0.heap.size T z v n ys) w := by
  obtain ⟨⟨i1, i5, i6⟩, i2, i3, i4⟩ := hE.inv h
  refine hE.le h (fun k hk => ?_) ⟨⟨i1, i2, fun e => i3 (.inl e), i4⟩, i5, ?_⟩
  · rcases hk with (e | e) | e
    · exact .inl (.inl e)
    · exact .inr e
    · exact .inl (.inr e)
  · rintro k (e | rfl)
    · exact i6 k e
    · exact fun e => i3 (.inr e)
theorem Bx.rowSwap (hE : Bx W0 Pd) (h : Pd ((R.row W0.heap.size T z v n ys).row W0.heap.size T' z' v' n' ys') w) : Pd ((R.row W0.heap.size T' z' v' n' ys').row W0.heap.size T z v n ys) w := by
  obtain ⟨⟨i1, i2, i3⟩, i5, i6⟩ := hE.inv h
  refine hE.le h (fun k hk => ?_) ⟨⟨i1, i5, fun k hk => i6 k (.inl hk)⟩, i2, ?_⟩
  · rcases hk with (e | e) | e
    · exact .inl (.inl e)
    · exact .inr e
    · exact .inl (.inr e)
  · rintro k (e | e)
    · exact i3 k e
    · exact fun e2 => i6 k (.inr e2) e
theorem bm_box (hB : Bm W0 Pd) (g : Nat) (x : Array Value) (U : TypeId) : Bm W0 fun R w => Pd (R.box W0.heap.size g x U) w where
  keep h hb := hB.keep h hb
  inv h := (hB.inv h).1
  new bx V h := hB.toBx.swap (hB.new bx V h)
  turn hU h hf hb := hB.toBx.swap (hB.turn hU (hB.toBx.swap h) hf hb)
  le h hp hi := by
    obtain ⟨i1, i2, i3, i4⟩ := hB.inv h
    exact hB.le h (fun k hk => hk.imp (hp k) id) ⟨hi, i2, fun e => i3 (hp _ e), i4⟩
  more R w w' T z v n ys h hb ho := hB.toBx.boxOut (hB.more _ _ _ _ _ _ _ _ h hb ho)
theorem bm_row (hB : Bm W0 Pd) (T : TypeId) (z : Nat) (v : Value) (n : Nat) (ys : List Value) : Bm W0 fun R w => Pd (R.row W0.heap.size T z v n ys) w where
  keep h hb := hB.keep h hb
  inv h := (hB.inv h).1
  new bx V h := hB.toBx.boxIn (hB.new bx V h)
  turn hU h hf hb := hB.toBx.boxIn (hB.turn hU (hB.toBx.boxOut h) hf hb)
  le h hp hi := by
    obtain ⟨i1, i2, i3⟩ := hB.inv h
    exact hB.le h (fun k hk => hk.imp (hp k) id) ⟨hi, i2, fun k hk => i3 k (hp k hk)⟩
  more R w w' T z v n ys h hb ho := hB.toBx.rowSwap (hB.more _ _ _ _ _ _ _ _ h hb ho)
theorem bm_ex {ι : Type} {P : ι → Rest → World → Prop} (hB : ∀ i, Bm W0 (P i)) : Bm W0 fun R w => ∃ i, P i R w where
  keep h hb := h.elim fun i h => ⟨i, (hB i).keep h hb⟩
  inv h := h.elim fun i h => (hB i).inv h
  new bx V h := h.elim fun i h => ⟨i, (hB i).new bx V h⟩
  turn hU h hf hb := h.elim fun i h => ⟨i, (hB i).turn hU h hf hb⟩
  le h hp hi := h.elim fun i h => ⟨i, (hB i).le h hp hi⟩
  more R w w' T z v n ys h hb ho := h.elim fun i h => ⟨i, (hB i).more R w w' T z v n ys h hb ho⟩
theorem bm_and (C : Prop) (hB : Bm W0 Pd) : Bm W0 fun R w => C ∧ Pd R w where
  keep h hb := ⟨h.1, hB.keep h.2 hb⟩
  inv h := hB.inv h.2
  new bx V h := ⟨h.1, hB.new bx V h.2⟩
  turn hU h hf hb := ⟨h.1, hB.turn hU h.2 hf hb⟩
  le h hp hi := ⟨h.1, hB.le h.2 hp hi⟩
  more R w w' T z v n ys h hb ho := ⟨h.1, hB.more R w w' T z v n ys h.2 hb ho⟩
end
theorem sg_bm (W0 : World) (p a k cur : Nat) (ids : List Int) (cl pub sn sc : Int) (xs : List Int) (st : Int) : Bm W0 fun R w => Sg R W0 w p a k cur ids cl pub sn sc xs st :=
  ⟨sg_bx W0 p a k cur ids cl pub sn sc xs st, fun R w w' T z v n ys h hb ho => sg_more p a k cur ids cl pub sn sc xs st h hb ho⟩
theorem mv_bm (W0 : World) (a : Nat) (xs : List Int) (st : Int) : Bm W0 fun R w => Mv R W0 w a xs st :=
  ⟨mv_bx W0 a xs st, fun R w w' T z v n ys h hb ho => h.more hb ho⟩
end Go.Proofs.YtdfcfdcekdmcmaaGreat
namespace Go.Proofs.YtdfcfdcekdmcmaaGreat
open Go.RowKit
set_option linter.unusedVariables false
section
variable {R : Rest} {W0 w : World} {r g a c t : Nat} {sl o m u rv : Value}
theorem find_at {i n cap rg : Nat} (op : ByteArray) (h : RgAt w r i g n cap rg sl o m u) : Calls Tryz.prog 69 #[.pointer (some ⟨r, 0, none⟩), .string op, .int .i64 i] w fun e w' => e = .returned (.tuple #[.pointer (some ⟨g, 0, none⟩), .nilIface]) ∧ Below w.heap.size w w' :=
  (rfind_ok op h.c3 h.lt h.le h.cg).mono fun e w' ⟨he, hw⟩ => ⟨he, hw ▸ Below.refl _ _⟩
end
end Go.Proofs.YtdfcfdcekdmcmaaGreat
namespace Go.Proofs.YtdfcfdcekdmcmaaGreat
open Go.RowKit
set_option linter.unusedVariables false
structure Bs (W0 : World) (Pd : Rest → World → Prop) : Prop extends Bm W0 Pd where
  grow : ∀ (R R' : Rest) (w w' : World), Pd R w → Below w.heap.size w w' → (∀ g, R'.prot g → R.prot g ∨ (w.heap.size ≤ g ∧ g < w'.heap.size)) → R'.inv w' → Pd R' w'
theorem mv_bs (W0 : World) (a : Nat) (xs : List Int) (st : Int) : Bs W0 fun R w => Mv R W0 w a xs st :=
  ⟨mv_bm W0 a xs st, fun R R' w w' h hb hp hi => h.turn2 (Frm.of_below hb fun _ => False) (fun _ h => h.elim) hp hi⟩
theorem sg_bs (W0 : World) (p a k cur : Nat) (ids : List Int) (cl pub sn sc : Int) (xs : List Int) (st : Int) : Bs W0 fun R w => Sg R W0 w p a k cur ids cl pub sn sc xs st :=
  ⟨sg_bm W0 p a k cur ids cl pub sn sc xs st, fun R R' w w' h hb hp hi => by
    obtain ⟨cs, h1, h2⟩ := h
    obtain ⟨i1, i2, i3, i4⟩ := h2.inv
    have hl := lt_of_block i2
    refine ⟨cs, h1, (mv_bs W0 a xs st).grow _ _ _ _ h2 hb (fun g hg => ?_) ⟨hi, blk_keep i2 hb, fun e => ?_, i4⟩⟩
    · rcases hg with hg | rfl
      · rcases hp g hg with e | e
        · exact .inl (.inl e)
        · exact .inr e
      · exact .inl (.inr rfl)
    · rcases hp _ e with e | e
      · exact i3 e
      · omega⟩
section
variable {W0 w w' : World} {Pd : Rest → World → Prop} {R : Rest} {sb rg rc k : Nat} {L : List Ev}
def Rest.slots (R : Rest) (B sb rg rc k : Nat) (L : List Ev) : Rest :=
  (R.box B sb #[.int .u8 k, .slice (some ⟨rg, 0, none⟩) L.length rc] 185).row B 86 2 (.slice (some ⟨rg, 0, none⟩) L.length rc) L.length (flat2 L)
theorem Bs.slots (hB : Bs W0 Pd) (h : Pd R w) (hlow : W0.heap.size ≤ w.heap.size) (hpl : ∀ g, R.prot g → g < w.heap.size) (hb : Below w.heap.size w w') (hr : Rg w' sb rg rc k L) (h1 : w.heap.size ≤ sb) (h2 : w.heap.size ≤ rg) : Pd (R.slots W0.heap.size sb rg rc k L) w' := by
  have hne := hr.ne
  refine hB.grow _ _ _ _ h hb (fun g hg => ?_) ⟨⟨R.ok _ _ (hB.inv h) fun g hg => hb.block g (hpl g hg), hr.1, fun e => by have := hpl _ e; omega, by omega⟩, row_up hr.2.1 fun q hq => ?_, fun q hq e => ?_⟩
  · rcases hg with (hg | rfl) | hg
    · exact .inl hg
    · exact .inr ⟨h1, hr.lt.1⟩
    · obtain rfl : rg = g := by simpa [Value.ownBlock] using hg
      exact .inr ⟨h2, hr.lt.2⟩
  · obtain rfl : rg = q := by simpa [Value.ownBlock] using hq
    omega
  · obtain rfl : rg = q := by simpa [Value.ownBlock] using e
    rcases hq with hq | hq
    · have := hpl _ hq
      omega
    · exact hne hq.symm
end
end Go.Proofs.YtdfcfdcekdmcmaaGreat
namespace Go.Proofs.YtdfcfdcekdmcmaaGreat
open Go.RowKit
set_option linter.unusedVariables false
structure Ri where
  p : Nat
  sb : Nat
  rg : Nat
  rc : Nat
def gOne (i : Ri) : Array Value := #[.pointer (some ⟨i.sb, 0, none⟩), .pointer (some ⟨i.p, 0, none⟩), .pointer none, .slice none 0 0]
def PeOne (W0 : World) (a k cur : Nat) (ids : List Int) (cl pub sn sc : Int) (xs : List Int) (st : Int) (L : List Ev) (i : Ri) (R : Rest) (w : World) : Prop :=
  Sg (R.slots W0.heap.size i.sb i.rg i.rc k L) W0 w i.p a k cur ids cl pub sn sc xs st
theorem peOne_bm (W0 : World) (a k cur : Nat) (ids : List Int) (cl pub sn sc : Int) (xs : List Int) (st : Int) (L : List Ev) (i : Ri) : Bm W0 (PeOne W0 a k cur ids cl pub sn sc xs st L i) :=
  bm_box (bm_row (sg_bm W0 i.p a k cur ids cl pub sn sc xs st) _ _ _ _ _) _ _ _
section
variable {R : Rest} {W0 W w : World} {a k n : Nat} {xs : List Int} {st : Int}
theorem Sg.prot_lt {p cur : Nat} {ids : List Int} {cl pub sn sc : Int} (h : Sg R W0 W p a k cur ids cl pub sn sc xs st) {g : Nat} (hg : R.prot g) : g < W.heap.size := by
  obtain ⟨cs, h1, h2⟩ := h
  exact h2.prot_lt (.inl hg)
set_option maxHeartbeats 1000000 in
set_option maxRecDepth 100000 in
theorem lay_one (h : Mv R W0 W a xs st) (hk : k ≤ 20) (hn : (n : Int) = two k) (hl : (xs.length : Int) < 2097152) :
    Calls Tryz.prog 80 #[.pointer (some ⟨a, 0, none⟩), .int .i64 (two k), .int .i64 0] W fun e w' => ∃ i g, e = .returned (.tuple #[.pointer (some ⟨g, 0, none⟩), .nilIface]) ∧ PeOne W0 a k xs.length [] (-1) (-1) (-1) 0 (xs ++ [-1]) st (List.replicate n (0, 0)) i (R.box W0.heap.size g (gOne i) 149) w' := by
  have hm := snew_ok (h.boxNew #[.pointer none, .pointer none, .pointer none, .slice none 0 0] 149) k hk hl
  have g1 := (obj_cell (obj_new W (.cells #[.pointer none, .pointer none, .pointer none, .slice none 0 0] 149)) 1).trans rfl
  have HM := Lib.hid hm
  have HS := Lib.hid (rnew_ok k n hk hn)
  clear h hm hn
  go_enter Tryz.func80, Tryz.ntmps80
  go_wp2_with (first
    | (go_at_call 122; refine HM.out.mono ?_; rintro e w1 ⟨p, rfl, hg⟩; have hbx := hg.boxIs; have k1 := (obj_cell hbx 1).trans rfl; have f1 := obj_free hbx 1; have HL := Lib.hid (hg.boxSet 1 (.pointer (some ⟨p, 0, none⟩))); generalize W.heap.size = g at *; clear hg hbx)
    | (go_at_call 123; refine (HS.out _).mono ?_; rintro e w2 ⟨sb, rg, rc, rfl, hrg, hb, q1, q2⟩; have H2 : Hid (PeOne W0 a k xs.length [] (-1) (-1) (-1) 0 (xs ++ [-1]) st (List.replicate n (0, 0)) ⟨p, sb, rg, rc⟩ (R.box W0.heap.size g #[.pointer none, .pointer (some ⟨p, 0, none⟩), .pointer none, .slice none 0 0] 149) w2) := Lib.hid ((sg_bs W0 p a k xs.length [] (-1) (-1) (-1) 0 (xs ++ [-1]) st).slots HL.out HL.out.below.size (fun g hg => HL.out.prot_lt hg) hb hrg (by omega) (by omega)); have k0 := (obj_cell ((peOne_bm W0 a k xs.length [] (-1) (-1) (-1) 0 (xs ++ [-1]) st (List.replicate n (0, 0)) ⟨p, sb, rg, rc⟩).toBx.is H2.out) 0).trans rfl; have f0 := obj_free ((peOne_bm W0 a k xs.length [] (-1) (-1) (-1) 0 (xs ++ [-1]) st (List.replicate n (0, 0)) ⟨p, sb, rg, rc⟩).toBx.is H2.out) 0; clear hb hrg q1 q2))
  go_ret2
  exact ⟨⟨p, sb, rg, rc⟩, _, rfl, (peOne_bm W0 a k xs.length [] (-1) (-1) (-1) 0 (xs ++ [-1]) st (List.replicate n (0, 0)) ⟨p, sb, rg, rc⟩).turn (by decide) H2.out ((Frm.refl (fun k => k = g) w2).setCell (p := ⟨g, 0, none⟩) rfl _) (obj_setCell _ ((peOne_bm W0 a k xs.length [] (-1) (-1) (-1) 0 (xs ++ [-1]) st (List.replicate n (0, 0)) ⟨p, sb, rg, rc⟩).toBx.is H2.out))⟩
end
end Go.Proofs.YtdfcfdcekdmcmaaGreat
namespace Go.Proofs.YtdfcfdcekdmcmaaGreat
open Go.RowKit
set_option linter.unusedVariables false
structure Rj where
  s : Sh
  sb : Nat
  rg : Nat
  rc : Nat
def gMany (i : Rj) : Array Value := #[.pointer (some ⟨i.sb, 0, none⟩), .pointer none, .pointer (some ⟨i.s.p, 0, none⟩), .slice none 0 0]
section
variable {R : Rest} {W0 W w : World} {a k n : Nat} {st : Int}
end
end Go.Proofs.YtdfcfdcekdmcmaaGreat
namespace Go.Proofs.YtdfcfdcekdmcmaaGreat
open Go.RowKit
set_option linter.unusedVariables false
section
variable {R : Rest} {W0 w w' : World} {r g a c t sb rg rc k : Nat} {sl o m u rv : Value} {L : List Ev}
def Rest.rm (R : Rest) (B r g a c t : Nat) (rv : Value) (G : Array Value) : Rest :=
  ((R.box B g G 149).row B 143 1 rv 1 [.pointer (some ⟨g, 0, none⟩)]).box B r #[.pointer (some ⟨a, 0, none⟩), .pointer (some ⟨c, 0, none⟩), .pointer (some ⟨t, 0, none⟩), rv] 109
structure Fn (R : Rest) (W0 w : World) (r g a c t sb rg rc k : Nat) (rv : Value) (G : Array Value) (L : List Ev) : Prop where
  rm : (R.rm W0.heap.size r g a c t rv G).inv w
  rg : Rg w sb rg rc k L
  bl : Below W0.heap.size W0 w
end
end Go.Proofs.YtdfcfdcekdmcmaaGreat
