/-
  GateNil: for every number and every bound the law returns true, and leaves its arguments as they were. No condition.
-/
import Derived.Test.YtdbjeaploanalaaRows
import Derived.Test.YtdbjeaploanalaaGate5
import Derived.Test.YtdbjeaploanalaaGate7
import Derived.Test.YtdbjeaploanalaaShut
import Derived.ProofKit
import Derived.OpenShut
namespace Go.Proofs.Ytdbjeaploanalaa.gateNil
open Go.ChangeShapes Go.WideShapes Go.ChangeAt Go.RowKit
set_option linter.unusedVariables false

theorem own : ownKnob Try.prog.godebug = none := by kernel_rfl

theorem of_three (w : World) (p : World) (hb : Below (w.alloc (.cells #[.int .i64 3] 3)).heap.size (w.alloc (.cells #[.int .i64 3] 3)) p) : Calls Try.prog 45 #[.slice (some ⟨w.heap.size, 0, none⟩) 1 1] p fun e w' => ∃ g, e = .returned (.tuple #[.pointer (some ⟨g, 0, none⟩), .nilIface]) ∧ Below p.heap.size p w' ∧ Gr w' g [3] ∧ p.heap.size ≤ g :=
  of_good (l := [3]) (ids := [3]) (ints_of hb rfl) (by decide) (by decide)

theorem loads_none_m {W0 W : World} {g b : Nat} {op : ByteArray} (h : Gr W g [3]) (ha : Mine W0 W b [] 0) : Calls Try.prog 74 #[.pointer (some ⟨g, 0, none⟩), .string op, .pointer (some ⟨b, 0, none⟩)] W fun e w' => ∃ E, e = .returned (.tuple #[.slice none 0 0, E]) ∧ Refused W w' E 3 := by
  obtain ⟨v, ha, _⟩ := ha
  exact loads_none op h ha ⟨0, by decide, by decide⟩
theorem sstep_m {W0 W : World} {b : Nat} {cs : Array Value} {m : Int} (h : Sc cs [3] 0 m) (ha : Mine W0 W b [] 0) : Calls Try.prog 52 #[.agg cs, .pointer (some ⟨b, 0, none⟩)] W fun e w' => ∃ E, e = .returned (.tuple #[.agg cs, E]) ∧ Refused W w' E 3 := by
  obtain ⟨v, ha, _⟩ := ha
  exact sstep_none h (by decide) (by decide) ha rfl (by decide)
set_option maxHeartbeats 4000000 in
set_option maxRecDepth 100000 in
theorem walkOf (a0 : Int) (w0 : (Lit.int .i64 a0).wf = true) (a1 : Int) (w1 : (Lit.int .i64 a1).wf = true) {W0 : World} :
    Calls Try.prog 9 #[.int .i64 a0, .int .i64 a1] W0 fun e w' => e = .returned (.bool true) ∧ Below W0.heap.size W0 w' := by
  clear w0 w1
  go_enter Try.func9, Try.ntmps9
  go_wp2_with (first
    | (go_at_call_of 46 (Value.pointer (some ⟨g, 0, none⟩)); refine (gleast_no a1 (loads_none_m HG5.out HM5.out)).mono ?_; rintro e w6 ⟨E6, rfl, hr⟩; have HM6 := Lib.hid (HM5.out.keep hr.below); have HG6 := Lib.hid (HG5.out.keepB hr.below); have HR6 := Lib.hid hr; clear hr)
    | (go_at_call_of 46 (Value.pointer none); refine (gleast_no a1 (loads_nila _ HG4.out)).mono ?_; rintro e w5 ⟨E5, rfl, hr⟩; have HM5 := Lib.hid (HM1.out.keep (bthen HR2.out.below (bthen HR3.out.below (bthen HB4.out hr.below)))); have HG5 := Lib.hid (HG4.out.keepB hr.below); have HR5 := Lib.hid hr; clear hr)
    | (go_at_call_of 46 (Value.pointer (some ⟨W0.heap.size, 0, none⟩)); refine (gleast_no a1 (loads_nilg _ (some ⟨W0.heap.size, 0, none⟩) _)).mono ?_; rintro e w2 ⟨E2, rfl, hr⟩; have HR2 := Lib.hid hr; clear hr)
    | (go_at_call 20; refine (new_m _).mono ?_; rintro e w1 ⟨rfl, hm⟩; have HM1 := Lib.hid hm; clear hm)
    | (go_at_call 48; refine (gwho_no (loads_nilg _ (some ⟨W0.heap.size, 0, none⟩) _)).mono ?_; rintro e w3 ⟨E3, rfl, hr⟩; have HR3 := Lib.hid hr; clear hr)
    | (go_at_call 45; refine (of_three _ _ (Below.refl _ _)).mono ?_; rintro e w4 ⟨g, rfl, hb, hg, _⟩; have HB4 := Lib.hid (bthen (balloc (Below.refl _ _) _) hb); have HG4 := Lib.hid hg; clear hb hg)
    | (go_at_call_of 49 (Value.pointer (some ⟨g, 0, none⟩)); refine (gscan_some' HG6.out a1).mono ?_; rintro e w7 ⟨cs, rfl, hs, hb⟩; have HS := Lib.hid hs; have HM7 := Lib.hid (HM6.out.keep hb); have HB7 := Lib.hid hb; clear hs hb)
    | (go_at_call 52; refine (sstep_m HS.out HM7.out).mono ?_; rintro e w8 ⟨E8, rfl, hr⟩; have HR8 := Lib.hid hr; clear hr)
    | (refine wpList_store_row rfl 86 (.tmp 17) (.tmp 59) rfl w8.heap.size cs rfl rfl 86 _ (obj_new _ _) HS.out.info (by rw [HS.out.size]; rfl) HS.out.one ?_; generalize hX : World.setRow _ _ _ = X; obtain ⟨hq, hb⟩ := stored_new hX; have HQ := Lib.hid hq; have HE8 := Lib.hid (HR8.out.hold hb); have HE6 := Lib.hid ((HR6.out.hold HB7.out).keep (bthen HR8.out.below hb)); have HE5 := Lib.hid ((HR5.out.hold HR6.out.below).keep (bthen HB7.out (bthen HR8.out.below hb))); have hb4 := bthen HR5.out.below (bthen HR6.out.below (bthen HB7.out (bthen HR8.out.below hb))); have HE3 := Lib.hid ((HR3.out.hold HB4.out).keep hb4); have HE2 := Lib.hid ((HR2.out.hold HR3.out.below).keep (bthen HB4.out hb4)); have HC := Lib.hid (Below.refl X.heap.size X); have HZ := Lib.hid (HM7.out.keep (bthen HR8.out.below hb)).below; clear hX hq hb hb4)
    | (go_at_call 37; refine (awake8 _).mono ?_; rintro e w9 ⟨rfl, hb⟩; replace HC := Lib.hid (bthen HC.out hb); clear hb)
    | (go_at_call 40; refine (add_nilg a0 _).mono ?_; rintro e w10 ⟨EA, rfl, hr⟩; replace HC := Lib.hid (bthen HC.out hr.below); have HA := Lib.hid (hr.hold (Below.refl _ _)); clear hr)
    | (go_at_call 38; refine (drop_nilg a0 _).mono ?_; rintro e w11 ⟨ED, rfl, hr⟩; replace HC := Lib.hid (bthen HC.out hr.below); have HD := Lib.hid (hr.hold (Below.refl _ _)); clear hr HA)
    | (go_at_call_of 12 EA; refine (isN_chain 2 EA 1 2 HA.out (by decide)).mono ?_; rintro e y ⟨rfl, rfl⟩)
    | (go_at_call_of 12 ED; refine (isN_chain 2 ED 1 2 HD.out (by decide)).mono ?_; rintro e y ⟨rfl, rfl⟩)
    | (go_at_call_of 12 E2; refine (isN_chain 2 E2 1 2 (HE2.out.keep HC.out) (by decide)).mono ?_; rintro e y ⟨rfl, rfl⟩)
    | (go_at_call_of 12 E3; refine (isN_chain 2 E3 1 2 (HE3.out.keep HC.out) (by decide)).mono ?_; rintro e y ⟨rfl, rfl⟩)
    | (go_at_call_of 12 E5; refine (isN_chain 2 E5 1 2 (HE5.out.keep HC.out) (by decide)).mono ?_; rintro e y ⟨rfl, rfl⟩)
    | (go_at_call_of 12 E6; refine (isN_chain 3 E6 1 3 (HE6.out.keep HC.out) (by decide)).mono ?_; rintro e y ⟨rfl, rfl⟩)
    | (go_at_call_of 12 E8; refine (isN_chain 3 E8 1 3 (HE8.out.keep HC.out) (by decide)).mono ?_; rintro e y ⟨rfl, rfl⟩)
    | (go_at_call 44; refine (glen_nil _).mono ?_; rintro e y ⟨rfl, rfl⟩)
    | (go_at_call 43; refine (gcells_nil _).mono ?_; rintro e y ⟨rfl, rfl⟩)
    | (go_at_call_of 49 (Value.pointer none); refine (gscan_nil' a1 _).mono ?_; rintro e w12 ⟨ns, rfl, hs, hb⟩; have HN := Lib.hid hs; replace HC := Lib.hid (bthen HC.out hb); clear hs hb)
    | (go_at_call_of 50 (Value.agg ns); refine (sdone HN.out _).mono ?_; rintro e w13 ⟨rfl, hb⟩; replace HC := Lib.hid (bthen HC.out hb); clear hb)
    | (go_at_call_of 51 (Value.agg ns); refine (sleast HN.out _).mono ?_; rintro e w14 ⟨rfl, hb⟩; replace HC := Lib.hid (bthen HC.out hb); clear hb)
    | (go_at_call_of 50 (Value.agg cs); refine (sdone HS.out _).mono ?_; rintro e w15 ⟨rfl, hb⟩; replace HC := Lib.hid (bthen HC.out hb); clear hb)
    | (go_at_call_of 51 (Value.agg cs); refine (sleast HS.out _).mono ?_; rintro e w16 ⟨rfl, hb⟩; replace HC := Lib.hid (bthen HC.out hb); clear hb)
    | (refine wpList_load_row_g rfl 86 (.tmp 17) rfl w8.heap.size rfl 86 cs (0, 0) _ ((HC.out.block _ (lt_of_block HQ.out)).trans HQ.out) Try.underlying86 rfl HS.out.info ?_))
  go_ret
  exact ⟨rfl, bthen HZ.out HC.out⟩

set_option maxRecDepth 100000 in
theorem lifted (os : Os) (started : os.Started) (H : Type) (enc : TypeId × Value → H) :
    ReturnsInHanded {} Try.checked os 9 .any (Rows.gateNilSpec.pre6 enc Try.prog Try.f9 Rows.gateNilRow.domain false) (Rows.gateNilSpec.post enc Try.prog Try.f9 false true false false) := by
  refine returnsInHanded_of_change (C := Try.checked) own started (by kernel_rfl) Try.func9
    (ChangeSpec.witness6 (enc := enc) (C := Try.checked) false ⟨#[], #[.int .i64 0, .int .i64 0], []⟩ 8 (by kernel_rfl) (by kernel_rfl) (by kernel_rfl) (by kernel_rfl)) ?_
  intro W base args ds gs before hval0 hW hcnd _
  have hval : ∀ (j : Nat) t v, Try.f9.params[j]? = some t → args[j]? = some v → Value.okWide Try.prog W .any base t v := hval0
  have hW' := hW
  have hlt : ∀ p ∈ before, p.block < W.heap.size := fun p hp => hW.lt p hp
  obtain ⟨p, q, hA0, hV, rfl, hfz, hnd⟩ := hW
  have hA : DataW.TrodAll enc Try.prog W 0 (fun _ => true) true Try.f9.params.toList args.toList ds p := hA0
  rw [Try.params9] at hA hval
  obtain ⟨v0, vs0, d0, ds0, p0, q0, hargs, rfl, rfl, h0, r0⟩ := trodAll_cons hA
  obtain ⟨v1, vs1, d1, ds1, p1, q1, rfl, rfl, rfl, h1, r1⟩ := trodAll_cons r0
  obtain ⟨rfl, rfl, rfl⟩ := trodAll_nil r1
  obtain rfl : args = #[v0, v1] := by cases args; simp_all
  obtain ⟨rfl, rfl⟩ := trodVars_none hV
  have t0 := h0
  obtain ⟨a0, rfl, _, _, w0⟩ := open_int Try.underlying3 (hval 0 3 v0 rfl rfl) h0
  have t1 := h1
  obtain ⟨a1, rfl, _, _, w1⟩ := open_int Try.underlying2 (hval 1 2 v1 rfl rfl) h1
  clear hA0 hval0
  refine (walkOf a0 w0 a1 w1 (W0 := W)).mono fun e W' ⟨he, hb⟩ => ?_
  subst he
  have lo : laidOutB Try.prog = true := by kernel_rfl
  have tsize : Try.prog.types.size = 170 := by kernel_rfl
  simp only [List.append_nil] at hW'
  refine ⟨_, rfl, shut_same hb hW' (fun _ _ _ => trodAll_cons_mk (shut_bool Try.underlying4 _) trodAll_mk0) ?_ rfl⟩
  have k0 := Below.trod lo (by kernel_rfl) (by rw [tsize]; decide) t0 hb (fun x hx => hlt x (by simp [hx]))
  have k1 := Below.trod lo (by kernel_rfl) (by rw [tsize]; decide) t1 hb (fun x hx => hlt x (by simp [hx]))
  have kk := (trodAll_cons_mk k0 (trodAll_cons_mk k1 trodAll_mk0))
  simp only [List.append_nil] at kk ⊢
  exact kk

theorem over : Rows.gateNilRow.holds Try.pinned (OpenSpec.ofChange Rows.gateNilSpec) :=
  OpenClaim.holds_of_wide 9 Try.f9 rfl rfl rfl rfl rfl rfl rfl ⟨rfl, rfl, rfl, rfl, rfl⟩ rfl rfl rfl rfl rfl (by kernel_rfl) Try.func9 (by kernel_rfl)
    (of_decide_eq_true (by kernel_rfl)) (by unfold Func.isWrapper; first | (rw [if_pos (by decide +kernel)]; kernel_rfl) | (rw [if_neg (by decide +kernel)]; exact ⟨rfl, rfl⟩))
    (fun os started H enc _ => lifted os started H enc)

theorem proved : Rows.GateNilSaid :=
  over
end Go.Proofs.Ytdbjeaploanalaa.gateNil
