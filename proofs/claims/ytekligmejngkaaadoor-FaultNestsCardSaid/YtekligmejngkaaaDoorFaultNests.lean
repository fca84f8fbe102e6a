/-
  FaultNests: for every list of links, number, op and seq the law returns true, and leaves its arguments as they were. Condition: the library's listed variables hold what the program's text lays (the card ties them).
-/
import Derived.Test.YtekligmejngkaaaDoorCards
import Derived.Test.YtekligmejngkaaaDoorTie
import Derived.Test.YtekligmejngkaaaDoorNests
import Derived.Test.YtekligmejngkaaaDoorOpen
import Derived.Test.YtekligmejngkaaaDoorPost
import Derived.ProofKit
import Derived.OpenShut
import Derived.Deep.DeepHandedRow
import Derived.ChangeMaps5
namespace Go.Proofs.YtekligmejngkaaaDoor.faultNests
open Go.ChangeShapes Go.WideShapes Go.ChangeAt Go.RowKit
set_option linter.unusedVariables false

theorem own : ownKnob Tryd.prog.godebug = none := by kernel_rfl

theorem nests_big (v : Value) (l : List (ByteArray × Int)) (n : Int) (op : ByteArray) (seq : Int) (hlm : l.length ≤ maxLen) (hbig : smallB l = false ∨ 100 < op.size) (W : World) (hL : Links W v l) (hg : Glob W) (ht : Tab W) :
    Calls Tryd.prog 5 #[v, .int .u8 n, .string op, .int .i64 seq] W fun e w' => e = .returned (.bool true) ∧ Below W.heap.size W w' := by
  have HL := Lib.hid hL
  have HG := Lib.hid hg
  have HT := Lib.hid ht
  obtain ⟨aa, cap, rfl⟩ := hL.slice
  clear hL hg ht
  unfold maxLen at hlm
  by_cases hs : smallB l = true
  · have h100 : 100 < op.size := by
      rcases hbig with h | h
      · rw [hs] at h; exact absurd h (by decide)
      · exact h
    have HS := Lib.hid hs
    clear hbig hs
    go_enter Tryd.func5, Tryd.ntmps5
    go_wp2_with fail
    refine (small_any _ l HL.out (by omega)).mono ?_
    rw [HS.out]
    rintro e w1 ⟨rfl, hb1⟩
    go_wp2_with fail
    refine (awake1 (HG.out.keep hb1) (HT.out.keep hb1)).mono ?_
    rintro e w2 ⟨rfl, hb2⟩
    go_wp2
    go_ret
    exact ⟨rfl, bthen hb1 hb2⟩
  · have HS := Lib.hid (Bool.eq_false_iff.2 hs)
    clear hbig hs
    go_enter Tryd.func5, Tryd.ntmps5
    go_wp2_with fail
    refine (small_any _ l HL.out (by omega)).mono ?_
    rw [HS.out]
    rintro e w1 ⟨rfl, hb1⟩
    go_wp2_with fail
    refine (awake1 (HG.out.keep hb1) (HT.out.keep hb1)).mono ?_
    rintro e w2 ⟨rfl, hb2⟩
    go_wp2
    go_ret
    exact ⟨rfl, bthen hb1 hb2⟩

theorem nests (v : Value) (l : List (ByteArray × Int)) (n : Int) (op : ByteArray) (seq : Int) (hlm : l.length ≤ maxLen) (hn : (Lit.int .u8 n).wf = true) (W : World) (hL : Links W v l) (hg : Glob W) (ht : Tab W) :
    Calls Tryd.prog 5 #[v, .int .u8 n, .string op, .int .i64 seq] W fun e w' => e = .returned (.bool true) ∧ Below W.heap.size W w' := by
  by_cases hbig : smallB l = false ∨ 100 < op.size
  · exact nests_big v l n op seq hlm hbig W hL hg ht
  · have hs : smallB l = true := by
      cases h : smallB l with
      | true => rfl
      | false => exact absurd (Or.inl h) hbig
    have hop : op.size ≤ 100 := by
      rcases Nat.lt_or_ge 100 op.size with h | h
      · exact absurd (Or.inr h) hbig
      · exact h
    rcases List.eq_nil_or_concat l with h | ⟨p, x, h⟩
    · exact nests_nil v l n op seq h (u8_wf hn).1 (u8_wf hn).2 hop hs W hL hg ht
    · exact nests_last v l n op seq p x.1 x.2 (by rw [h]; simp) (u8_wf hn).1 (u8_wf hn).2 hop hs W hL hg ht

set_option maxRecDepth 100000 in
theorem contract (H : Type) (enc : TypeId × Value → H) (W : World) (base : Nat) (args : Array Value) (ds gs : List (DataW H)) (before : List MemPlace)
    (hval : ∀ (j : Nat) t v, Tryd.f5.params[j]? = some t → args[j]? = some v → Value.okWide Tryd.prog W .any base t v)
    (hW : DataW.Whole enc Tryd.prog Tryd.f5.params.toList Rows.faultNestsSpec.vars false W args.toList ds gs before) (hL : laidMetH Tryd.prog Rows.faultNestsRow.laid W) :
    Calls Tryd.prog 5 args W fun e W' => ∃ v, e = .returned v ∧ Rows.faultNestsSpec.post enc Tryd.prog Tryd.f5 false true false false W args v W' := by
  have hW' := hW
  have hlt : ∀ p ∈ before, p.block < W.heap.size := fun p hp => hW.lt p hp
  obtain ⟨p, q, hA0, hV, rfl, hfz, hnd⟩ := hW
  have hA : DataW.TrodAll enc Tryd.prog W 0 (fun _ => true) true Tryd.f5.params.toList args.toList ds p := hA0
  rw [Tryd.params5] at hA hval
  obtain ⟨v0, vs0, d0, ds0, p0, q0, hargs, rfl, rfl, h0, r0⟩ := trodAll_cons hA
  obtain ⟨v1, vs1, d1, ds1, p1, q1, rfl, rfl, rfl, h1, r1⟩ := trodAll_cons r0
  obtain ⟨v2, vs2, d2, ds2, p2, q2, rfl, rfl, rfl, h2, r2⟩ := trodAll_cons r1
  obtain ⟨v3, vs3, d3, ds3, p3, q3, rfl, rfl, rfl, h3, r3⟩ := trodAll_cons r2
  obtain ⟨rfl, rfl, rfl⟩ := trodAll_nil r3
  obtain rfl : args = #[v0, v1, v2, v3] := by cases args; simp_all
  obtain ⟨rfl, rfl⟩ := trodVars_none hV
  obtain ⟨aa, len, cap, rfl⟩ := okWide_slice Tryd.underlying22 (hval 0 22 v0 rfl rfl)
  obtain ⟨l, hl, hlm, _⟩ : ∃ l : List (ByteArray × Int), Links W (.slice aa len cap) l ∧ l.length ≤ maxLen ∧ ∀ y ∈ l, (Lit.int .i64 y.2).wf = true := by
    obtain ⟨fuel, hf⟩ := h0
    exact open_links (by simpa [Value.cells] using hf)
  have t1 := h1
  have t2 := h2
  have t3 := h3
  obtain ⟨n, rfl, _, _, w1⟩ := open_int Tryd.underlying5 (hval 1 5 v1 rfl rfl) h1
  obtain ⟨s, rfl, _, _, _⟩ := Go.ChangeMaps.open_string Tryd.underlying9 (hval 2 9 v2 rfl rfl) h2
  obtain ⟨m, rfl, _, _, w3⟩ := open_int Tryd.underlying2 (hval 3 2 v3 rfl rfl) h3
  obtain ⟨hg, ht⟩ := env_of_laid hL
  refine (nests _ l n s m hlm w1 W hl hg ht).mono fun e W' ⟨he, hb⟩ => ?_
  subst he
  have lo : laidOutB Tryd.prog = true := by kernel_rfl
  simp only [List.append_nil] at hW'
  refine ⟨_, rfl, shut_same hb hW' (fun _ _ _ => trodAll_cons_mk (shut_bool Tryd.underlying4 _) trodAll_mk0) ?_ rfl⟩
  have k0 := Below.trod lo (by kernel_rfl) (by rw [tsize]; decide) h0 hb (fun x hx => hlt x (by simp [hx]))
  have k1 := Below.trod lo (by kernel_rfl) (by rw [tsize]; decide) t1 hb (fun x hx => hlt x (by simp [hx]))
  have k2 := Below.trod lo (by kernel_rfl) (by rw [tsize]; decide) t2 hb (fun x hx => hlt x (by simp [hx]))
  have k3 := Below.trod lo (by kernel_rfl) (by rw [tsize]; decide) t3 hb (fun x hx => hlt x (by simp [hx]))
  have := trodAll_cons_mk k0 (trodAll_cons_mk k1 (trodAll_cons_mk k2 (trodAll_cons_mk k3 trodAll_mk0)))
  have e2 : (Rows.faultNestsSpec.fn H [d0, d1, d2, d3]).args = [d0, d1, d2, d3] := rfl
  simpa [e2] using this

def wargs : Array Value := #[.slice none 0 0, .int .u8 0, .string ⟨#[]⟩, .int .i64 0]
theorem laid_met (os : Os) : laidMetH Tryd.prog Rows.faultNestsRow.laid ((laidWorld os).forCall (fun _ _ => 0) ⟨#[], wargs, []⟩).memory :=
  laidMetH_of_parts (laidMet_of_run' 400 (by kernel_rfl) (by kernel_rfl)) (by kernel_rfl)
theorem reads (os : Os) {H : Type} (enc : TypeId × Value → H) : ∃ places, DataW.whole enc Tryd.prog ((laidWorld os).forCall (fun _ _ => 0) ⟨#[], wargs, []⟩).memory Tryd.f5.params.toList Rows.faultNestsSpec.vars false wargs.toList 8 = some ([.nil, .lit (.int .u8 0), .lit (.string []), .lit (.int .i64 0)], [], places) :=
  ⟨[], by kernel_rfl⟩

set_option maxRecDepth 100000 in
theorem lifted (os : Os) (started : os.Started) (H : Type) (enc : TypeId × Value → H) (F : Stop.Interp) :
    ReturnsInHanded {} Tryd.checked os 5 .any ((OpenSpec.ofChange Rows.faultNestsSpec).preRow enc Tryd.prog Tryd.f5 Rows.faultNestsRow.domain false Rows.faultNestsRow.laid) (((OpenSpec.ofChange Rows.faultNestsSpec).at F).post enc Tryd.prog Tryd.f5 false true false false) := by
  obtain ⟨places, hx⟩ := reads os enc
  refine returnsInHanded_of_row (C := Tryd.checked) (s := OpenSpec.ofChange Rows.faultNestsSpec) own started (by kernel_rfl) Tryd.func5
    (witness_row_at (enc := enc) (C := Tryd.checked) false (laidWorld os) wargs rfl (by kernel_rfl) (by kernel_rfl) (by kernel_rfl)
      (OpenSpec.preRow_of_cond 8 hx (by kernel_rfl) (fun k hk => by cases hk) (by kernel_rfl) (laid_met os))) ?_
  intro W base args ds gs before hval hW _ _ _ hL _ _
  exact contract H enc W base args ds gs before hval hW hL

theorem said : Rows.FaultNestsSaid :=
  OpenClaim.holds_of_cond 5 Tryd.f5 rfl rfl rfl rfl rfl rfl rfl ⟨rfl, rfl, rfl, rfl, rfl⟩ rfl rfl rfl rfl rfl (by kernel_rfl) Tryd.func5 (by kernel_rfl)
    (of_decide_eq_true (by kernel_rfl)) (by unfold Func.isWrapper; first | (rw [if_pos (by decide +kernel)]; kernel_rfl) | (rw [if_neg (by decide +kernel)]; exact ⟨rfl, rfl⟩))
    (fun os started H enc _ F => by rw [OpenClaim.pre_eq_preRow]; exact lifted os started H enc F)

theorem plain (f : FuncId) (fn : Func) (hf : Tryd.pinned.checked.prog.funcNamed "noria/norialaw01.FaultNests" = some f) (hfn : Tryd.pinned.checked.prog.funcs[f]? = some fn) :
    true = Tryd.pinned.checked.prog.looks [] ∧ ∀ (j : Nat) t, fn.params[j]? = some t → Tryd.pinned.checked.prog.wantsStandIn t = false := by
  obtain rfl : f = 5 := Option.some.inj ((show Tryd.prog.funcNamed "noria/norialaw01.FaultNests" = some 5 by kernel_rfl).symm.trans hf) |>.symm
  obtain rfl : fn = Tryd.f5 := (Option.some.inj (Tryd.func5.symm.trans hfn)).symm
  refine ⟨by kernel_rfl, fun j t ht => ?_⟩
  rw [Tryd.params5] at ht
  have hm : t = 22 ∨ t = 5 ∨ t = 9 ∨ t = 2 := by simpa using Array.mem_of_getElem? ht
  rcases hm with rfl | rfl | rfl | rfl
  · exact (show Tryd.prog.wantsStandIn 22 = false by kernel_rfl)
  · exact (show Tryd.prog.wantsStandIn 5 = false by kernel_rfl)
  · exact (show Tryd.prog.wantsStandIn 9 = false by kernel_rfl)
  · exact (show Tryd.prog.wantsStandIn 2 = false by kernel_rfl)

theorem proved : Rows.FaultNestsCardSaid :=
  Claim7.holds_tied_plain_at .later [] _ _ _ _ said (fun _ h => by cases h) (by kernel_rfl) (fun _ h => by cases h) faultNests_row_tie rfl ⟨rfl, rfl⟩ (by kernel_rfl) rfl plain (by kernel_rfl)
end Go.Proofs.YtekligmejngkaaaDoor.faultNests
