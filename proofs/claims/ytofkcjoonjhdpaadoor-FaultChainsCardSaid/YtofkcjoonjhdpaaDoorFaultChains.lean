/-
  FaultChains: for every list of links and number the law returns true, and leaves its arguments as they were. Condition: the library's listed variables hold what the program's text lays (the card ties them).
-/
import Derived.Test.YtofkcjoonjhdpaaDoorCards
import Derived.Test.YtofkcjoonjhdpaaDoorTie
import Derived.Test.YtofkcjoonjhdpaaDoorChains2
import Derived.Test.YtofkcjoonjhdpaaDoorOpen
import Derived.Test.YtofkcjoonjhdpaaDoorPost
import Derived.ProofKit
import Derived.OpenShut
import Derived.Deep.DeepHandedRow
import Derived.ChangeMaps5
namespace Go.Proofs.YtofkcjoonjhdpaaDoor.faultChains
open Go.ChangeShapes Go.WideShapes Go.ChangeAt Go.RowKit
set_option linter.unusedVariables false

theorem own : ownKnob Tryd.prog.godebug = none := by kernel_rfl

theorem chains_big (v : Value) (l : List (ByteArray × Int)) (n : Int) (hlm : l.length ≤ maxLen) (hbig : smallB l = false) (W : World) (hL : Links W v l) (hg : Glob W) (ht : Tab W) :
    Calls Tryd.prog 3 #[v, .int .u8 n] W fun e w' => e = .returned (.bool true) ∧ Below W.heap.size W w' := by
  have HL := Lib.hid hL
  have HG := Lib.hid hg
  have HT := Lib.hid ht
  obtain ⟨aa, ca, rfl⟩ := hL.slice
  clear hL hg ht
  unfold maxLen at hlm
  have HS := Lib.hid hbig
  clear hbig
  go_enter Tryd.func3, Tryd.ntmps3
  go_wp2_with fail
  refine (small_any _ l HL.out (by omega)).mono ?_
  rw [HS.out]
  rintro e w1 ⟨rfl, hb1⟩
  go_wp2_with fail
  refine (awake1 (HG.out.keep hb1) (HT.out.keep hb1)).mono ?_
  rintro e w2 ⟨rfl, hb2⟩
  go_wp2
  go_ret
  exact ⟨rfl, bthen hb1 hb2⟩

theorem small_of {l : List (ByteArray × Int)} (h : smallB l = true) (hw : ∀ y ∈ l, (Lit.int .i64 y.2).wf = true) : Small l := by
  intro x hx
  have h2 := i64_wf (hw x hx)
  unfold smallB at h
  rw [Bool.and_eq_true, List.all_eq_true] at h
  have := h.2 x hx
  exact ⟨by simpa using this, h2.1, h2.2⟩

theorem chains (v : Value) (l : List (ByteArray × Int)) (n : Int) (hlm : l.length ≤ maxLen) (hn : (Lit.int .u8 n).wf = true) (hw : ∀ y ∈ l, (Lit.int .i64 y.2).wf = true) (W : World) (hL : Links W v l) (hg : Glob W) (ht : Tab W) :
    Calls Tryd.prog 3 #[v, .int .u8 n] W fun e w' => e = .returned (.bool true) ∧ Below W.heap.size W w' := by
  cases hs : smallB l with
  | false => exact chains_big v l n hlm hs W hL hg ht
  | true =>
    rcases hL with hL' | ⟨hne, b, off, cap, rfl, hc⟩
    · exact chains_nil v l n hL'.1 (u8_wf hn).1 (u8_wf hn).2 hs W (Or.inl hL') hg ht
    · obtain ⟨x0, t, hx⟩ : ∃ x0 t, l = x0 :: t := by
        cases l with
        | nil => exact absurd rfl hne
        | cons x t => exact ⟨x, t, rfl⟩
      have hm : l.length = t.length + 1 := by rw [hx]; rfl
      have hl := List.dropLast_concat_getLast hne
      rw [hm]
      exact chains_some l t.length n x0 t l.dropLast (l.getLast hne).1 (l.getLast hne).2 hm hx hl.symm b off cap (u8_wf hn).1 (u8_wf hn).2 hs (small_of hs hw) W hc hg ht

set_option maxRecDepth 100000 in
theorem contract (H : Type) (enc : TypeId × Value → H) (W : World) (base : Nat) (args : Array Value) (ds gs : List (DataW H)) (before : List MemPlace)
    (hval : ∀ (j : Nat) t v, Tryd.f3.params[j]? = some t → args[j]? = some v → Value.okWide Tryd.prog W .any base t v)
    (hW : DataW.Whole enc Tryd.prog Tryd.f3.params.toList Rows.faultChainsSpec.vars false W args.toList ds gs before) (hL : laidMetH Tryd.prog Rows.faultChainsRow.laid W) :
    Calls Tryd.prog 3 args W fun e W' => ∃ v, e = .returned v ∧ Rows.faultChainsSpec.post enc Tryd.prog Tryd.f3 false true false false W args v W' := by
  have hW' := hW
  have hlt : ∀ p ∈ before, p.block < W.heap.size := fun p hp => hW.lt p hp
  obtain ⟨p, q, hA0, hV, rfl, hfz, hnd⟩ := hW
  have hA : DataW.TrodAll enc Tryd.prog W 0 (fun _ => true) true Tryd.f3.params.toList args.toList ds p := hA0
  rw [Tryd.params3] at hA hval
  obtain ⟨v0, vs0, d0, ds0, p0, q0, hargs, rfl, rfl, h0, r0⟩ := trodAll_cons hA
  obtain ⟨v1, vs1, d1, ds1, p1, q1, rfl, rfl, rfl, h1, r1⟩ := trodAll_cons r0
  obtain ⟨rfl, rfl, rfl⟩ := trodAll_nil r1
  obtain rfl : args = #[v0, v1] := by cases args; simp_all
  obtain ⟨rfl, rfl⟩ := trodVars_none hV
  obtain ⟨aa, len, cap, rfl⟩ := okWide_slice Tryd.underlying22 (hval 0 22 v0 rfl rfl)
  obtain ⟨l, hl, hlm, hlw⟩ : ∃ l : List (ByteArray × Int), Links W (.slice aa len cap) l ∧ l.length ≤ maxLen ∧ ∀ y ∈ l, (Lit.int .i64 y.2).wf = true := by
    obtain ⟨fuel, hf⟩ := h0
    exact open_links (by simpa [Value.cells] using hf)
  have t1 := h1
  obtain ⟨n, rfl, _, _, w1⟩ := open_int Tryd.underlying5 (hval 1 5 v1 rfl rfl) h1
  obtain ⟨hg, ht⟩ := env_of_laid hL
  refine (chains _ l n hlm w1 hlw W hl hg ht).mono fun e W' ⟨he, hb⟩ => ?_
  subst he
  have lo : laidOutB Tryd.prog = true := by kernel_rfl
  simp only [List.append_nil] at hW'
  refine ⟨_, rfl, shut_same hb hW' (fun _ _ _ => trodAll_cons_mk (shut_bool Tryd.underlying4 _) trodAll_mk0) ?_ rfl⟩
  have k0 := Below.trod lo (by kernel_rfl) (by rw [tsize]; decide) h0 hb (fun x hx => hlt x (by simp [hx]))
  have k1 := Below.trod lo (by kernel_rfl) (by rw [tsize]; decide) t1 hb (fun x hx => hlt x (by simp [hx]))
  have := trodAll_cons_mk k0 (trodAll_cons_mk k1 trodAll_mk0)
  have e2 : (Rows.faultChainsSpec.fn H [d0, d1]).args = [d0, d1] := rfl
  simpa [e2] using this

def wargs : Array Value := #[.slice none 0 0, .int .u8 0]
theorem laid_met (os : Os) : laidMetH Tryd.prog Rows.faultChainsRow.laid ((laidWorld os).forCall (fun _ _ => 0) ⟨#[], wargs, []⟩).memory :=
  laidMetH_of_parts (laidMet_of_run' 400 (by kernel_rfl) (by kernel_rfl)) (by kernel_rfl)
theorem reads (os : Os) {H : Type} (enc : TypeId × Value → H) : ∃ places, DataW.whole enc Tryd.prog ((laidWorld os).forCall (fun _ _ => 0) ⟨#[], wargs, []⟩).memory Tryd.f3.params.toList Rows.faultChainsSpec.vars false wargs.toList 8 = some ([.nil, .lit (.int .u8 0)], [], places) :=
  ⟨[], by kernel_rfl⟩

set_option maxRecDepth 100000 in
theorem lifted (os : Os) (started : os.Started) (H : Type) (enc : TypeId × Value → H) (F : Stop.Interp) :
    ReturnsInHanded {} Tryd.checked os 3 .any ((OpenSpec.ofChange Rows.faultChainsSpec).preRow enc Tryd.prog Tryd.f3 Rows.faultChainsRow.domain false Rows.faultChainsRow.laid) (((OpenSpec.ofChange Rows.faultChainsSpec).at F).post enc Tryd.prog Tryd.f3 false true false false) := by
  obtain ⟨places, hx⟩ := reads os enc
  refine returnsInHanded_of_row (C := Tryd.checked) (s := OpenSpec.ofChange Rows.faultChainsSpec) own started (by kernel_rfl) Tryd.func3
    (witness_row_at (enc := enc) (C := Tryd.checked) false (laidWorld os) wargs rfl (by kernel_rfl) (by kernel_rfl) (by kernel_rfl)
      (OpenSpec.preRow_of_cond 8 hx (by kernel_rfl) (fun k hk => by cases hk) (by kernel_rfl) (laid_met os))) ?_
  intro W base args ds gs before hval hW _ _ _ hL _ _
  exact contract H enc W base args ds gs before hval hW hL

theorem said : Rows.FaultChainsSaid :=
  OpenClaim.holds_of_cond 3 Tryd.f3 rfl rfl rfl rfl rfl rfl rfl ⟨rfl, rfl, rfl, rfl, rfl⟩ rfl rfl rfl rfl rfl (by kernel_rfl) Tryd.func3 (by kernel_rfl)
    (of_decide_eq_true (by kernel_rfl)) (by unfold Func.isWrapper; first | (rw [if_pos (by decide +kernel)]; kernel_rfl) | (rw [if_neg (by decide +kernel)]; exact ⟨rfl, rfl⟩))
    (fun os started H enc _ F => by rw [OpenClaim.pre_eq_preRow]; exact lifted os started H enc F)

theorem plain (f : FuncId) (fn : Func) (hf : Tryd.pinned.checked.prog.funcNamed "noria/norialaw01.FaultChains" = some f) (hfn : Tryd.pinned.checked.prog.funcs[f]? = some fn) :
    true = Tryd.pinned.checked.prog.looks [] ∧ ∀ (j : Nat) t, fn.params[j]? = some t → Tryd.pinned.checked.prog.wantsStandIn t = false := by
  obtain rfl : f = 3 := Option.some.inj ((show Tryd.prog.funcNamed "noria/norialaw01.FaultChains" = some 3 by kernel_rfl).symm.trans hf) |>.symm
  obtain rfl : fn = Tryd.f3 := (Option.some.inj (Tryd.func3.symm.trans hfn)).symm
  refine ⟨by kernel_rfl, fun j t ht => ?_⟩
  rw [Tryd.params3] at ht
  have hm : t = 22 ∨ t = 5 := by simpa using Array.mem_of_getElem? ht
  rcases hm with rfl | rfl
  · exact (show Tryd.prog.wantsStandIn 22 = false by kernel_rfl)
  · exact (show Tryd.prog.wantsStandIn 5 = false by kernel_rfl)

theorem proved : Rows.FaultChainsCardSaid :=
  Claim7.holds_tied_plain_at .later [] _ _ _ _ said (fun _ h => by cases h) (by kernel_rfl) (fun _ h => by cases h) faultChains_row_tie rfl ⟨rfl, rfl⟩ (by kernel_rfl) rfl plain (by kernel_rfl)
end Go.Proofs.YtofkcjoonjhdpaaDoor.faultChains
