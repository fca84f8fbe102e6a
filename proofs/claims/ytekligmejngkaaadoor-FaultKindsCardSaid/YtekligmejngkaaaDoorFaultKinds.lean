/-
  FaultKinds: for every list of links, number and list of numbers the law returns true, and leaves its arguments as they were. Condition: the library's listed variables hold what the program's text lays (the card ties them).
-/
import Derived.Test.YtekligmejngkaaaDoorCards
import Derived.Test.YtekligmejngkaaaDoorTie
import Derived.Test.YtekligmejngkaaaDoorKinds
import Derived.Test.YtekligmejngkaaaDoorOpen
import Derived.Test.YtekligmejngkaaaDoorPost
import Derived.ProofKit
import Derived.OpenShut
import Derived.Deep.DeepHandedRow
import Derived.ChangeMaps5
import Derived.ChangeSlices
namespace Go.Proofs.YtekligmejngkaaaDoor.faultKinds
open Go.ChangeShapes Go.WideShapes Go.ChangeAt Go.RowKit
set_option linter.unusedVariables false

theorem own : ownKnob Tryd.prog.godebug = none := by kernel_rfl

theorem kinds_big (v : Value) (l : List (ByteArray × Int)) (n : Int) (bb : Option Addr) (nl cap : Nat) (hlm : l.length ≤ maxLen) (hnl : nl ≤ maxLen) (hbig : smallB l = false ∨ 30 < nl) (W : World) (hL : Links W v l) (hg : Glob W) (ht : Tab W) :
    Calls Tryd.prog 4 #[v, .int .u8 n, .slice bb nl cap] W fun e w' => e = .returned (.bool true) ∧ Below W.heap.size W w' := by
  have HL := Lib.hid hL
  have HG := Lib.hid hg
  have HT := Lib.hid ht
  obtain ⟨aa, ca, rfl⟩ := hL.slice
  clear hL hg ht
  unfold maxLen at hlm hnl
  by_cases hs : smallB l = true
  · have h30 : 30 < nl := by
      rcases hbig with h | h
      · rw [hs] at h; exact absurd h (by decide)
      · exact h
    have HS := Lib.hid hs
    clear hbig hs
    go_enter Tryd.func4, Tryd.ntmps4
    go_wp2_with fail
    refine (small_any _ l HL.out (by omega)).mono ?_
    rw [HS.out]
    rintro e w1 ⟨rfl, hb1⟩
    go_wp2_with fail
    refine (awake1 (HG.out.keep hb1) (HT.out.keep hb1)).mono ?_
    rintro e w2 ⟨rfl, hb2⟩
    go_wp2
    go_ret
    exact ⟨rfl, bthen hb1 hb2⟩
  · have HS := Lib.hid (Bool.eq_false_iff.2 hs)
    clear hbig hs
    go_enter Tryd.func4, Tryd.ntmps4
    go_wp2_with fail
    refine (small_any _ l HL.out (by omega)).mono ?_
    rw [HS.out]
    rintro e w1 ⟨rfl, hb1⟩
    go_wp2_with fail
    refine (awake1 (HG.out.keep hb1) (HT.out.keep hb1)).mono ?_
    rintro e w2 ⟨rfl, hb2⟩
    go_wp2
    go_ret
    exact ⟨rfl, bthen hb1 hb2⟩

/-- A row of bytes that is read. -/
def Nums (W : World) (v : Value) : Prop :=
  ∃ bb nl cap, v = .slice bb nl cap ∧ nl ≤ maxLen ∧ (nl = 0 ∨ ∃ b off, ∃ zs : List Int, bb = some ⟨b, off, none⟩ ∧ zs.length = nl ∧ (∀ j, (h : j < zs.length) → W.cell? ⟨b, off + j, none⟩ = some (.int .u8 zs[j])) ∧ ∀ j, (h : j < zs.length) → 0 ≤ zs[j] ∧ zs[j] ≤ 255)
theorem open_nums {H : Type} {enc : TypeId × Value → H} {w : World} {base : Nat} {spare : Nat → Bool} {held : Bool} {fuel : Nat} {v : Value} {x : DataW H × List MemPlace} (h : DataW.trod enc Tryd.prog w base spare held fuel 45 [v] = some x) : Nums w v := by
  rcases open_ints Tryd.underlying45 Tryd.underlying5 (by kernel_rfl) h with ⟨h0, _⟩ | ⟨a, len, cap, zs, hcs, _, hl, hm, hlen, _, hcell, hwf⟩
  · simp at h0; subst h0
    exact ⟨none, 0, 0, rfl, Nat.zero_le _, Or.inl rfl⟩
  · simp at hcs; subst hcs
    have hle : len ≤ zs.length := by rw [hlen]; split <;> omega
    refine ⟨_, len, cap, rfl, by omega, ?_⟩
    rcases Nat.eq_zero_or_pos len with h0 | hpos
    · exact Or.inl h0
    · right
      obtain ⟨b, off, spot⟩ := a
      have hspot : spot = none := by simpa [Addr.add] using World.cell?_spot (hcell 0 (by omega))
      subst hspot
      refine ⟨b, off, zs.take len, rfl, by simp; omega, fun j hj => ?_, fun j hj => ?_⟩
      · have hj' : j < zs.length := by simp at hj; omega
        have := hcell j hj'
        rw [addr_add] at this
        rw [this]; simp [hj']
      · have hj' : j < zs.length := by simp at hj; omega
        have := u8_wf (hwf zs[j] (List.getElem_mem hj'))
        simpa using this

theorem kinds (v : Value) (l : List (ByteArray × Int)) (n : Int) (y : Value) (hlm : l.length ≤ maxLen) (hn : (Lit.int .u8 n).wf = true) (W : World) (hL : Links W v l) (hN : Nums W y) (hg : Glob W) (ht : Tab W) :
    Calls Tryd.prog 4 #[v, .int .u8 n, y] W fun e w' => e = .returned (.bool true) ∧ Below W.heap.size W w' := by
  obtain ⟨bb, nl, cap, rfl, hnl, hN⟩ := hN
  by_cases hbig : smallB l = false ∨ 30 < nl
  · exact kinds_big v l n bb nl cap hlm hnl hbig W hL hg ht
  · have hs : smallB l = true := by
      cases h : smallB l with
      | true => rfl
      | false => exact absurd (Or.inl h) hbig
    have h30 : nl ≤ 30 := by
      rcases Nat.lt_or_ge 30 nl with h | h
      · exact absurd (Or.inr h) hbig
      · exact h
    rcases hN with rfl | ⟨b, off, zs, rfl, rfl, hc, hz⟩
    · exact kinds_none v l n bb cap (u8_wf hn).1 (u8_wf hn).2 hs W hL hg ht
    · rcases Nat.eq_zero_or_pos zs.length with h0 | hpos
      · rw [h0]
        exact kinds_none v l n _ cap (u8_wf hn).1 (u8_wf hn).2 hs W hL hg ht
      · exact kinds_some v l n zs b off cap (u8_wf hn).1 (u8_wf hn).2 hz h30 hpos hs W hL hc hg ht

set_option maxRecDepth 100000 in
theorem contract (H : Type) (enc : TypeId × Value → H) (W : World) (base : Nat) (args : Array Value) (ds gs : List (DataW H)) (before : List MemPlace)
    (hval : ∀ (j : Nat) t v, Tryd.f4.params[j]? = some t → args[j]? = some v → Value.okWide Tryd.prog W .any base t v)
    (hW : DataW.Whole enc Tryd.prog Tryd.f4.params.toList Rows.faultKindsSpec.vars false W args.toList ds gs before) (hL : laidMetH Tryd.prog Rows.faultKindsRow.laid W) :
    Calls Tryd.prog 4 args W fun e W' => ∃ v, e = .returned v ∧ Rows.faultKindsSpec.post enc Tryd.prog Tryd.f4 false true false false W args v W' := by
  have hW' := hW
  have hlt : ∀ p ∈ before, p.block < W.heap.size := fun p hp => hW.lt p hp
  obtain ⟨p, q, hA0, hV, rfl, hfz, hnd⟩ := hW
  have hA : DataW.TrodAll enc Tryd.prog W 0 (fun _ => true) true Tryd.f4.params.toList args.toList ds p := hA0
  rw [Tryd.params4] at hA hval
  obtain ⟨v0, vs0, d0, ds0, p0, q0, hargs, rfl, rfl, h0, r0⟩ := trodAll_cons hA
  obtain ⟨v1, vs1, d1, ds1, p1, q1, rfl, rfl, rfl, h1, r1⟩ := trodAll_cons r0
  obtain ⟨v2, vs2, d2, ds2, p2, q2, rfl, rfl, rfl, h2, r2⟩ := trodAll_cons r1
  obtain ⟨rfl, rfl, rfl⟩ := trodAll_nil r2
  obtain rfl : args = #[v0, v1, v2] := by cases args; simp_all
  obtain ⟨rfl, rfl⟩ := trodVars_none hV
  obtain ⟨aa, len, cap, rfl⟩ := okWide_slice Tryd.underlying22 (hval 0 22 v0 rfl rfl)
  obtain ⟨l, hl, hlm, _⟩ : ∃ l : List (ByteArray × Int), Links W (.slice aa len cap) l ∧ l.length ≤ maxLen ∧ ∀ y ∈ l, (Lit.int .i64 y.2).wf = true := by
    obtain ⟨fuel, hf⟩ := h0
    exact open_links (by simpa [Value.cells] using hf)
  have t1 := h1
  have t2 := h2
  obtain ⟨n, rfl, _, _, w1⟩ := open_int Tryd.underlying5 (hval 1 5 v1 rfl rfl) h1
  have hN : Nums W v2 := by
    obtain ⟨aa2, len2, cap2, rfl⟩ := okWide_slice Tryd.underlying45 (hval 2 45 v2 rfl rfl)
    obtain ⟨fuel, hf⟩ := h2
    exact open_nums (by simpa [Value.cells] using hf)
  obtain ⟨hg, ht⟩ := env_of_laid hL
  refine (kinds _ l n v2 hlm w1 W hl hN hg ht).mono fun e W' ⟨he, hb⟩ => ?_
  subst he
  have lo : laidOutB Tryd.prog = true := by kernel_rfl
  simp only [List.append_nil] at hW'
  refine ⟨_, rfl, shut_same hb hW' (fun _ _ _ => trodAll_cons_mk (shut_bool Tryd.underlying4 _) trodAll_mk0) ?_ rfl⟩
  have k0 := Below.trod lo (by kernel_rfl) (by rw [tsize]; decide) h0 hb (fun x hx => hlt x (by simp [hx]))
  have k1 := Below.trod lo (by kernel_rfl) (by rw [tsize]; decide) t1 hb (fun x hx => hlt x (by simp [hx]))
  have k2 := Below.trod lo (by kernel_rfl) (by rw [tsize]; decide) t2 hb (fun x hx => hlt x (by simp [hx]))
  have := trodAll_cons_mk k0 (trodAll_cons_mk k1 (trodAll_cons_mk k2 trodAll_mk0))
  have e2 : (Rows.faultKindsSpec.fn H [d0, d1, d2]).args = [d0, d1, d2] := rfl
  simpa [e2] using this

def wargs : Array Value := #[.slice none 0 0, .int .u8 0, .slice none 0 0]
theorem laid_met (os : Os) : laidMetH Tryd.prog Rows.faultKindsRow.laid ((laidWorld os).forCall (fun _ _ => 0) ⟨#[], wargs, []⟩).memory :=
  laidMetH_of_parts (laidMet_of_run' 400 (by kernel_rfl) (by kernel_rfl)) (by kernel_rfl)
theorem reads (os : Os) {H : Type} (enc : TypeId × Value → H) : ∃ places, DataW.whole enc Tryd.prog ((laidWorld os).forCall (fun _ _ => 0) ⟨#[], wargs, []⟩).memory Tryd.f4.params.toList Rows.faultKindsSpec.vars false wargs.toList 8 = some ([.nil, .lit (.int .u8 0), .nil], [], places) :=
  ⟨[], by kernel_rfl⟩

set_option maxRecDepth 100000 in
theorem lifted (os : Os) (started : os.Started) (H : Type) (enc : TypeId × Value → H) (F : Stop.Interp) :
    ReturnsInHanded {} Tryd.checked os 4 .any ((OpenSpec.ofChange Rows.faultKindsSpec).preRow enc Tryd.prog Tryd.f4 Rows.faultKindsRow.domain false Rows.faultKindsRow.laid) (((OpenSpec.ofChange Rows.faultKindsSpec).at F).post enc Tryd.prog Tryd.f4 false true false false) := by
  obtain ⟨places, hx⟩ := reads os enc
  refine returnsInHanded_of_row (C := Tryd.checked) (s := OpenSpec.ofChange Rows.faultKindsSpec) own started (by kernel_rfl) Tryd.func4
    (witness_row_at (enc := enc) (C := Tryd.checked) false (laidWorld os) wargs rfl (by kernel_rfl) (by kernel_rfl) (by kernel_rfl)
      (OpenSpec.preRow_of_cond 8 hx (by kernel_rfl) (fun k hk => by cases hk) (by kernel_rfl) (laid_met os))) ?_
  intro W base args ds gs before hval hW _ _ _ hL _ _
  exact contract H enc W base args ds gs before hval hW hL

theorem said : Rows.FaultKindsSaid :=
  OpenClaim.holds_of_cond 4 Tryd.f4 rfl rfl rfl rfl rfl rfl rfl ⟨rfl, rfl, rfl, rfl, rfl⟩ rfl rfl rfl rfl rfl (by kernel_rfl) Tryd.func4 (by kernel_rfl)
    (of_decide_eq_true (by kernel_rfl)) (by unfold Func.isWrapper; first | (rw [if_pos (by decide +kernel)]; kernel_rfl) | (rw [if_neg (by decide +kernel)]; exact ⟨rfl, rfl⟩))
    (fun os started H enc _ F => by rw [OpenClaim.pre_eq_preRow]; exact lifted os started H enc F)

theorem plain (f : FuncId) (fn : Func) (hf : Tryd.pinned.checked.prog.funcNamed "noria/norialaw01.FaultKinds" = some f) (hfn : Tryd.pinned.checked.prog.funcs[f]? = some fn) :
    true = Tryd.pinned.checked.prog.looks [] ∧ ∀ (j : Nat) t, fn.params[j]? = some t → Tryd.pinned.checked.prog.wantsStandIn t = false := by
  obtain rfl : f = 4 := Option.some.inj ((show Tryd.prog.funcNamed "noria/norialaw01.FaultKinds" = some 4 by kernel_rfl).symm.trans hf) |>.symm
  obtain rfl : fn = Tryd.f4 := (Option.some.inj (Tryd.func4.symm.trans hfn)).symm
  refine ⟨by kernel_rfl, fun j t ht => ?_⟩
  rw [Tryd.params4] at ht
  have hm : t = 22 ∨ t = 5 ∨ t = 45 := by simpa using Array.mem_of_getElem? ht
  rcases hm with rfl | rfl | rfl
  · exact (show Tryd.prog.wantsStandIn 22 = false by kernel_rfl)
  · exact (show Tryd.prog.wantsStandIn 5 = false by kernel_rfl)
  · exact (show Tryd.prog.wantsStandIn 45 = false by kernel_rfl)

theorem proved : Rows.FaultKindsCardSaid :=
  Claim7.holds_tied_plain_at .later [] _ _ _ _ said (fun _ h => by cases h) (by kernel_rfl) (fun _ h => by cases h) faultKinds_row_tie rfl ⟨rfl, rfl⟩ (by kernel_rfl) rfl plain (by kernel_rfl)
end Go.Proofs.YtekligmejngkaaaDoor.faultKinds
