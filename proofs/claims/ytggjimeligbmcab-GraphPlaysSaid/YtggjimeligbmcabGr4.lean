/-
  The search of package graph, and Reach, by contract. Conditions: a graph in which nobody is behind itself.
-/
import Derived.Test.YtggjimeligbmcabGr3
import Derived.Deep.LoopGhost
import Derived.WalkMore
namespace Go.Proofs.Ytggjimeligbmcab
open Go.RowKit
set_option linter.unusedVariables false

theorem results_row {P : Program} {fn : Func} {p : Tmp} {ty : TypeId} (h : fn.results = #[.cell p ty]) (tmps : Array Value) (w : World) (g : Nat) (t : TypeId) (cs : Array Value) (d : TypeDesc)
    (hp : tmps.getD p undef = .pointer (some ⟨g, 0, none⟩)) (hg : w.heap[g]? = some (.cells cs t (0, 0)))
    (hu : P.underlying ty = some d) (hd : (match d with | .struct _ | .array _ _ => true | _ => false) = true) (hi : (P.info? ty).map (·.size) = some cs.size) :
    (results fn tmps).run P w = .ok (.agg cs) w := results_cell_row h tmps w g t cs (0, 0) d hp hg hu hd hi
theorem bsetRow {W w : World} {g : Nat} (h : Below W.heap.size W w) (hg : W.heap.size ≤ g) (cs : Array Value) : Below W.heap.size W (w.setRow g cs) :=
  ((Frm.of_below h fun k => k = g).setRow rfl cs).below (Nat.le_refl _) fun k hk => by omega
/-- A row without its last number. -/
theorem FL.cut {W w : World} {b c k t : Nat} {st : List Nat} (h : FL W w (.slice (some ⟨b, 0, none⟩) (k + 1) c) (st ++ [t])) (hk : st.length = k) : FL W w (.slice (some ⟨b, 0, none⟩) k c) st := by
  obtain ⟨⟨h1, h2⟩, hb⟩ := h
  refine ⟨⟨by simp [ints], ?_⟩, hb⟩
  rcases h2 with ⟨h2, _⟩ | ⟨g, cap, cur, he, hg, hh, i1, i2, i3, i4⟩
  · cases h2
  · simp only [Value.slice.injEq, Option.some.injEq, Addr.mk.injEq] at he
    obtain ⟨⟨rfl, -⟩, hl, rfl⟩ := he
    refine .inr ⟨b, c, cur, by rw [hk], hg, hh, by rw [hk]; omega, i2, i3, ?_⟩
    have : ints (st ++ [t]) = ints st ++ [.int .i64 (t : Int)] := by simp [ints]
    rw [this] at i4
    have h4 := congrArg (List.take (st.length * 1)) i4
    rw [List.take_take, List.take_append_of_le_length (by simp [ints])] at h4
    rw [show min (st.length * 1) ((st ++ [t]).length * 1) = st.length * 1 by simp] at h4
    rw [h4, List.take_of_length_le (by simp [ints])]
/-- What the search has in memory. -/
structure Rs (G : List Nd) (n : Nat) (W w : World) (rb sb : Nat) (v : Value) (st : List Nat) (m : Nat → Bool) : Prop where
  r : Mk w rb (fun _ => false)
  s : Mk w sb m
  f : FL W w v st
  d : Dfs G n st m
  lo : W.heap.size ≤ rb ∧ W.heap.size ≤ sb ∧ rb ≠ sb
section
variable {w w' W : World} {g c q n : Nat} {G : List Nd} {pn : Option Addr} {S : List Value} {rb sb : Nat} {v v' : Value} {st : List Nat} {m : Nat → Bool}
theorem Rs.keep (h : Rs G n W w rb sb v st m) (hb : Below w.heap.size w w') : Rs G n W w' rb sb v st m := ⟨h.r.keep hb, h.s.keep hb, h.f.keep hb, h.d, h.lo⟩
theorem Rs.push {t a : Nat} (h : Rs G n W w rb sb v (st ++ [t]) m) (ha : a ∈ aft G t) (hm : m a = false) (h64 : a < 64)
    (hown : w'.ownsRow 0 3 1 v' ((st ++ [t]).length + 1) (ints (st ++ [t]) ++ [.int .i64 (a : Int)])) {b : Nat} (hf : Frm (fun b => v.ownBlock = some b) ((w.setCell ⟨sb, a, none⟩ (.bool true)).alloc (.cells #[.int .i64 (a : Int)] 3)) w') (hv : v'.ownBlock = v.ownBlock ∨ ∀ g, v'.ownBlock = some g → ((w.setCell ⟨sb, a, none⟩ (.bool true)).alloc (.cells #[.int .i64 (a : Int)] 3)).heap.size ≤ g) :
    Rs G n W w' rb sb v' (st ++ [t] ++ [a]) (upd m a) := by
  have k1 : Mk (w.setCell ⟨sb, a, none⟩ (.bool true)) sb (upd m a) := h.s.set h64
  have k0 : Mk (w.setCell ⟨sb, a, none⟩ (.bool true)) rb (fun _ => false) := (heap_setCell_other w ⟨sb, a, none⟩ rb (.bool true) (by simp; exact fun e => h.lo.2.2 (by omega))).trans h.r
  have f1 : FL W (w.setCell ⟨sb, a, none⟩ (.bool true)) v (st ++ [t]) := ⟨((Frm.refl (fun k => k = sb) w).setCell (p := ⟨sb, a, none⟩) rfl _).row h.f.1 fun g hg e => row_ne h.f.1 h.s (by decide) (e ▸ hg), h.f.2.setCell h.lo.2.1 _⟩
  have hb := balloc (Below.refl (w.setCell ⟨sb, a, none⟩ (.bool true)).heap.size (w.setCell ⟨sb, a, none⟩ (.bool true))) (.cells #[.int .i64 (a : Int)] 3)
  have f2 := f1.keep hb
  exact ⟨hf.obj (k0.keep hb) fun e => row_ne f2.1 (k0.keep hb) (by decide) e, hf.obj (k1.keep hb) fun e => row_ne f2.1 (k1.keep hb) (by decide) e, f2.app hown hf hv, h.d.push ha hm h64, h.lo⟩

set_option maxHeartbeats 2000000 in
set_option maxRecDepth 100000 in
theorem greached (h : Gr W g G pn c q S) (hG : GOk G) (hn : hasB G n = true) :
    Calls Try.prog 38 #[.pointer (some ⟨g, 0, none⟩), .int .i64 (n : Int)] W fun e w' => ∃ m, e = .returned (.agg (mkC m)) ∧ (∀ x, m x = true ↔ Rch G n x) ∧ Below W.heap.size W w' := by
  have HH := Lib.hid h
  have HG := Lib.hid hG
  have hlen := hG.len
  have hnl := has_lt hn
  obtain rfl := h.at_ (by omega)
  obtain ⟨i0, hi, hz0, hz1, hz2⟩ := info_parts infoN
  have HN0 := Lib.hid hn
  clear h hG hn hnl
  go_enter Try.func38, Try.ntmps38
  go_wp2_with (refine wpList_alloc_marks 4 rfl rfl rfl ?_; intro w1 hm1 hb1 hs1; have HM1 := Lib.hid hm1; have HB1 := Lib.hid hb1; have HS1 := Lib.hid hs1; clear hm1 hb1 hs1; simp only [Act.put, List.setIfInBounds_toArray, List.set_cons_zero, List.set_cons_succ])
  go_step3
  go_wp2_with (refine wpList_alloc_marks 5 rfl rfl rfl ?_; intro w2 hm2 hb2 hs2; have HM2 := Lib.hid hm2; have HB2 := Lib.hid hb2; have HS2 := Lib.hid hs2; clear hm2 hb2 hs2; simp only [Act.put, List.setIfInBounds_toArray, List.set_cons_zero, List.set_cons_succ])
  go_step3
  go_wp2
  have HR : Hid (∃ rb sb, rb = W.heap.size ∧ sb = w1.heap.size ∧ Rs G n W (w2.alloc (.cells #[.int .i64 (n : Int)] 3)) rb sb (.slice (some ⟨w2.heap.size, 0, none⟩) 1 1) [n] (fun _ => false)) := Lib.hid (by
    have hbb := balloc (Below.refl w2.heap.size w2) (.cells #[.int .i64 (n : Int)] 3)
    refine ⟨_, _, rfl, rfl, (HM1.out.keep HB2.out).keep hbb, HM2.out.keep hbb, ⟨?_, bthen (bthen HB1.out HB2.out) hbb⟩, Dfs.start G n, Nat.le_refl _, HB1.out.size, Nat.ne_of_lt HS1.out⟩
    exact World.ownsRow_lit w2 _ 1 (by have := HB1.out.size; have := HB2.out.size; omega) (by unfold maxLen; omega) (by simp))
  obtain ⟨rb, sb, er, es, hr⟩ := HR.out
  have HR := Lib.hid hr
  rw [← er, ← es]
  have HE := Lib.hid (And.intro er es)
  clear hr er es
  generalize w2.alloc (.cells #[.int .i64 (n : Int)] 3) = w3 at *
  generalize w2.heap.size = bb at *
  clear HM1 HB1 HS1 HM2 HB2 HS2 HE
  go_loopg [6] 200 (fun gh vw wl => ∃ st m, Hid (Rs G n W wl rb sb vw st m ∧ st.length + 2 * un m < gh))
  case atStart => exact ⟨_, _, Lib.hid ⟨HR.out, by have := HR.out.d.i4; omega⟩⟩
  case round =>
    clear HR
    obtain ⟨st, m, HS⟩ := hrel
    obtain ⟨hrs, hgk⟩ := HS.out
    have HRS := Lib.hid hrs
    have HGK := Lib.hid hgk
    clear hrs hgk HS
    generalize gk = gO at *
    generalize wr = wO at *
    rcases Nat.eq_zero_or_pos st.length with hz | hz
    · obtain rfl : st = [] := List.eq_nil_of_length_eq_zero hz
      obtain ⟨pp, cc, rfl, -⟩ := row_form HRS.out.f.1
      have HI := Lib.hid (mkC_info m)
      have HP := Lib.hid HRS.out.d.done
      have HLO := Lib.hid HRS.out.lo
      clear hz
      go_wp2_with (first
        | (refine wpList_load_row rfl 67 (.tmp 5) rfl sb rfl 67 (mkC m) (0, 0) _ HRS.out.s Try.underlying67 rfl HI.out ?_)
        | (refine wpList_store_row rfl 67 (.tmp 4) (.tmp 50) rfl rb (mkC m) rfl rfl 67 _ HRS.out.r HI.out (by rw [mkC_size, mkC_size]) (mkC_one m) ?_))
      try rw [Exit.noGoto_ret]
      exact bodyPost_ret (results_row (p := 4) (by kernel_rfl) _ _ rb 67 (mkC m) _ rfl (setRow_heap _ _ _ _ _ _ HRS.out.r) Try.underlying67 rfl HI.out) rfl ⟨m, rfl, HP.out, bsetRow HRS.out.f.2 HLO.out.1 _⟩
    · obtain ⟨k, hk⟩ : ∃ k, st.length = k + 1 := ⟨st.length - 1, by omega⟩
      obtain ⟨st', t, rfl, hk', -⟩ := last_of hk
      have hrow := HRS.out.f.1
      rw [hk] at hrow
      obtain ⟨b, cc, rfl, -⟩ := row_some hrow (by omega)
      have ht : hasB G t = true := by
        rcases HRS.out.d.i2 t (by simp) with e | e
        · rw [e]; exact HN0.out
        · exact HG.out.rch_has (HRS.out.d.i1 t e)
      have htl := has_lt ht
      have ck : wO.cell? ⟨b, k, none⟩ = some (.int .i64 (t : Int)) := by
        have := hrow.cells (g := b) rfl k (.int .i64 (t : Int)) (by simp [ints, ← hk'])
        rwa [Addr.add_mid, Nat.zero_add] at this
      have HK := Lib.hid (HH.out.keep HRS.out.f.2)
      have c0 := HK.out.c0
      have ca := HK.out.af t htl
      have HN := Lib.hid (HK.out.ns t htl)
      have HL := Lib.hid (aft_len HG.out t)
      generalize S.getD t (.slice none 0 0) = va at *
      obtain ⟨pa, cca, rfl, hpa⟩ := HN.out
      have HPA := Lib.hid hpa
      have HKK := Lib.hid (And.intro hk hk')
      have HB129 := Lib.hid HRS.out.d.i4
      have hkb : k ≤ 128 := by have := HRS.out.d.i4; omega
      clear hpa hk hk' hrow hz ht
      go_wp2_with fail
      go_loopg [6, 9, 30] (aft G t).length (fun gh v6 v9 iv wl => v6 = .slice (some ⟨b, 0, none⟩) (k + 1) cc ∧ ∃ j : Nat, j + gh = (aft G t).length ∧ iv = .int .i64 j ∧ wl = wO ∧ Hid (∀ j', j' < j → m ((aft G t).getD j' 0) = true))
      case atStart => exact ⟨rfl, 0, by omega, rfl, rfl, Lib.hid fun j' h => absurd h (Nat.not_lt_zero _)⟩
      case round =>
        obtain ⟨rfl, j, hj, rfl, rfl, HJ⟩ := hrel
        cases gk with
        | zero =>
          obtain rfl : j = (aft G t).length := by omega
          have HPO : Hid (Rs G n W wr rb sb (.slice (some ⟨b, 0, none⟩) k cc) st' m) := Lib.hid ⟨HRS.out.r, HRS.out.s, HRS.out.f.cut HKK.out.2, HRS.out.d.pop fun a ha => by
            obtain ⟨j', hj', e⟩ := List.getElem_of_mem ha
            have := HJ.out j' hj'
            rw [show (aft G t).getD j' 0 = a by simp [hj', e]] at this
            exact this, HRS.out.lo⟩
          have hcap : k ≤ cc ∧ k + 1 ≤ cc := by
            have h1 := HRS.out.f.1
            rw [HKK.out.1] at h1
            obtain ⟨g1, c1, e1, l1, _⟩ := row_some h1 (by omega)
            simp only [Value.slice.injEq] at e1
            omega
          have HG1 : Hid (1 ≤ gO) := Lib.hid (by have := HGK.out; omega)
          clear hj
          go_wp2_with fail
          go_roundg (gO - 1)
          case measure => have := HG1.out; omega
          case rel => exact ⟨st', m, Lib.hid ⟨HPO.out, by have := HGK.out; have := HKK.out; simp at *; omega⟩⟩
        | succ g' =>
          have hjl : j < (aft G t).length := by omega
          obtain ⟨b2, o2, rfl, hc⟩ := HPA.out.resolve_left (by omega)
          have cj := hc j hjl
          have hj64 : j < 64 := by have := HL.out; omega
          have HIN : Hid ((aft G t).getD j 0 ∈ aft G t) := Lib.hid (by simp [hjl])
          have ha64 : (aft G t).getD j 0 < 64 := by have := HG.out.aft_lt HIN.out; omega
          have HJS : Hid (m ((aft G t).getD j 0) = true → ∀ j', j' < j + 1 → m ((aft G t).getD j' 0) = true) := Lib.hid fun e j' hj' => by
            by_cases e2 : j' = j
            · rw [e2]; exact e
            · exact HJ.out j' (by omega)
          clear hc
          generalize (aft G t).getD j 0 = a at *
          have cs := HRS.out.s.cell ha64
          have fs := HRS.out.s.free a
          cases hm : m a with
          | true =>
            rw [hm] at cs
            have HM := Lib.hid hm
            clear hm
            go_wp2_with fail
            go_roundg g'
            case measure => omega
            case rel => exact ⟨rfl, j + 1, by omega, by go_num, rfl, Lib.hid (HJS.out HM.out)⟩
          | false =>
            rw [hm] at cs
            have HM := Lib.hid hm
            have HX64 := Lib.hid ha64
            have HG1 : Hid (1 ≤ gO) := Lib.hid (by have := HGK.out; omega)
            have HOWN : Hid (((wr.setCell ⟨sb, a, none⟩ (.bool true)).alloc (.cells #[.int .i64 (a : Int)] 3)).ownsRow 0 3 1 (.slice (some ⟨b, 0, none⟩) (k + 1) cc) (k + 1) (ints (st' ++ [t]))) := Lib.hid (by
              have f1 : (wr.setCell ⟨sb, a, none⟩ (.bool true)).ownsRow W.heap.size 3 1 (.slice (some ⟨b, 0, none⟩) (k + 1) cc) (st' ++ [t]).length (ints (st' ++ [t])) := ((Frm.refl (fun k => k = sb) wr).setCell (p := ⟨sb, a, none⟩) rfl _).row HRS.out.f.1 fun g hg e => row_ne HRS.out.f.1 HRS.out.s (by decide) (e ▸ hg)
              rw [HKK.out.1] at f1
              exact row_base (f1.alloc _) (Nat.zero_le _))
            clear hm
            go_wp2_with (at_builtin; refine wpList_append_row rfl _ _ 31 rfl 3 i0 (.int .i64 0) 1 8 Try.underlying31 hi hz0 hz1 hz2 rfl (by decide) (.slice (some ⟨b, 0, none⟩) (k + 1) cc) (k + 1) _ rfl HOWN.out ⟨wr.heap.size, 0, none⟩ 1 1 [.int .i64 a] rfl rfl (by have := one_cell (wr.setCell ⟨sb, a, none⟩ (.bool true)) (.int .i64 (a : Int)) 3; simpa using this) (fun x hx => by simp at hx; subst hx; rfl) (by unfold maxLen; omega) (by omega) ?_; intro v' w4 hown hf hv; have HOW := Lib.hid hown; have HFF := Lib.hid hf; have HVV := Lib.hid hv; clear hown hf hv)
            go_roundg (gO - 1)
            case measure => have := HG1.out; omega
            case rel =>
              have hown := HOW.out
              rw [show k + 1 + 1 = (st' ++ [t]).length + 1 by rw [HKK.out.1]] at hown
              exact ⟨_, _, Lib.hid ⟨HRS.out.push (b := 0) HIN.out HM.out HX64.out hown HFF.out HVV.out, by
                have := HGK.out
                have := un_upd HM.out HX64.out
                simp at *
                omega⟩⟩
end
end Go.Proofs.Ytggjimeligbmcab
