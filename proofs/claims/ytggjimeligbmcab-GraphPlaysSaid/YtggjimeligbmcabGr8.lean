/-
  Order of package graph, by contract. Conditions: a graph in which nobody is behind itself.
-/
import Derived.Test.YtggjimeligbmcabGr5
import Derived.Test.YtggjimeligbmcabGr6
namespace Go.Proofs.Ytggjimeligbmcab
open Go.RowKit
set_option linter.unusedVariables false

theorem wpList_load_row_gg {P : Program} {ops : Array Oper} {rest : List Oper} {o : Oper} {a : Act} {w : World} {Q : Exit → Act → World → Prop} (hw : Region.wanted o (yielded ops a.tmps) = true) (ty : TypeId) (x : Operand) (ho : o.op = .load ty x)
    (g : Nat) (hx : a.eval x = .pointer (some ⟨g, 0, none⟩)) (t : TypeId) (cs : Array Value) (fr : Nat × Nat) (d : TypeDesc) (hg : w.heap[g]? = some (.cells cs t fr))
    (hu : P.underlying ty = some d) (hd : (match d with | .struct _ | .array _ _ => true | _ => false) = true) (hi : (P.info? ty).map (·.size) = some cs.size)
    (h : wpList P ops Q rest (a.put o.dst (.agg cs)) w) : wpList P ops Q (o :: rest) a w :=
  wpList_step fun K hK => by rw [if_pos hw]; exact wp_load_row ty x ho g hx t cs fr d hg hu hd hi (hK _ _ h)
/-- Marks of a list. -/
def memB (l : List Nat) : Nat → Bool := fun x => l.contains x
theorem memB_snoc (l : List Nat) (n : Nat) : upd (memB l) n = memB (l ++ [n]) := by
  funext y
  unfold upd memB
  rw [Bool.eq_iff_iff]
  by_cases e : y = n
  · simp [e]
  · simp [e]
theorem memB_nil : memB [] = fun _ => false := rfl
structure OrdS (W w : World) (mb : Nat) (v : Value) (l : List Nat) : Prop where
  m : Mk w mb (memB l)
  f : FL W w v l
  lo : W.heap.size ≤ mb
section
variable {w w' W : World} {g c q n mb : Nat} {G : List Nd} {pn : Option Addr} {S : List Value} {v v' : Value} {l : List Nat}
theorem OrdS.keep (h : OrdS W w mb v l) (hb : Below w.heap.size w w') : OrdS W w' mb v l := ⟨h.m.keep hb, h.f.keep hb, h.lo⟩
theorem OrdS.pre (h : OrdS W w mb v l) (hn : n < 64) : Mk ((w.setCell ⟨mb, n, none⟩ (.bool true)).alloc (.cells #[.int .i64 (n : Int)] 3)) mb (memB (l ++ [n])) ∧ FL W ((w.setCell ⟨mb, n, none⟩ (.bool true)).alloc (.cells #[.int .i64 (n : Int)] 3)) v l := by
  have k1 : Mk (w.setCell ⟨mb, n, none⟩ (.bool true)) mb (memB (l ++ [n])) := by rw [← memB_snoc]; exact h.m.set hn
  have f1 : FL W (w.setCell ⟨mb, n, none⟩ (.bool true)) v l := ⟨((Frm.refl (fun k => k = mb) w).setCell (p := ⟨mb, n, none⟩) rfl _).row h.f.1 fun g hg e => row_ne h.f.1 h.m (by decide) (e ▸ hg), h.f.2.setCell h.lo _⟩
  have hb := balloc (Below.refl (w.setCell ⟨mb, n, none⟩ (.bool true)).heap.size (w.setCell ⟨mb, n, none⟩ (.bool true))) (.cells #[.int .i64 (n : Int)] 3)
  exact ⟨k1.keep hb, f1.keep hb⟩
theorem OrdS.push (h : OrdS W w mb v l) (hn : n < 64)
    (hown : w'.ownsRow 0 3 1 v' (l.length + 1) (ints l ++ [.int .i64 (n : Int)])) (hf : Frm (fun b => v.ownBlock = some b) ((w.setCell ⟨mb, n, none⟩ (.bool true)).alloc (.cells #[.int .i64 (n : Int)] 3)) w') (hv : v'.ownBlock = v.ownBlock ∨ ∀ g, v'.ownBlock = some g → ((w.setCell ⟨mb, n, none⟩ (.bool true)).alloc (.cells #[.int .i64 (n : Int)] 3)).heap.size ≤ g) :
    OrdS W w' mb v' (l ++ [n]) := by
  obtain ⟨k1, f1⟩ := h.pre hn
  exact ⟨hf.obj k1 fun e => row_ne f1.1 k1 (by decide) e, f1.app hown hf hv, h.lo⟩

theorem gorder_nil (W : World) :
    Calls Try.prog 31 #[.pointer none] W (Rl W []) := by
  go_enter Try.func31, Try.ntmps31
  go_wp2_with fail
  go_step3
  go_wp2_with (refine wpList_alloc_marks 4 rfl rfl rfl ?_; intro w1 hm1 hb1 hs1; have HM1 := Lib.hid hm1; have HB1 := Lib.hid hb1; clear hm1 hb1 hs1; simp only [Act.put, List.setIfInBounds_toArray, List.set_cons_zero, List.set_cons_succ])
  go_step3
  go_wp2
  go_loopg [3] 1 (fun gh v wl => v = .slice none 0 0 ∧ Hid (Below W.heap.size W wl))
  case atStart => exact ⟨rfl, HB1⟩
  case round =>
    obtain ⟨rfl, HB⟩ := hrel
    go_wp2_with (go_at_call 19; refine (glen_nil _).mono ?_; rintro e w1 ⟨rfl, rfl⟩)
    go_loopw [3, 8] (fun v i wl => wl = wr ∧ v = .slice none 0 0 ∧ i = .int .i64 0) (fun _ _ _ => 0)
    case atStart => exact ⟨rfl, rfl, rfl⟩
    case round =>
      obtain ⟨rfl, rfl, rfl⟩ := hrel
      go_wp2
      go_ret
      exact ⟨_, rfl, World.ownsRow_nil _ _ _ _, HB.out⟩

set_option maxHeartbeats 2000000 in
set_option maxRecDepth 100000 in
theorem gorder_some (h : Gr W g G pn c q S) (hG : GOk G) :
    Calls Try.prog 31 #[.pointer (some ⟨g, 0, none⟩)] W (Rl W (ordG G)) := by
  have HH := Lib.hid h
  have HG := Lib.hid hG
  have hlen := hG.len
  obtain ⟨i0, hi, hz0, hz1, hz2⟩ := info_parts infoN
  clear h hG
  go_enter Try.func31, Try.ntmps31
  go_wp2_with fail
  go_step3
  go_wp2_with (refine wpList_alloc_marks 4 rfl rfl rfl ?_; intro w1 hm1 hb1 hs1; have HM1 := Lib.hid hm1; have HB1 := Lib.hid hb1; clear hm1 hb1 hs1; simp only [Act.put, List.setIfInBounds_toArray, List.set_cons_zero, List.set_cons_succ])
  go_step3
  go_wp2
  have HS0 : Hid (∃ mb, mb = W.heap.size ∧ OrdS W w1 mb (.slice none 0 0) []) := Lib.hid ⟨_, rfl, HM1.out, ⟨World.ownsRow_nil _ _ _ _, HB1.out⟩, Nat.le_refl _⟩
  obtain ⟨mb, emb, hs0⟩ := HS0.out
  have HS0 := Lib.hid hs0
  rw [← emb]
  clear hs0 emb HM1 HB1
  go_loopg [3] 65 (fun gh v wl => ∃ k, k + gh = 65 ∧ Hid ((ordL G k).length = k ∧ OrdS W wl mb v (ordL G k)))
  case atStart => exact ⟨0, by omega, Lib.hid ⟨rfl, HS0.out⟩⟩
  case round =>
    clear HS0
    obtain ⟨k, hk, HS⟩ := hrel
    have HKL := Lib.hid HS.out.1
    have HO := Lib.hid HS.out.2
    have HKG : Hid (k ≤ G.length) := Lib.hid (by have := (ordL_ok G k).len; have := HKL.out; omega)
    obtain ⟨pp, cc, rfl, -⟩ := row_form HO.out.f.1
    clear HS
    generalize gk = gO at *
    generalize wr = wO at *
    have HKW := Lib.hid (HH.out.keep HO.out.f.2)
    go_wp2_with (go_at_call 19; refine (glen_some HKW.out).mono ?_; rintro e w1 ⟨rfl, rfl⟩)
    clear HKW
    have HO1 := HO
    clear HO
    go_loopg [3, 8] G.length (fun gh v3 iv wl => v3 = .slice pp (ordL G k).length cc ∧ ∃ i : Nat, i + gh = G.length ∧ iv = .int .i64 i ∧ Hid (OrdS W wl mb (.slice pp (ordL G k).length cc) (ordL G k)) ∧ Hid (∀ j, j < i → mayB G (ordL G k) j = false))
    case atStart => exact ⟨rfl, 0, by omega, rfl, HO1, Lib.hid fun j h => absurd h (Nat.not_lt_zero _)⟩
    case round =>
      clear HO1
      obtain ⟨rfl, i, hgi, rfl, HO, HJ⟩ := hrel
      by_cases hlt : i < G.length
      · have hi64 : i < 64 := by omega
        have cs := HO.out.m.cell hi64
        have fs := HO.out.m.free i
        have HK := Lib.hid (HH.out.keep HO.out.f.2)
        have HNX : Hid (mayB G (ordL G k) i = false → ∀ j, j < i + 1 → mayB G (ordL G k) j = false) := Lib.hid fun e j hj => by
          by_cases e2 : j = i
          · rw [e2]; exact e
          · exact HJ.out j (by omega)
        cases hh : hasB G i with
        | false =>
          have HHI : Hid (hasI G (i : Int) = false) := Lib.hid (by rw [hasI_nat]; exact hh)
          have HN : Hid (mayB G (ordL G k) i = false) := Lib.hid (by simp [mayB, hh])
          clear hh
          go_wp2_with (go_at_call 22; refine (ghas_some HK.out _).mono ?_; rintro e w1 ⟨rfl, rfl⟩; rw [HHI.out])
          go_roundg (gk - 1)
          case measure => omega
          case rel => exact ⟨rfl, i + 1, by omega, by go_num, HO, Lib.hid (HNX.out HN.out)⟩
        | true =>
          have HHI : Hid (hasI G (i : Int) = true) := Lib.hid (by rw [hasI_nat]; exact hh)
          have HHB := Lib.hid hh
          clear hh
          cases hm : memB (ordL G k) i with
          | true =>
            rw [hm] at cs
            have HN : Hid (mayB G (ordL G k) i = false) := Lib.hid (by
              have : (ordL G k).contains i = true := hm
              simp only [mayB, this, Bool.not_true, Bool.and_false, Bool.false_and])
            clear hm
            go_wp2_with (go_at_call 22; refine (ghas_some HK.out _).mono ?_; rintro e w1 ⟨rfl, rfl⟩; rw [HHI.out])
            go_roundg (gk - 1)
            case measure => omega
            case rel => exact ⟨rfl, i + 1, by omega, by go_num, HO, Lib.hid (HNX.out HN.out)⟩
          | false =>
            rw [hm] at cs
            have HI := Lib.hid (mkC_info (memB (ordL G k)))
            have HMM : Hid (mayB G (ordL G k) i = (aft G i).all (memB (ordL G k))) := Lib.hid (by
              have : (ordL G k).contains i = false := hm
              simp only [mayB, HHB.out, this, Bool.not_false, Bool.true_and]
              rfl)
            clear hm
            cases ha : (aft G i).all (memB (ordL G k)) with
            | false =>
              have HA := Lib.hid ha
              clear ha
              go_wp2_with (first
                | (go_at_call 22; refine (ghas_some HK.out _).mono ?_; rintro e w1 ⟨rfl, rfl⟩; rw [HHI.out])
                | (refine wpList_load_row_gg rfl 67 (.tmp 4) rfl mb rfl 67 (mkC (memB (ordL G k))) (0, 0) _ HO.out.m Try.underlying67 rfl HI.out ?_)
                | (go_at_call 40; refine (gmay HK.out HG.out hlt _).mono ?_; rintro e w1 ⟨rfl, hb⟩; rw [HA.out]; have HO2 := Lib.hid (HO.out.keep hb); clear hb))
              go_roundg (gk - 1)
              case measure => omega
              case rel => exact ⟨rfl, i + 1, by omega, by go_num, HO2, Lib.hid (HNX.out (HMM.out.trans HA.out))⟩
            | true =>
              have HA := Lib.hid ha
              have HNS : Hid (nxt G (ordL G k) = some i) := Lib.hid (nxt_first (HMM.out.trans ha) HJ.out)
              clear ha
              have HW64 := Lib.hid hi64
              have hkl : (ordL G k).length ≤ 64 := by have := (ordL_ok G k).len; omega
              go_wp2_with (first
                | (go_at_call 22; refine (ghas_some HK.out _).mono ?_; rintro e w1 ⟨rfl, rfl⟩; rw [HHI.out])
                | (refine wpList_load_row_gg rfl 67 (.tmp 4) rfl mb rfl 67 (mkC (memB (ordL G k))) (0, 0) _ HO.out.m Try.underlying67 rfl HI.out ?_)
                | (go_at_call 40; refine (gmay HK.out HG.out hlt _).mono ?_; rintro e w1 ⟨rfl, hb⟩; rw [HA.out]; have HO2 := Lib.hid (HO.out.keep hb); clear hb cs fs; have cs2 := HO2.out.m.cell HW64.out; have fs2 := HO2.out.m.free i)
                | (at_builtin; refine wpList_append_row rfl _ _ 31 rfl 3 i0 (.int .i64 0) 1 8 Try.underlying31 hi hz0 hz1 hz2 rfl (by decide) (.slice pp (ordL G k).length cc) _ _ rfl (row_base (HO2.out.pre HW64.out).2.1 (Nat.zero_le _)) ⟨w1.heap.size, 0, none⟩ 1 1 [.int .i64 i] rfl rfl (by have := one_cell (w1.setCell ⟨mb, i, none⟩ (.bool true)) (.int .i64 (i : Int)) 3; simpa using this) (fun x hx => by simp at hx; subst hx; rfl) (by unfold maxLen; omega) (by omega) ?_; intro v' w4 hown hf hv; have HP := Lib.hid (HO2.out.push HW64.out hown hf hv); obtain ⟨p', c', rfl, -⟩ := row_form hown; clear hown hf hv))
              go_roundg (gO - 1)
              case measure => have := HKG.out; omega
              case rel => exact ⟨k + 1, by have := HKG.out; omega, Lib.hid (by rw [ordL_some HNS.out]; exact ⟨by simp [HKL.out], HP.out⟩)⟩
      · obtain rfl : i = G.length := by omega
        have HE : Hid (ordG G = ordL G k) := Lib.hid (ordL_end (nxt_no HJ.out) HKL.out)
        go_wp2
        go_ret
        rw [HE.out]
        exact ⟨_, rfl, HO.out.f⟩
end
end Go.Proofs.Ytggjimeligbmcab
