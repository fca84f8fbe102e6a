/-
  The document's graph of layer 13, for those who read it: In, Has and Behind, by contract. Conditions: at most 64 nodes.
-/
import Derived.Test.YtggjimeligbmcabGr22
namespace Go.Proofs.Ytggjimeligbmcab
open Go.RowKit
set_option linter.unusedVariables false

theorem ginZ {w : World} {v : Value} {l : List Int} (h : IntsAt w v l) (x : Int) (hl : l.length ≤ 1000) :
    Calls Try.prog 34 #[v, .int .i64 x] w fun e w' => e = .returned (.bool (l.contains x)) ∧ w = w' := by
  obtain ⟨p, c, rfl, hc⟩ := h
  have HC := Lib.hid hc
  clear hc
  go_enter Try.func34, Try.ntmps34
  go_wp2
  go_loopw [5] (fun iv wl => wl = w ∧ ∃ k : Nat, k ≤ l.length ∧ iv = .int .i64 k ∧ Hid (∀ j, j < k → l.getD j 0 ≠ x)) (fun iv _ => l.length - (intOf iv).toNat)
  case atStart => exact ⟨rfl, 0, Nat.zero_le _, rfl, Lib.hid fun j h => absurd h (Nat.not_lt_zero _)⟩
  case round =>
    obtain ⟨rfl, k, hk, rfl, HJ⟩ := hrel
    by_cases hlt : k < l.length
    · obtain ⟨b, off, rfl, hc⟩ := HC.out.resolve_left (by omega)
      have ck := hc k hlt
      have HM : Hid (l.getD k 0 ∈ l) := Lib.hid (getD_mem hlt)
      clear hc
      have HJN : Hid (l.getD k 0 ≠ x → ∀ j, j < k + 1 → l.getD j 0 ≠ x) := Lib.hid fun e j hj => by
        by_cases e2 : j = k
        · rw [e2]; exact e
        · exact HJ.out j (by omega)
      generalize l.getD k 0 = y at *
      by_cases e : y = x
      · subst e
        have HI : Hid (l.contains y = true) := Lib.hid (List.contains_iff_mem.2 HM.out)
        go_wp2_with fail
        go_ret
        rw [HI.out]
        exact ⟨rfl, rfl⟩
      · have hb : (y == x) = false := by simpa using e
        have HE := Lib.hid e
        clear e
        go_wp2_with fail
        exact ⟨⟨trivial, k + 1, by omega, by go_num, Lib.hid (HJN.out HE.out)⟩, by simp [intOf]; omega⟩
    · obtain rfl : k = l.length := by omega
      have HI : Hid (l.contains x = false) := Lib.hid (by
        rw [Bool.eq_false_iff]
        intro h
        rw [List.contains_iff_mem] at h
        obtain ⟨j, hj, e2⟩ := List.getElem_of_mem h
        refine HJ.out j hj ?_
        rw [← e2]
        simp [hj])
      go_wp2_with fail
      go_ret
      rw [HI.out]
      exact ⟨rfl, rfl⟩

/-- The document's graph that can be read. -/
structure Rr (w : World) (va vg : Value) (G : List Nd) (qa qg : Nat) (S : List Value) : Prop where
  a : ∃ p c, va = .slice p G.length c ∧ (0 < G.length → p = some ⟨qa, 0, none⟩)
  g : ∃ p c, vg = .slice p G.length c ∧ (0 < G.length → p = some ⟨qg, 0, none⟩)
  af : ∀ i, i < G.length → w.cell? ⟨qa, i, none⟩ = some (S.getD i (.slice none 0 0))
  gn : ∀ i, i < G.length → w.cell? ⟨qg, i, none⟩ = some (.bool (nd G i).gone)
  ns : ∀ i, i < G.length → IntsN w (S.getD i (.slice none 0 0)) (aft G i)
section
variable {w w' W : World} {va vg : Value} {G : List Nd} {qa qg : Nat} {S : List Value}
theorem Rr.keep (h : Rr w va vg G qa qg S) (hb : Below w.heap.size w w') : Rr w' va vg G qa qg S :=
  ⟨h.a, h.g, fun i hi => keepc hb (h.af i hi), fun i hi => keepc hb (h.gn i hi), fun i hi => (h.ns i hi).keep hb⟩
theorem rhas (h : Rr W va vg G qa qg S) (x : Int) (hl : G.length ≤ 64) :
    Calls Try.prog 23 #[.agg #[va, vg], .int .i64 x] W fun e w' => e = .returned (.bool (hasI G x)) ∧ Below W.heap.size W w' := by
  obtain ⟨pa, ca, rfl, ha⟩ := h.a
  obtain ⟨pg, cg, rfl, hg⟩ := h.g
  by_cases h0 : 0 ≤ x
  · obtain ⟨k, rfl⟩ : ∃ k : Nat, x = k := ⟨x.toNat, by omega⟩
    rw [hasI_nat]
    by_cases hk : k < G.length
    · obtain rfl := ha (by omega)
      obtain rfl := hg (by omega)
      have HK := Lib.hid (fun o => keepc (balloc (Below.refl _ W) o) (h.gn k hk))
      have cg := HK.out
      have HB : Hid (hasB G k = !(nd G k).gone) := Lib.hid rfl
      generalize (nd G k).gone = bg at *
      clear h ha hg
      go_enter Try.func23, Try.ntmps23
      go_wp2
      go_ret
      exact ⟨by rw [HB.out]; rfl, balloc (Below.refl _ _) _⟩
    · have HB : Hid (hasB G k = false) := Lib.hid (by unfold hasB; rw [nd_out (by omega)]; rfl)
      have d0 : decide ((k : Int) < (G.length : Int)) = false := decide_eq_false (by omega)
      clear h ha hg
      go_enter Try.func23, Try.ntmps23
      go_wp2
      go_ret
      exact ⟨by rw [HB.out]; rfl, balloc (Below.refl _ _) _⟩
  · have HB : Hid (hasI G x = false) := Lib.hid (by simp [hasI, h0])
    have d0 : decide (0 ≤ x) = false := decide_eq_false h0
    clear h ha hg h0
    go_enter Try.func23, Try.ntmps23
    go_wp2
    go_ret
    exact ⟨by rw [HB.out]; rfl, balloc (Below.refl _ _) _⟩
set_option maxRecDepth 100000 in
theorem rbehind (h : Rr W va vg G qa qg S) (hG : GOk G) (x : Int) :
    Calls Try.prog 28 #[.agg #[va, vg], .int .i64 x] W (Rl W (behL G x G.length)) := by
  have HH := Lib.hid h
  have HG := Lib.hid hG
  have hlen := hG.len
  obtain ⟨pa, ca, rfl, ha⟩ := h.a
  have HA := Lib.hid ha
  obtain ⟨i0, hi, hz0, hz1, hz2⟩ := info_parts infoN
  clear h hG ha
  go_enter Try.func28, Try.ntmps28
  go_wp2_with fail
  have HB0 : Hid ((W.alloc (.cells #[.slice pa G.length ca, vg] 30)).heap[W.heap.size]? = some (.cells #[.slice pa G.length ca, vg] 30 (0, 0))) := Lib.hid (obj_new _ _)
  have HF0 : Hid (FL W (W.alloc (.cells #[.slice pa G.length ca, vg] 30)) (.slice none 0 0) (behL G x 0)) := Lib.hid ⟨World.ownsRow_nil _ _ _ _, balloc (Below.refl _ _) _⟩
  generalize W.alloc (.cells #[.slice pa G.length ca, vg] 30) = w1 at *
  generalize hgb : W.heap.size = gb at HB0 ⊢
  have HGB := Lib.hid hgb
  clear hgb
  go_loopw [5, 6] (fun lv iv wl => ∃ k : Nat, k ≤ G.length ∧ iv = .int .i64 k ∧ Hid (FL W wl lv (behL G x k)) ∧ Hid (wl.heap[gb]? = some (.cells #[.slice pa G.length ca, vg] 30 (0, 0)))) (fun _ iv _ => G.length - (intOf iv).toNat)
  case atStart => exact ⟨0, Nat.zero_le _, rfl, HF0, HB0⟩
  case round =>
    clear HF0 HB0
    obtain ⟨k, hk, rfl, HJ, HB⟩ := hrel
    obtain ⟨pp, c2, rfl, -⟩ := row_form HJ.out.1
    have hfl : (behL G x k).length ≤ k := filter_len _ k
    have cb : wr.cell? ⟨gb, 0, none⟩ = some (.slice pa G.length ca) := (obj_cell HB.out 0).trans rfl
    by_cases hlt : k < G.length
    · obtain rfl := HA.out (by omega)
      have HK := Lib.hid (HH.out.keep HJ.out.2)
      have ca1 := HK.out.af k hlt
      have HN := Lib.hid (HK.out.ns k hlt)
      have HL : Hid ((aft G k).length ≤ 1000) := Lib.hid (by have := aft_len HG.out k; omega)
      have HS : Hid (behL G x (k + 1) = behL G x k ++ (if inI (aft G k) x then [k] else [])) := Lib.hid (range_filter _ k)
      generalize S.getD k (.slice none 0 0) = v1 at *
      obtain ⟨pv, cv, rfl, hpv⟩ := HN.out
      clear hpv
      cases hc : inI (aft G k) x with
      | true =>
        have HC := Lib.hid hc
        clear hc
        generalize behL G x k = lk at *
        go_wp2_with (first
          | (go_at_call 34; refine (gin HN.out x HL.out).mono ?_; rintro e w2 ⟨rfl, rfl⟩; rw [HC.out])
          | (at_builtin; refine wpList_append_row rfl _ _ 31 rfl 3 i0 (.int .i64 0) 1 8 Try.underlying31 hi hz0 hz1 hz2 rfl (by decide) (.slice pp lk.length c2) _ _ rfl (row_base ((HJ.out.keep (balloc (Below.refl _ _) _)).1) (Nat.zero_le _)) ⟨wr.heap.size, 0, none⟩ 1 1 [.int .i64 k] rfl rfl (one_cell _ _ _) (fun x hx => by simp at hx; subst hx; rfl) (by unfold maxLen; omega) (by omega) ?_; intro v' w4 hown hf hv; have HE := Lib.hid ((HJ.out.keep (balloc (Below.refl _ _) _)).app hown hf hv); have HBE := Lib.hid (hf.obj (obj_old _ HB.out) fun e => row_ne HJ.out.1 HB.out (by decide) e); obtain ⟨p', c', rfl, -⟩ := row_form hown; clear hown hf hv))
        exact ⟨⟨k + 1, by omega, by go_num, by rw [HS.out, HC.out]; exact HE, HBE⟩, by simp [intOf]; omega⟩
      | false =>
        have HC := Lib.hid hc
        clear hc
        generalize behL G x k = lk at *
        go_wp2_with (go_at_call 34; refine (gin HN.out x HL.out).mono ?_; rintro e w2 ⟨rfl, rfl⟩; rw [HC.out])
        exact ⟨⟨k + 1, by omega, by go_num, by rw [HS.out, HC.out]; exact Lib.hid (by rw [show ((if false = true then [k] else []) : List Nat) = [] from rfl, List.append_nil]; exact HJ.out), HB⟩, by simp [intOf]; omega⟩
    · obtain rfl : k = G.length := by omega
      go_wp2
      go_ret
      exact ⟨_, rfl, HJ.out⟩
end
end Go.Proofs.Ytggjimeligbmcab
