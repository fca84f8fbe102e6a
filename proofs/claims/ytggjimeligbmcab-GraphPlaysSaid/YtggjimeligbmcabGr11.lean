/-
  Drop and Link of package graph, by contract: what they refuse, and what they leave. Conditions: a graph in which nobody is behind itself.
-/
import Derived.Test.YtggjimeligbmcabGr10
namespace Go.Proofs.Ytggjimeligbmcab
open Go.RowKit
set_option linter.unusedVariables false

section
variable {B : Nat} {W w w' : World} {g : Nat} {G G' : List Nd} {N N' : List (Bool × Value)} {vn vn' : Value}
theorem Gw.free (h : Gw B w g G N vn) {q c : Nat} (hv : vn = .slice (some ⟨q, 0, none⟩) G.length c) (j : Nat) : w.frozen? ⟨q, j, none⟩ = false := by
  subst hv
  obtain ⟨c1, h1⟩ := ownsRow_obj h.row (g := q) rfl
  exact obj_free h1 j
/-- A node's cells are set: it is gone. -/
theorem Gw.gone_at (h : Gw B w g G N vn) {n q : Nat} {c : Nat} (hv : vn = .slice (some ⟨q, 0, none⟩) G.length c) (hn : n < G.length) :
    Gw B ((w.setCell ⟨q, n * 2, none⟩ (.bool true)).setCell ⟨q, n * 2 + 1, none⟩ (.slice none 0 0)) g (dropG G n) (N.set n (true, .slice none 0 0)) vn := by
  subst hv
  have hl := h.len
  have hq : ∀ i, i < G.length → (N.getD i d0).2.ownBlock ≠ some q := fun i hi e => by
    obtain ⟨c1, h1⟩ := ownsRow_obj (h.own i hi) e
    obtain ⟨c2, h2⟩ := ownsRow_obj h.row (g := q) rfl
    rw [h1] at h2
    simp at h2
  have hqg : g ≠ q := fun e => row_ne h.row h.blk (by decide) (by rw [e]; rfl)
  have fr : Frm (fun k => k = q) w ((w.setCell ⟨q, n * 2, none⟩ (.bool true)).setCell ⟨q, n * 2 + 1, none⟩ (.slice none 0 0)) := ((Frm.refl (fun k => k = q) w).setCell (p := ⟨q, n * 2, none⟩) rfl _).setCell (p := ⟨q, n * 2 + 1, none⟩) rfl _
  have hat : ∀ i, i ≠ n → (N.set n (true, .slice none 0 0)).getD i d0 = N.getD i d0 := fun i hi => by
    rw [List.getD_eq_getElem?_getD, List.getD_eq_getElem?_getD, List.getElem?_set_ne (Ne.symm hi)]
  have hself : (N.set n (true, .slice none 0 0)).getD n d0 = (true, .slice none 0 0) := by
    rw [List.getD_eq_getElem?_getD, List.getElem?_set_self (by omega)]
    rfl
  refine ⟨fr.obj h.blk hqg, h.lo, ?_, by simp [hl, dropG_len], fun i hi => ?_, fun i hi => ?_, fun i j hi hj hij b hb => ?_⟩
  · have h1 := row_put (j := n * 2 + 1) (row_put (j := n * 2) h.row (.bool true)) (.slice none 0 0)
    rw [fl2_set0 true (by omega), fl2_set1 _ (by simp; omega), List.set_set] at h1
    rw [dropG_len]
    rw [show ((N.set n (true, (N.getD n d0).2)).getD n d0).1 = true by rw [List.getD_eq_getElem?_getD, List.getElem?_set_self (by omega)]; rfl] at h1
    exact h1
  · rw [dropG_len] at hi
    by_cases e : i = n
    · subst e; rw [hself, nd_drop_self]
    · rw [hat i e, nd_drop_ne e]; exact h.gone i hi
  · rw [dropG_len] at hi
    by_cases e : i = n
    · subst e; rw [hself, aft_drop_self]; exact World.ownsRow_nil _ _ _ _
    · rw [hat i e, aft_drop_ne e]; exact fr.row (h.own i hi) fun k hk hkq => hq i hi (hkq ▸ hk)
  · rw [dropG_len] at hi hj
    by_cases e : i = n
    · subst e; rw [hself] at hb; simp [Value.ownBlock] at hb
    · rw [hat i e] at hb
      by_cases e2 : j = n
      · subst e2; rw [hself]; simp [Value.ownBlock]
      · rw [hat j e2]; exact h.apart i j hi hj hij b hb
theorem own_drop {n k : Nat} (hk : gOwn g (N.set n (true, .slice none 0 0)) vn k) : gOwn g N vn k := by
  rcases hk with hk | hk | ⟨i, hi, hk⟩
  · exact .inl hk
  · exact .inr (.inl hk)
  · rw [List.length_set] at hi
    by_cases e : i = n
    · subst e
      rw [List.getD_eq_getElem?_getD, List.getElem?_set_self (by omega)] at hk
      simp [Value.ownBlock] at hk
    · rw [List.getD_eq_getElem?_getD, List.getElem?_set_ne (Ne.symm e), ← List.getD_eq_getElem?_getD] at hk
      exact .inr (.inr ⟨i, hi, hk⟩)

theorem bad_wrap {W w w' : World} {op id : Value} {n : Int} (hb : Below W.heap.size W w) (h : w.alloc (.cells #[op, id, .iface 65 (.int .i64 n)] 76) = w') (hop : ∃ s, op = .string s := by exact ⟨_, rfl⟩) (hid : ∃ i, id = .int .i64 i := by exact ⟨_, rfl⟩) :
    Refused W w' (.iface 74 (.pointer (some ⟨w.heap.size, 0, none⟩))) n := (refused_of h hop hid).after hb
set_option maxRecDepth 100000 in
theorem gdrop (h : Gw B W g G N vn) (hG : GOk G) (x : Int) :
    Calls Try.prog 17 #[.pointer (some ⟨g, 0, none⟩), .int .i64 x] W fun e w' => ∃ E, e = .returned E ∧ ErrIs w' E (dropBadG G x) ∧ Gs B W w' g G N vn (dropN G x) := by
  obtain ⟨pn, c, q, hvn, hg⟩ := h.gr
  have HH := Lib.hid hg
  have HW := Lib.hid h
  have HG := Lib.hid hG
  have hlen := hG.len
  cases hb : hasI G x with
  | false =>
    have HB := Lib.hid hb
    have HD : Hid (dropBadG G x = 3 ∧ dropN G x = G) := Lib.hid (by simp [dropN, dropBadG, hb])
    clear hb h hG hg
    go_enter Try.func17, Try.ntmps17
    go_wp2_with (first
      | (go_at_call 22; refine (ghas_some HH.out _).mono ?_; rintro e w1 ⟨rfl, rfl⟩; rw [HB.out])
      | (go_at_call 35; refine (wrap_iface _ _ _ _).mono ?_; rintro e w' ⟨rfl, hw⟩; have HR := Lib.hid (refused_of hw); clear hw))
    go_ret
    rw [HD.out.1, HD.out.2]
    exact ⟨_, rfl, .of HR.out (by decide), .of_below HW.out HR.out.below⟩
  | true =>
    obtain ⟨n, rfl, hk⟩ := hasI_yes hb
    have hnl := has_lt hk
    obtain rfl := hg.at_ (by omega)
    have HB := Lib.hid hb
    have HBI : Hid (behI G (n : Int) = behL G (n : Int) G.length) := Lib.hid (by simp [behI, hb])
    have HDB : Hid (dropBadG G (n : Int) = if behL G (n : Int) G.length = [] then 0 else 18) := Lib.hid (by simp [dropBadG, hb])
    clear hb h hG hg hk
    cases hem : behL G (n : Int) G.length with
    | nil =>
      have HEM := Lib.hid hem
      have HE0 : Hid (dropBadG G (n : Int) = 0 ∧ dropN G (n : Int) = dropG G n) := Lib.hid (by
        have : dropBadG G (n : Int) = 0 := by rw [HDB.out, hem]; rfl
        exact ⟨this, by unfold dropN; rw [if_pos this]; simp⟩)
      clear hem
      go_enter Try.func17, Try.ntmps17
      go_wp2_with (first
        | (go_at_call 22; refine (ghas_some HH.out _).mono ?_; rintro e w1 ⟨rfl, rfl⟩; rw [HB.out])
        | (go_at_call 27; refine (gbehind_some HH.out HG.out _).mono ?_; rintro e w2 ⟨v2, rfl, hf2⟩; rw [HBI.out, HEM.out] at hf2; obtain ⟨p2, cc2, rfl, -⟩ := row_form hf2.1; have HF2 := Lib.hid hf2.2; have HK2 := Lib.hid (HH.out.keep hf2.2); have c0 := HK2.out.c0; have cg := HK2.out.gone n hnl; have ca := HK2.out.af n hnl; have f0 := (HW.out.keep hf2.2).free hvn (n * 2); have f1 := (HW.out.keep hf2.2).free hvn (n * 2 + 1); clear hf2))
      go_ret
      rw [HE0.out.1, HE0.out.2]
      refine ⟨_, rfl, .none _, ⟨_, _, (HW.out.keep HF2.out).gone_at hvn hnl, fun k hk => .inl (own_drop hk)⟩, ?_⟩
      have hq : gOwn g N vn q := .inr (.inl (by rw [hvn]; rfl))
      exact ((Frm.of_below HF2.out _).setCell (p := ⟨q, n * 2, none⟩) hq _).setCell (p := ⟨q, n * 2 + 1, none⟩) hq _
    | cons y ys =>
      have HEM := Lib.hid hem
      have hbl : (behL G (n : Int) G.length).length ≤ G.length := filter_len _ _
      rw [hem] at hbl
      have HYL : Hid ((y :: ys).length = ys.length + 1) := Lib.hid rfl
      have HD : Hid (dropBadG G (n : Int) = 18 ∧ dropN G (n : Int) = G) := Lib.hid (by
        have : dropBadG G (n : Int) = 18 := by rw [HDB.out, hem, if_neg (by simp)]
        exact ⟨this, by unfold dropN; rw [if_neg (by rw [this]; decide)]⟩)
      clear hem
      go_enter Try.func17, Try.ntmps17
      go_wp2_with (first
        | (go_at_call 22; refine (ghas_some HH.out _).mono ?_; rintro e w1 ⟨rfl, rfl⟩; rw [HB.out])
        | (go_at_call 27; refine (gbehind_some HH.out HG.out _).mono ?_; rintro e w2 ⟨v2, rfl, hf2⟩; rw [HBI.out, HEM.out] at hf2; obtain ⟨p2, cc2, rfl, -⟩ := row_form hf2.1; have HF2 := Lib.hid hf2.2; clear hf2; rw [HYL.out])
        | (go_at_call 35; refine (wrap_iface _ _ _ _).mono ?_; rintro e w' ⟨rfl, hw⟩; have HR := Lib.hid (bad_wrap HF2.out hw); clear hw))
      go_ret
      rw [HD.out.1, HD.out.2]
      exact ⟨_, rfl, .of HR.out (by decide), .of_below HW.out HR.out.below⟩
end
end Go.Proofs.Ytggjimeligbmcab
