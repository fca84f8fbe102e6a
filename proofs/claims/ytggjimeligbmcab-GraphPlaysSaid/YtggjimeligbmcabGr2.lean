/-
  After, Behind and Ends of package graph, by contract. Conditions: at most 64 nodes.
-/
import Derived.Test.YtggjimeligbmcabGr1
import Derived.OwnWalk
namespace Go.Proofs.Ytggjimeligbmcab
open Go.RowKit
set_option linter.unusedVariables false

theorem infoN : (Try.prog.info? 3).map (fun i => (i.zero, i.size, i.bytes)) = some (some (.int .i64 0), 1, 8) := by kernel_rfl
theorem one_cell (w : World) (x : Value) (t : TypeId) : ∀ j u, [x][j]? = some u → (w.alloc (.cells #[x] t)).cell? ((⟨w.heap.size, 0, none⟩ : Addr).add j) = some u := by
  intro j u hj
  have hj0 : j < 1 := (List.getElem?_eq_some_iff.1 hj).1
  obtain rfl : j = 0 := by omega
  rw [Addr.add_mid, obj_cell (obj_new _ _)]
  exact hj
theorem one_cell2 (w : World) (o : Obj) (x : Value) (t : TypeId) : ∀ j u, [x][j]? = some u → ((w.alloc o).alloc (.cells #[x] t)).cell? ((⟨w.heap.size + 1, 0, none⟩ : Addr).add j) = some u := by
  have := one_cell (w.alloc o) x t
  rw [show (w.alloc o).heap.size = w.heap.size + 1 by simp] at this
  exact this
theorem row_up {w : World} {B : Nat} {e : TypeId} {size : Nat} {v : Value} {n : Nat} {xs : List Value} (h : w.ownsRow 0 e size v n xs) (hB : ∀ g, v.ownBlock = some g → B ≤ g) : w.ownsRow B e size v n xs := by
  obtain ⟨h1, h2⟩ := h
  refine ⟨h1, ?_⟩
  rcases h2 with h2 | ⟨g, cap, cur, rfl, hg, r⟩
  · exact .inl h2
  · exact .inr ⟨g, cap, cur, rfl, hB g (by simp [Value.ownBlock]), r⟩
theorem row_base {w : World} {B B' : Nat} {e : TypeId} {size : Nat} {v : Value} {n : Nat} {xs : List Value} (h : w.ownsRow B e size v n xs) (hb : B' ≤ B) : w.ownsRow B' e size v n xs := by
  obtain ⟨h1, h2⟩ := h
  refine ⟨h1, ?_⟩
  rcases h2 with h2 | ⟨g, cap, cur, rfl, hg, r⟩
  · exact .inl h2
  · exact .inr ⟨g, cap, cur, rfl, by omega, r⟩
/-- A row of numbers that the call made. -/
def FL (W w : World) (v : Value) (l : List Nat) : Prop := w.ownsRow W.heap.size 3 1 v l.length (ints l) ∧ Below W.heap.size W w
theorem FL.nil (W : World) : FL W W (.slice none 0 0) [] := ⟨World.ownsRow_nil _ _ _ _, Below.refl _ _⟩
theorem FL.keep {W w w' : World} {v : Value} {l : List Nat} (h : FL W w v l) (hb : Below w.heap.size w w') : FL W w' v l := ⟨(Frm.of_below hb fun _ => False).row h.1 fun _ _ => id, bthen h.2 hb⟩
theorem FL.app {W w w' : World} {v v' : Value} {l : List Nat} {k : Nat} (h : FL W w v l) (hown : w'.ownsRow 0 3 1 v' (l.length + 1) (ints l ++ [.int .i64 (k : Int)])) (hf : Frm (fun b => v.ownBlock = some b) w w') (hv : v'.ownBlock = v.ownBlock ∨ ∀ g, v'.ownBlock = some g → w.heap.size ≤ g) : FL W w' v' (l ++ [k]) := by
  have hs := h.2.size
  refine ⟨?_, h.2.trans (hf.below hs fun b hb => (h.1.lt b hb).1)⟩
  rw [show (l ++ [k]).length = l.length + 1 by simp, show ints (l ++ [k]) = ints l ++ [.int .i64 (k : Int)] by simp [ints]]
  refine row_up hown fun g hg => ?_
  rcases hv with hv | hv
  · exact (h.1.lt g (hv ▸ hg)).1
  · have := hv g hg
    omega
theorem range_filter (p : Nat → Bool) (k : Nat) : (List.range (k + 1)).filter p = (List.range k).filter p ++ (if p k then [k] else []) := by
  rw [List.range_succ, List.filter_append]
  cases h : p k <;> simp [h]
theorem filter_len (p : Nat → Bool) (k : Nat) : ((List.range k).filter p).length ≤ k := by
  have := List.length_filter_le p (List.range k)
  simpa using this

section
variable {w w' : World} {g c q : Nat} {G : List Nd} {pn : Option Addr} {S : List Value}
def aftI (G : List Nd) (x : Int) : List Nat := if hasI G x then aft G x.toNat else []
/-- What a reading call hands back: a row of its own. -/
def Rl (W : World) (l : List Nat) (e : Ending) (w : World) : Prop := ∃ v, e = .returned v ∧ FL W w v l
theorem gafter_nil (x : Int) (W : World) :
    Calls Try.prog 26 #[.pointer none, .int .i64 x] W (Rl W []) := by
  go_enter Try.func26, Try.ntmps26
  go_wp2_with (go_at_call 22; refine (ghas_nil _ _).mono ?_; rintro e w1 ⟨rfl, rfl⟩)
  go_ret
  exact ⟨_, rfl, FL.nil _⟩
theorem aft_len {G : List Nd} (h : GOk G) (i : Nat) : (aft G i).length ≤ 64 := by
  have h1 := h.len
  have h2 := (h.nod i)
  have h3 : (aft G i).length ≤ G.length := by
    have := List.Nodup.length_le_of_subset h2 (l₂ := List.range G.length) (fun a ha => List.mem_range.2 (h.aft_lt ha))
    simpa using this
  omega
theorem gafter_some (h : Gr w g G pn c q S) (hG : GOk G) (x : Int) :
    Calls Try.prog 26 #[.pointer (some ⟨g, 0, none⟩), .int .i64 x] w (Rl w (aftI G x)) := by
  have HH := Lib.hid h
  cases hb : hasI G x with
  | false =>
    have HB := Lib.hid hb
    have HA : Hid (aftI G x = []) := Lib.hid (by simp [aftI, hb])
    clear hb h
    go_enter Try.func26, Try.ntmps26
    go_wp2_with (go_at_call 22; refine (ghas_some HH.out _).mono ?_; rintro e w1 ⟨rfl, rfl⟩; rw [HB.out])
    go_ret
    rw [HA.out]
    exact ⟨_, rfl, FL.nil _⟩
  | true =>
    obtain ⟨k, rfl, hk⟩ := hasI_yes hb
    have hlt := has_lt hk
    obtain rfl := h.at_ (by omega)
    have HB := Lib.hid hb
    have HA : Hid (aftI G (k : Int) = aft G k) := Lib.hid (by simp [aftI, hb])
    have c0 := h.c0
    have ca := h.af k hlt
    have HN := Lib.hid (h.ns k hlt)
    have HL := Lib.hid (aft_len hG k)
    clear hb hk h
    generalize S.getD k (.slice none 0 0) = va at *
    go_enter Try.func26, Try.ntmps26
    go_wp2_with (first
      | (go_at_call 22; refine (ghas_some HH.out _).mono ?_; rintro e w1 ⟨rfl, rfl⟩; rw [HB.out])
      | (go_at_call 36; refine (clone_n HN.out HL.out).mono ?_; rintro e w2 ⟨v, rfl, hr, hb2⟩; have HR := Lib.hid hr; have HB2 := Lib.hid hb2; clear hr hb2))
    go_ret
    rw [HA.out]
    exact ⟨_, rfl, HR.out, HB2.out⟩

/-- Those that are directly behind a node. -/
def behL (G : List Nd) (x : Int) (n : Nat) : List Nat := (List.range n).filter fun i => inI (aft G i) x
def behI (G : List Nd) (x : Int) : List Nat := if hasI G x then behL G x G.length else []
theorem gbehind_nil (x : Int) (W : World) :
    Calls Try.prog 27 #[.pointer none, .int .i64 x] W (Rl W []) := by
  go_enter Try.func27, Try.ntmps27
  go_wp2_with (go_at_call 22; refine (ghas_nil _ _).mono ?_; rintro e w1 ⟨rfl, rfl⟩)
  go_ret
  exact ⟨_, rfl, FL.nil _⟩
set_option maxHeartbeats 1000000 in
set_option maxRecDepth 100000 in
theorem gbehind_some {W : World} (h : Gr W g G pn c q S) (hG : GOk G) (x : Int) :
    Calls Try.prog 27 #[.pointer (some ⟨g, 0, none⟩), .int .i64 x] W (Rl W (behI G x)) := by
  have HH := Lib.hid h
  have HG := Lib.hid hG
  have hlen := hG.len
  clear h hG
  cases hb : hasI G x with
  | false =>
    have HB := Lib.hid hb
    have HA : Hid (behI G x = []) := Lib.hid (by simp [behI, hb])
    clear hb
    go_enter Try.func27, Try.ntmps27
    go_wp2_with (go_at_call 22; refine (ghas_some HH.out _).mono ?_; rintro e w1 ⟨rfl, rfl⟩; rw [HB.out])
    go_ret
    rw [HA.out]
    exact ⟨_, rfl, FL.nil _⟩
  | true =>
    have HB := Lib.hid hb
    have HA : Hid (behI G x = behL G x G.length) := Lib.hid (by simp [behI, hb])
    have c0 := HH.out.c0
    obtain ⟨i0, hi, hz0, hz1, hz2⟩ := info_parts infoN
    clear hb
    go_enter Try.func27, Try.ntmps27
    go_wp2_with (go_at_call 22; refine (ghas_some HH.out _).mono ?_; rintro e w1 ⟨rfl, rfl⟩; rw [HB.out])
    clear c0
    have HF0 : Hid (FL W W (.slice none 0 0) (behL G x 0)) := Lib.hid (FL.nil _)
    go_loopw [5, 17] (fun lv i wl => ∃ k : Nat, k ≤ G.length ∧ i = .int .i64 k ∧ Hid (FL W wl lv (behL G x k))) (fun _ i _ => G.length - (intOf i).toNat)
    case atStart => exact ⟨0, by omega, rfl, HF0⟩
    case round =>
      clear HF0
      obtain ⟨k, hk, rfl, HJ⟩ := hrel
      obtain ⟨pp, c2, rfl, -⟩ := row_form HJ.out.1
      have hfl : (behL G x k).length ≤ k := filter_len _ k
      by_cases hlt : k < G.length
      · have HK := Lib.hid (HH.out.keep HJ.out.2)
        obtain rfl := HH.out.at_ (by omega)
        have cg := HK.out.gone k hlt
        have ca := HK.out.af k hlt
        have HN := Lib.hid (HK.out.ns k hlt)
        have HL := Lib.hid (aft_len HG.out k)
        have HS : Hid (behL G x (k + 1) = behL G x k ++ (if inI (aft G k) x then [k] else [])) := Lib.hid (range_filter _ k)
        generalize S.getD k (.slice none 0 0) = va at *
        generalize (nd G k).gone = ga at *
        obtain ⟨pa, cca, rfl, hpa⟩ := HN.out
        clear hpa
        cases hc : inI (aft G k) x with
        | true =>
          have HC := Lib.hid hc
          clear hc
          go_wp2_with (first
            | (go_at_call 39; refine (contains_n (HN.out.keep (balloc (Below.refl _ _) _)) x HL.out).mono ?_; rintro e w2 ⟨rfl, rfl⟩; rw [HC.out])
            | (at_builtin; refine wpList_append_row rfl _ _ 31 rfl 3 i0 (.int .i64 0) 1 8 Try.underlying31 hi hz0 hz1 hz2 rfl (by decide) (.slice pp (behL G x k).length c2) _ _ rfl (row_base ((HJ.out.keep (balloc (balloc (Below.refl _ _) _) _)).1) (Nat.zero_le _)) ⟨wr.heap.size + 1, 0, none⟩ 1 1 [.int .i64 k] rfl rfl (one_cell2 _ _ _ _) (fun x hx => by simp at hx; subst hx; rfl) (by unfold maxLen; omega) (by omega) ?_; intro v' w4 hown hf hv; have HE := Lib.hid ((HJ.out.keep (balloc (balloc (Below.refl _ _) _) _)).app hown hf hv); obtain ⟨p', c', rfl, -⟩ := row_form hown; clear hown hf hv))
          exact ⟨⟨k + 1, by omega, by go_num, by rw [HS.out, HC.out]; exact HE⟩, by simp [intOf]; omega⟩
        | false =>
          have HC := Lib.hid hc
          clear hc
          go_wp2_with (first
            | (go_at_call 39; refine (contains_n (HN.out.keep (balloc (Below.refl _ _) _)) x HL.out).mono ?_; rintro e w2 ⟨rfl, rfl⟩; rw [HC.out]))
          exact ⟨⟨k + 1, by omega, by go_num, by rw [HS.out, HC.out]; exact Lib.hid (by rw [show ((if false = true then [k] else []) : List Nat) = [] from rfl, List.append_nil]; exact HJ.out.keep (balloc (Below.refl _ _) _))⟩, by simp [intOf]; omega⟩
      · obtain rfl : k = G.length := by omega
        go_wp2
        go_ret
        rw [HA.out]
        exact ⟨_, rfl, HJ.out⟩
end
end Go.Proofs.Ytggjimeligbmcab
