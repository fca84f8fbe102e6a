/-
  A graph behind things done: small and Begun of layer 13's statements, and the document's example, by contract. Conditions: at most 80 things done, of at most 20 names each.
-/
import Derived.Test.YtggjimeligbmcabGr16
namespace Go.Proofs.Ytggjimeligbmcab
open Go.RowKit
set_option linter.unusedVariables false

/-- A thing done. -/
structure OpD where
  k : Int
  a : Int
  b : Int
  l : List Int
noncomputable def opN (G : List Nd) (o : OpD) : List Nd := if o.k = 0 then addN G o.l else if o.k = 1 then linkN G o.a o.b else if o.k = 2 then dropN G o.a else G
noncomputable def runG (z : Nat → OpD) : Nat → List Nd
  | 0 => []
  | n + 1 => opN (runG z n) (z n)
theorem runG_ok (z : Nat → OpD) : ∀ n, GOk (runG z n) := by
  intro n
  induction n with
  | zero => exact .nil
  | succ n ih =>
    show GOk (opN _ _)
    unfold opN
    split
    · exact ih.addN _
    · split
      · exact ih.linkN _ _
      · split
        · exact ih.dropN _
        · exact ih
/-- A slice's room. -/
def CapOk (v : Value) (l : List Int) : Prop := ∃ p cap, v = .slice p l.length cap ∧ l.length ≤ cap
/-- A slice of things done. -/
def OpsG (w : World) (v : Value) (n : Nat) (z : Nat → OpD) : Prop :=
  ∃ p cap, v = .slice p n cap ∧ n ≤ maxLen ∧ (n = 0 ∨ ∃ b off, p = some ⟨b, off, none⟩ ∧ ∀ j, j < n → w.cell? ⟨b, off + j * 4, none⟩ = some (.int .i64 (z j).k) ∧ w.cell? ⟨b, off + j * 4 + 1, none⟩ = some (.int .i64 (z j).a) ∧ w.cell? ⟨b, off + j * 4 + 2, none⟩ = some (.int .i64 (z j).b) ∧
    ∃ vl, w.cell? ⟨b, off + j * 4 + 3, none⟩ = some vl ∧ IntsAt w vl (z j).l ∧ (z j).l.length ≤ maxLen ∧ CapOk vl (z j).l)
section
variable {B : Nat} {W w w' w6 : World} {g : Nat} {G G' : List Nd} {N N' : List (Bool × Value)} {vn vn' v v' : Value} {n : Nat} {z : Nat → OpD}
theorem Gs.below (h : Gw B W g G N vn) (hs : Gs B W w g G N vn G') (hB : B ≤ W.heap.size) : Below B W w := hs.fr.below hB fun k hk => (h.own_lt hk).1
/-- A graph made since W, with all that lies there. -/
def Gm (W w : World) (g : Nat) (G : List Nd) : Prop := (∃ N vn, Gw W.heap.size w g G N vn) ∧ Below W.heap.size W w
theorem Gm.keep (h : Gm W w g G) (hb : Below w.heap.size w w') : Gm W w' g G := by
  obtain ⟨⟨N, vn, h1⟩, h2⟩ := h
  exact ⟨⟨N, vn, h1.keep hb⟩, bthen h2 hb⟩
theorem Gm.step {N : List (Bool × Value)} {vn : Value} (hb : Below W.heap.size W w) (h1 : Gw W.heap.size w g G N vn) (hs : Gs W.heap.size w w' g G N vn G') : Gm W w' g G' := by
  have h2 := Gs.below h1 hs hb.size
  obtain ⟨⟨N', vn', h3, _⟩, _⟩ := hs
  exact ⟨⟨N', vn', h3⟩, hb.trans h2⟩
theorem gm_new (W : World) : Calls Try.prog 11 #[] W fun e w' => ∃ g, e = .returned (.pointer (some ⟨g, 0, none⟩)) ∧ Gm W w' g [] :=
  (gnew W).mono fun e w' ⟨h1, h2, h3⟩ => ⟨_, h1, ⟨_, _, h2⟩, h3⟩
theorem gm_add {l : List Int} (h : Gm W w g G) (hG : GOk G) (hl : IntsAt w v l) (h100 : l.length ≤ 100) :
    Calls Try.prog 12 #[.pointer (some ⟨g, 0, none⟩), v] w fun e w' => ∃ E, e = .returned (.tuple #[.int .i64 (addNo G l), E]) ∧ ErrIs w' E (addBadG G l) ∧ Gm W w' g (addN G l) := by
  obtain ⟨⟨N, vn, h1⟩, h2⟩ := h
  refine (gadd h1 hG h2.size hl h100).mono ?_
  rintro e w' ⟨E, rfl, he, hs⟩
  exact ⟨E, rfl, he, .step h2 h1 hs⟩
theorem gm_link (h : Gm W w g G) (hG : GOk G) (a b : Int) :
    Calls Try.prog 15 #[.pointer (some ⟨g, 0, none⟩), .int .i64 a, .int .i64 b] w fun e w' => ∃ E, e = .returned E ∧ ErrIs w' E (linkBad G a b) ∧ Gm W w' g (linkN G a b) := by
  obtain ⟨⟨N, vn, h1⟩, h2⟩ := h
  refine (glink h1 hG h2.size a b).mono ?_
  rintro e w' ⟨E, rfl, he, hs⟩
  exact ⟨E, rfl, he, .step h2 h1 hs⟩
theorem gm_drop (h : Gm W w g G) (hG : GOk G) (a : Int) :
    Calls Try.prog 17 #[.pointer (some ⟨g, 0, none⟩), .int .i64 a] w fun e w' => ∃ E, e = .returned E ∧ ErrIs w' E (dropBadG G a) ∧ Gm W w' g (dropN G a) := by
  obtain ⟨⟨N, vn, h1⟩, h2⟩ := h
  refine (gdrop h1 hG a).mono ?_
  rintro e w' ⟨E, rfl, he, hs⟩
  exact ⟨E, rfl, he, .step h2 h1 hs⟩
theorem Gm.own {X : World} {N : List (Bool × Value)} {vn : Value} (h1 : Gw W.heap.size X g G N vn) {k : Nat} (hk : gOwn g N vn k) : W.heap.size ≤ k ∧ k < X.heap.size := h1.own_lt hk
/-- The same, with what may have turned: blocks that the graph had at X. -/
theorem gm_linkX {X : World} (h : Gm W X g G) (hb : Below X.heap.size X w) (hG : GOk G) (a b : Int) :
    Calls Try.prog 15 #[.pointer (some ⟨g, 0, none⟩), .int .i64 a, .int .i64 b] w fun e w' => ∃ E, e = .returned E ∧ ErrIs w' E (linkBad G a b) ∧ Gm W w' g (linkN G a b) ∧ Frm (fun k => W.heap.size ≤ k ∧ k < X.heap.size) w w' := by
  obtain ⟨⟨N, vn, h1⟩, h2⟩ := h
  refine (glink (h1.keep hb) hG (bthen h2 hb).size a b).mono ?_
  rintro e w' ⟨E, rfl, he, hs⟩
  exact ⟨E, rfl, he, .step (bthen h2 hb) (h1.keep hb) hs, hs.fr.mono fun k _ hk => h1.own_lt hk⟩
theorem gm_dropX {X : World} (h : Gm W X g G) (hb : Below X.heap.size X w) (hG : GOk G) (a : Int) :
    Calls Try.prog 17 #[.pointer (some ⟨g, 0, none⟩), .int .i64 a] w fun e w' => ∃ E, e = .returned E ∧ ErrIs w' E (dropBadG G a) ∧ Gm W w' g (dropN G a) ∧ Frm (fun k => W.heap.size ≤ k ∧ k < X.heap.size) w w' := by
  obtain ⟨⟨N, vn, h1⟩, h2⟩ := h
  refine (gdrop (h1.keep hb) hG a).mono ?_
  rintro e w' ⟨E, rfl, he, hs⟩
  exact ⟨E, rfl, he, .step (bthen h2 hb) (h1.keep hb) hs, hs.fr.mono fun k _ hk => h1.own_lt hk⟩
theorem gm_len (h : Gm W w g G) : Calls Try.prog 19 #[.pointer (some ⟨g, 0, none⟩)] w fun e w' => e = .returned (.int .i64 (G.length : Int)) ∧ w = w' := by
  obtain ⟨⟨N, vn, h1⟩, _⟩ := h
  obtain ⟨pn, c, q, _, hg⟩ := h1.gr
  exact glen_some hg
theorem gm_has (h : Gm W w g G) (x : Int) : Calls Try.prog 22 #[.pointer (some ⟨g, 0, none⟩), .int .i64 x] w fun e w' => e = .returned (.bool (hasI G x)) ∧ w = w' := by
  obtain ⟨⟨N, vn, h1⟩, _⟩ := h
  obtain ⟨pn, c, q, _, hg⟩ := h1.gr
  exact ghas_some hg x
theorem gm_after (h : Gm W w g G) (hG : GOk G) (x : Int) : Calls Try.prog 26 #[.pointer (some ⟨g, 0, none⟩), .int .i64 x] w (Rl w (aftI G x)) := by
  obtain ⟨⟨N, vn, h1⟩, _⟩ := h
  obtain ⟨pn, c, q, _, hg⟩ := h1.gr
  exact gafter_some hg hG x
theorem gm_behind (h : Gm W w g G) (hG : GOk G) (x : Int) : Calls Try.prog 27 #[.pointer (some ⟨g, 0, none⟩), .int .i64 x] w (Rl w (behI G x)) := by
  obtain ⟨⟨N, vn, h1⟩, _⟩ := h
  obtain ⟨pn, c, q, _, hg⟩ := h1.gr
  exact gbehind_some hg hG x
theorem gm_reach (h : Gm W w g G) (hG : GOk G) (x : Int) : Calls Try.prog 25 #[.pointer (some ⟨g, 0, none⟩), .int .i64 x] w (Rl w (rchI G x)) := by
  obtain ⟨⟨N, vn, h1⟩, _⟩ := h
  obtain ⟨pn, c, q, _, hg⟩ := h1.gr
  exact greach_some hg hG x
theorem gm_ends (h : Gm W w g G) (hG : GOk G) : Calls Try.prog 30 #[.pointer (some ⟨g, 0, none⟩)] w (Rl w ((List.range G.length).filter (endB G))) := by
  obtain ⟨⟨N, vn, h1⟩, _⟩ := h
  obtain ⟨pn, c, q, _, hg⟩ := h1.gr
  exact gends_some hg hG
theorem gm_order (h : Gm W w g G) (hG : GOk G) : Calls Try.prog 31 #[.pointer (some ⟨g, 0, none⟩)] w (Rl w (ordG G)) := by
  obtain ⟨⟨N, vn, h1⟩, _⟩ := h
  obtain ⟨pn, c, q, _, hg⟩ := h1.gr
  exact gorder_some hg hG
theorem gm_depth (h : Gm W w g G) (hG : GOk G) (x : Int) : Calls Try.prog 29 #[.pointer (some ⟨g, 0, none⟩), .int .i64 x] w fun e w' => e = .returned (.int .i64 (depI G x : Int)) ∧ Below w.heap.size w w' := by
  obtain ⟨⟨N, vn, h1⟩, _⟩ := h
  obtain ⟨pn, c, q, _, hg⟩ := h1.gr
  exact gdepth_some hg hG x
theorem gsmall (hO : OpsG W v n z) :
    Calls Try.prog 9 #[v] W fun e w' => ∃ r, e = .returned (.bool r) ∧ (r = true ↔ n ≤ 80 ∧ ∀ j, j < n → (z j).l.length ≤ 20) ∧ Below W.heap.size W w' := by
  obtain ⟨p, cap, rfl, hnm, hc⟩ := hO
  have HC := Lib.hid hc
  have HNM := Lib.hid hnm
  have hn63 : (n : Int) ≤ 9223372036854775807 := by unfold maxLen at hnm; omega
  clear hc hnm
  go_enter Try.func9, Try.ntmps9
  go_wp2
  go_loopw [7] (fun iv wl => Hid (Below W.heap.size W wl) ∧ ∃ k : Nat, k ≤ n ∧ iv = .int .i64 k ∧ Hid (∀ j, j < k → (z j).l.length ≤ 20)) (fun iv _ => n - (intOf iv).toNat)
  case atStart => exact ⟨Lib.hid (Below.refl _ _), 0, Nat.zero_le _, rfl, Lib.hid fun j h => absurd h (Nat.not_lt_zero _)⟩
  case round =>
    obtain ⟨HB, k, hk, rfl, HJ⟩ := hrel
    by_cases hlt : k < n
    · obtain ⟨b, off, rfl, hc⟩ := HC.out.resolve_left (by omega)
      obtain ⟨q0, q1, q2, vl, q3, hl, hlm⟩ := hc k hlt
      have q0 := keepc HB.out q0
      have q1 := keepc HB.out q1
      have q2 := keepc HB.out q2
      have q3 := keepc HB.out q3
      obtain ⟨lp, lc, rfl, hlc⟩ := hl
      have HJN : Hid ((z k).l.length ≤ 20 → ∀ j, j < k + 1 → (z j).l.length ≤ 20) := Lib.hid fun e j hj => by
        by_cases e2 : j = k
        · rw [e2]; exact e
        · exact HJ.out j (by omega)
      clear hc hlc
      generalize (z k).k = x0 at *
      generalize (z k).a = x1 at *
      generalize (z k).b = x2 at *
      have HNO : Hid (20 < (z k).l.length → ¬ (n ≤ 80 ∧ ∀ j, j < n → (z j).l.length ≤ 20)) := Lib.hid fun e h => by have := h.2 k hlt; omega
      generalize (z k).l.length = m at *
      have HM := Lib.hid hlm
      clear hlm
      by_cases hm : m ≤ 20
      · have d1 : decide ((20 : Int) < (m : Int)) = false := decide_eq_false (by omega)
        have HX := Lib.hid (HJN.out hm)
        clear hm HJN
        go_wp2_with fail
        exact ⟨⟨Lib.hid (balloc HB.out _), k + 1, by omega, by go_num, HX⟩, by simp [intOf]; omega⟩
      · have d1 : decide ((20 : Int) < (m : Int)) = true := decide_eq_true (by omega)
        have HX := Lib.hid (HNO.out (by omega))
        clear hm HJN
        go_wp2_with fail
        go_ret
        exact ⟨_, rfl, ⟨(fun h => by cases h), fun h => absurd h HX.out⟩, balloc HB.out _⟩
    · obtain rfl : k = n := by omega
      go_wp2_with fail
      go_ret
      exact ⟨_, rfl, ⟨fun h => ⟨by have := of_decide_eq_true h; omega, HJ.out⟩, fun h => decide_eq_true (by omega)⟩, HB.out⟩
open Classical in
/-- Are they few? -/
noncomputable def smB (n : Nat) (z : Nat → OpD) : Bool := decide (n ≤ 80 ∧ ∀ j, j < n → (z j).l.length ≤ 20)
theorem gsmallB (hO : OpsG W v n z) : Calls Try.prog 9 #[v] W fun e w' => e = .returned (.bool (smB n z)) ∧ Below W.heap.size W w' := by
  refine (gsmall hO).mono ?_
  rintro e w' ⟨r, rfl, hr, hb⟩
  refine ⟨?_, hb⟩
  rw [show r = smB n z by rw [Bool.eq_iff_iff, hr, smB, decide_eq_true_eq]]
theorem smB_yes (h : smB n z = true) : n ≤ 80 ∧ ∀ j, j < n → (z j).l.length ≤ 20 := by simpa [smB] using h
theorem OpsG.keep (h : OpsG w v n z) (hb : Below w.heap.size w w') : OpsG w' v n z := by
  obtain ⟨p, cap, rfl, h1, h2⟩ := h
  refine ⟨p, cap, rfl, h1, h2.imp id ?_⟩
  rintro ⟨b, off, rfl, hc⟩
  refine ⟨b, off, rfl, fun j hj => ?_⟩
  obtain ⟨a1, a2, a3, vl, a4, a5, a6⟩ := hc j hj
  exact ⟨keepc hb a1, keepc hb a2, keepc hb a3, vl, keepc hb a4, a5.keep hb, a6⟩
set_option maxRecDepth 100000 in
theorem gbegun (hO : OpsG W v n z) (hs : smB n z = true) :
    Calls Try.prog 33 #[v] W fun e w' => ∃ g, e = .returned (.pointer (some ⟨g, 0, none⟩)) ∧ Gm W w' g (runG z n) := by
  obtain ⟨h80, h20⟩ := smB_yes hs
  obtain ⟨p, cap, rfl, hnm, hc⟩ := hO
  have HC := Lib.hid hc
  have H20 := Lib.hid h20
  clear hc hnm h20 hs
  go_enter Try.func33, Try.ntmps33
  go_wp2_with (go_at_call 11; refine (gm_new _).mono ?_; rintro e w1 ⟨g, rfl, hg⟩; have HG0 : Hid (Gm W w1 g (runG z 0)) := Lib.hid hg; clear hg)
  go_loopw [9] (fun iv wl => ∃ k : Nat, k ≤ n ∧ iv = .int .i64 k ∧ Hid (Gm W wl g (runG z k))) (fun iv _ => n - (intOf iv).toNat)
  case atStart => exact ⟨0, Nat.zero_le _, rfl, HG0⟩
  case round =>
    clear HG0
    obtain ⟨k, hk, rfl, HM⟩ := hrel
    by_cases hlt : k < n
    · obtain ⟨b, off, rfl, hc⟩ := HC.out.resolve_left (by omega)
      obtain ⟨q0, q1, q2, vl, q3, hl, hlm⟩ := hc k hlt
      have HL := Lib.hid hl
      have HS : Hid (runG z (k + 1) = opN (runG z k) (z k)) := Lib.hid rfl
      have q0 := keepc HM.out.2 q0
      have q1 := keepc HM.out.2 q1
      have q2 := keepc HM.out.2 q2
      have q3 := keepc HM.out.2 q3
      obtain ⟨lp, lc, rfl, hlc⟩ := hl
      have H2 := Lib.hid (H20.out k hlt)
      have HOK := Lib.hid (runG_ok z k)
      clear hc hlc
      generalize hzk : z k = o at *
      obtain ⟨x0, x1, x2, xl⟩ := o
      simp only at q0 q1 q2 q3
      clear hzk hlm
      generalize runG z k = G at *
      have HK : Hid (∀ o, Gm W (wr.alloc o) g G ∧ IntsAt (wr.alloc o) (.slice lp xl.length lc) xl) := Lib.hid fun o => ⟨HM.out.keep (balloc (Below.refl _ _) o), (HL.out.keep HM.out.2).keep (balloc (Below.refl _ _) o)⟩
      by_cases e0 : x0 = 0
      · subst e0
        go_wp2_with (go_at_call 12; refine (gm_add (HK.out _).1 HOK.out (HK.out _).2 (Nat.le_trans H2.out (by decide))).mono ?_; rintro e w2 ⟨E, rfl, he, hm⟩; have HM2 := Lib.hid hm; clear he hm)
        exact ⟨⟨k + 1, by omega, by go_num, by rw [HS.out]; exact HM2⟩, by simp [intOf]; omega⟩
      · by_cases e1 : x0 = 1
        · subst e1
          go_wp2_with (go_at_call 15; refine (gm_link (HK.out _).1 HOK.out _ _).mono ?_; rintro e w2 ⟨E, rfl, he, hm⟩; have HM2 := Lib.hid hm; clear he hm)
          exact ⟨⟨k + 1, by omega, by go_num, by rw [HS.out]; exact HM2⟩, by simp [intOf]; omega⟩
        · by_cases e2 : x0 = 2
          · subst e2
            go_wp2_with (go_at_call 17; refine (gm_drop (HK.out _).1 HOK.out _).mono ?_; rintro e w2 ⟨E, rfl, he, hm⟩; have HM2 := Lib.hid hm; clear he hm)
            exact ⟨⟨k + 1, by omega, by go_num, by rw [HS.out]; exact HM2⟩, by simp [intOf]; omega⟩
          · have f0 : (x0 == 0) = false := by simpa using e0
            have f1 : (x0 == 1) = false := by simpa using e1
            have f2 : (x0 == 2) = false := by simpa using e2
            have HE : Hid (opN G ⟨x0, x1, x2, xl⟩ = G) := Lib.hid (by simp [opN, e0, e1, e2])
            go_wp2_with fail
            exact ⟨⟨k + 1, by omega, by go_num, by rw [HS.out, HE.out]; exact Lib.hid (HK.out _).1⟩, by simp [intOf]; omega⟩
    · obtain rfl : k = n := by omega
      go_wp2_with fail
      go_ret
      exact ⟨_, rfl, HM.out⟩
end
end Go.Proofs.Ytggjimeligbmcab
