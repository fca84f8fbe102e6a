/-
  In and End of the document, by contract. Conditions: at most 1000 notes; for End: the index lies in a span shown.
-/
import Derived.Test.YtnblkkmandlllaaTl
namespace Go.Proofs.Ytnblkkmandlllaa
open Go.RowKit Go.Shelf
set_option linter.unusedVariables false
set_option linter.unusedSimpArgs false

theorem atB1 (ring : Int) (x : Nt) : atB ring [1] x = (x.ring == ring && x.deed == 1) := by unfold atB; rw [Bool.eq_iff_iff]; simp
theorem rightB_of {x : Nt} (h : rightB x = true) : 0 ≤ x.lo ∧ x.lo ≤ x.seq ∧ x.seq ≤ 4611686018427387904 := by
  unfold rightB at h
  simp at h
  omega
theorem mem_pubN {l : List Nt} {ring : Int} {s : Sp} : s ∈ pubN l ring ↔ ∃ x ∈ l, atB ring [1] x = true ∧ rightB x = true ∧ s = (x.lo, x.seq) := by
  unfold pubN
  simp only [List.mem_map, List.mem_filter]
  constructor
  · rintro ⟨x, ⟨⟨h1, h2⟩, h3⟩, rfl⟩; exact ⟨x, h1, h2, h3, rfl⟩
  · rintro ⟨x, h1, h2, h3, rfl⟩; exact ⟨x, ⟨⟨h1, h2⟩, h3⟩, rfl⟩
/-- A note that shows an index. -/
def inQ (ring i : Int) (x : Nt) : Bool := atB ring [1] x && rightB x && decide (x.lo ≤ i) && decide (i ≤ x.seq)
def inP (l : List Nt) (ring i : Int) : Bool := l.any (inQ ring i)
theorem inP_iff (l : List Nt) (ring i : Int) : inP l ring i = true ↔ InP (pubN l ring) i := by
  unfold inP InP
  rw [List.any_eq_true]
  constructor
  · rintro ⟨x, hx, h⟩
    unfold inQ at h
    simp only [Bool.and_eq_true, decide_eq_true_eq] at h
    exact ⟨_, mem_pubN.2 ⟨x, hx, h.1.1.1, h.1.1.2, rfl⟩, h.1.2, h.2⟩
  · rintro ⟨s, hs, h1, h2⟩
    obtain ⟨x, hx, a, b, rfl⟩ := mem_pubN.1 hs
    refine ⟨x, hx, ?_⟩
    unfold inQ
    simp only [Bool.and_eq_true, decide_eq_true_eq]
    exact ⟨⟨⟨a, b⟩, h1⟩, h2⟩
/-- A note that leads on. -/
def onQ (ring i : Int) (x : Nt) : Bool := atB ring [1] x && rightB x && decide (x.lo - 1 ≤ i) && decide (i < x.seq)
theorem canon_two {out : List Sp} {P : Int → Prop} (h : Canon out P) {x y : Sp} (hx : x ∈ out) (hy : y ∈ out) : x = y ∨ x.2 + 1 < y.1 ∨ y.2 + 1 < x.1 := by
  obtain ⟨i, hi, rfl⟩ := List.mem_iff_getElem.1 hx
  obtain ⟨j, hj, rfl⟩ := List.mem_iff_getElem.1 hy
  have hp := List.pairwise_iff_getElem.1 h.gap
  rcases Nat.lt_trichotomy i j with hlt | heq | hgt
  · exact .inr (.inl (hp i j hi hj hlt))
  · subst heq; exact .inl rfl
  · exact .inr (.inr (hp j i hj hi hgt))
theorem on_stays {l : List Nt} {ring i : Int} {out : List Sp} (h : Canon out (fun i => InP (pubN l ring) i)) {s : Sp} (hs : s ∈ out) (h1 : s.1 ≤ i) (h2 : i ≤ s.2) {x : Nt} (hx : x ∈ l) (hq : onQ ring i x = true) : x.seq ≤ s.2 := by
  unfold onQ at hq
  simp only [Bool.and_eq_true, decide_eq_true_eq] at hq
  obtain ⟨⟨⟨qa, qb⟩, q1⟩, q2⟩ := hq
  rcases Decidable.em (s.2 < x.seq) with hc | hc
  · have hin : InP (pubN l ring) (s.2 + 1) := ⟨_, mem_pubN.2 ⟨x, hx, qa, qb, rfl⟩, by simp only; omega, by simp only; omega⟩
    obtain ⟨y, hy, y1, y2⟩ := (h.cov _).2 hin
    have hyn := h.ne y hy
    rcases canon_two h hs hy with rfl | hg | hg <;> omega
  · omega
theorem on_ends {l : List Nt} {ring i : Int} {out : List Sp} (h : Canon out (fun i => InP (pubN l ring) i)) {s : Sp} (hs : s ∈ out) (h1 : s.1 ≤ i) (h2 : i ≤ s.2) (hq : l.any (onQ ring i) = false) : i = s.2 := by
  rcases Decidable.em (i < s.2) with hc | hc
  · obtain ⟨y, hy, y1, y2⟩ := (h.cov (i + 1)).1 ⟨s, hs, by omega, by omega⟩
    obtain ⟨x, hx, a, b, rfl⟩ := mem_pubN.1 hy
    simp only at y1 y2
    have := List.any_eq_false.1 hq x hx
    unfold onQ at this
    rw [a, b, decide_eq_true (show x.lo - 1 ≤ i by omega), decide_eq_true (show i < x.seq by omega)] at this
    exact absurd rfl this
  · omega
theorem any_snoc {α : Type} {f : α → Bool} {l : List α} {x : α} : (l ++ [x]).any f = (l.any f || f x) := by simp [List.any_append]
theorem any_of {f : Nt → Bool} {l : List Nt} {x : Nt} (hx : x ∈ l) (h : f x = true) : l.any f = true := List.any_eq_true.2 ⟨x, hx, h⟩

set_option maxRecDepth 100000 in
set_option maxHeartbeats 4000000 in
theorem rin {W : World} {v : Value} {l : List Nt} {ring i : Int} (hl : NtsAt W v l) (h120 : l.length ≤ 1000) :
    Calls Try.prog 17 #[v, .int .i64 ring, .int .i64 i] W fun e w' => e = .returned (.bool (inP l ring i)) ∧ Below W.heap.size W w' := by
  have HL := Lib.hid hl
  obtain ⟨p, c, rfl, hc, hm⟩ := hl.form
  clear hl
  go_enter Try.func17, Try.ntmps17
  go_wp2_with fail
  go_loopw [7] (fun iv wl => ∃ k : Nat, k ≤ l.length ∧ iv = .int .i64 k ∧ Hid ((l.take k).any (inQ ring i) = false ∧ Below W.heap.size W wl)) (fun iv _ => l.length - (intOf iv).toNat)
  case atStart => exact ⟨0, Nat.zero_le _, rfl, Lib.hid ⟨rfl, Below.refl _ _⟩⟩
  case round =>
    obtain ⟨k, hk, rfl, HJ⟩ := hrel
    by_cases hlt : k < l.length
    · have hNA := HL.out.keep HJ.out.2
      obtain ⟨b, off, x, rfl, hx, hb, hwf, ⟨c0, c1, c2, c3, c4, c5, c6, c7⟩⟩ := hNA.at_ hlt
      have HNO : Hid (inQ ring i x = false → (l.take (k + 1)).any (inQ ring i) = false) := Lib.hid fun h => by rw [take_snocN hx, any_snoc, HJ.out.1, h]; rfl
      have HYE : Hid (inQ ring i x = true → inP l ring i = true) := Lib.hid fun h => any_of (List.mem_of_getElem? hx) h
      have HQ : Hid (inQ ring i x = (x.ring == ring && x.deed == 1 && rightB x && decide (x.lo ≤ i) && decide (i ≤ x.seq))) := Lib.hid (by unfold inQ; rw [atB1])
      have HR := Lib.hid (rright wr x)
      have HB := Lib.hid HJ.out.2
      clear hx hb hwf hNA
      rcases Bool.eq_false_or_eq_true (x.ring == ring) with h1 | h1
      · rcases Bool.eq_false_or_eq_true (x.deed == 1) with h2 | h2
        · rcases Bool.eq_false_or_eq_true (rightB x) with h3 | h3
          · rcases Bool.eq_false_or_eq_true (decide (x.lo ≤ i)) with h4 | h4
            · rcases Bool.eq_false_or_eq_true (decide (i ≤ x.seq)) with h5 | h5
              · have HF := Lib.hid (HYE.out (by rw [HQ.out, h1, h2, h3, h4, h5]; rfl))
                go_wp2_with (go_at_call 34; refine HR.out.mono ?_; rintro e w1 ⟨rfl, hb⟩; rw [h3]; have e3 := keepc hb c3; have e4 := keepc hb c4; have HB1 := Lib.hid (bthen HB.out hb); clear hb c0 c1 c2 c3 c4 c5 c6 c7)
                go_ret
                exact ⟨by rw [HF.out]; rfl, HB1.out⟩
              · have HF := Lib.hid (HNO.out (by rw [HQ.out, h1, h2, h3, h4, h5]; rfl))
                go_wp2_with (go_at_call 34; refine HR.out.mono ?_; rintro e w1 ⟨rfl, hb⟩; rw [h3]; have e3 := keepc hb c3; have e4 := keepc hb c4; have HB1 := Lib.hid (bthen HB.out hb); clear hb c0 c1 c2 c3 c4 c5 c6 c7)
                exact ⟨⟨k + 1, by omega, by go_num, Lib.hid ⟨HF.out, HB1.out⟩⟩, by simp [intOf]; omega⟩
            · have HF := Lib.hid (HNO.out (by rw [HQ.out, h1, h2, h3, h4]; rfl))
              go_wp2_with (go_at_call 34; refine HR.out.mono ?_; rintro e w1 ⟨rfl, hb⟩; rw [h3]; have e3 := keepc hb c3; have e4 := keepc hb c4; have HB1 := Lib.hid (bthen HB.out hb); clear hb c0 c1 c2 c3 c4 c5 c6 c7)
              exact ⟨⟨k + 1, by omega, by go_num, Lib.hid ⟨HF.out, HB1.out⟩⟩, by simp [intOf]; omega⟩
          · have HF := Lib.hid (HNO.out (by rw [HQ.out, h1, h2, h3]; rfl))
            go_wp2_with (go_at_call 34; refine HR.out.mono ?_; rintro e w1 ⟨rfl, hb⟩; rw [h3]; have HB1 := Lib.hid (bthen HB.out hb); clear hb c0 c1 c2 c3 c4 c5 c6 c7)
            exact ⟨⟨k + 1, by omega, by go_num, Lib.hid ⟨HF.out, HB1.out⟩⟩, by simp [intOf]; omega⟩
        · have HF := Lib.hid (HNO.out (by rw [HQ.out, h1, h2]; rfl))
          go_wp2
          exact ⟨⟨k + 1, by omega, by go_num, Lib.hid ⟨HF.out, HB.out⟩⟩, by simp [intOf]; omega⟩
      · have HF := Lib.hid (HNO.out (by rw [HQ.out, h1]; rfl))
        go_wp2
        exact ⟨⟨k + 1, by omega, by go_num, Lib.hid ⟨HF.out, HB.out⟩⟩, by simp [intOf]; omega⟩
    · obtain rfl : k = l.length := by omega
      rw [List.take_length] at HJ
      go_wp2
      go_ret
      exact ⟨by unfold inP; rw [HJ.out.1]; rfl, HJ.out.2⟩

set_option maxRecDepth 100000 in
set_option maxHeartbeats 4000000 in
theorem rend {W : World} {v : Value} {l : List Nt} {ring i0 : Int} {out : List Sp} {s : Sp} (hl : NtsAt W v l) (h120 : l.length ≤ 1000) (hcn : Canon out (fun i => InP (pubN l ring) i)) (hs : s ∈ out) (hs0 : 0 ≤ s.1) (hsm : s.2 ≤ 4611686018427387904) (hi1 : s.1 ≤ i0) (hi2 : i0 ≤ s.2) :
    Calls Try.prog 18 #[v, .int .i64 ring, .int .i64 i0] W fun e w' => e = .returned (.int .i64 s.2) ∧ Below W.heap.size W w' := by
  have HL := Lib.hid hl
  have HST : Hid (∀ i x, s.1 ≤ i → i ≤ s.2 → x ∈ l → onQ ring i x = true → x.seq ≤ s.2) := Lib.hid fun i x a b c d => on_stays hcn hs a b c d
  have HEN : Hid (∀ i, s.1 ≤ i → i ≤ s.2 → l.any (onQ ring i) = false → i = s.2) := Lib.hid fun i a b c => on_ends hcn hs a b c
  obtain ⟨s1, s2⟩ := s
  simp only at hs0 hsm hi1 hi2 HST HEN ⊢
  obtain ⟨p, c, rfl, hc, hm⟩ := hl.form
  clear hl hcn hs
  go_enter Try.func18, Try.ntmps18
  go_wp2_with fail
  go_loopw [2, 7] (fun iv mv wl => ∃ (i : Int) (m : Bool), iv = .int .i64 i ∧ mv = .bool m ∧ s1 ≤ i ∧ i ≤ s2 ∧ Hid ((m = false → l.any (onQ ring i) = false) ∧ Below W.heap.size W wl)) (fun iv mv _ => (s2 - intOf iv).toNat * 2 + (match mv with | .bool true => 1 | _ => 0))
  case atStart => exact ⟨i0, true, rfl, rfl, hi1, hi2, Lib.hid ⟨by simp, Below.refl _ _⟩⟩
  case round =>
    obtain ⟨i, m, rfl, rfl, h1, h2, HJ⟩ := hrel
    cases m with
    | false =>
      have HE := Lib.hid (HEN.out i h1 h2 (HJ.out.1 rfl))
      go_wp2
      go_ret
      exact ⟨by rw [HE.out]; rfl, HJ.out.2⟩
    | true =>
      have HB0 := Lib.hid HJ.out.2
      obtain ⟨w2, hw2⟩ : ∃ w2, w2 = wr := ⟨_, rfl⟩
      rw [← hw2] at HB0 ⊢
      clear HJ hw2
      go_wp2_with fail
      go_loopw [2, 7, 8] (fun jv mv kv wl => ∃ (j : Int) (m : Bool) (k : Nat), k ≤ l.length ∧ jv = .int .i64 j ∧ mv = .bool m ∧ kv = .int .i64 k ∧ i ≤ j ∧ j ≤ s2 ∧ (m = true → i < j) ∧ (m = false → j = i) ∧ Hid ((m = false → (l.take k).any (onQ ring i) = false) ∧ Below w2.heap.size w2 wl)) (fun _ _ kv _ => l.length - (intOf kv).toNat)
      case atStart => exact ⟨i, false, 0, Nat.zero_le _, rfl, rfl, rfl, Int.le_refl _, h2, by simp, by simp, Lib.hid ⟨by simp, Below.refl _ _⟩⟩
      case round =>
        obtain ⟨j, m, k, hk, rfl, rfl, rfl, hj1, hj2, hm1, hm2, HI⟩ := hrel
        by_cases hlt : k < l.length
        · have HB := Lib.hid (bthen HB0.out HI.out.2)
          have hNA := HL.out.keep HB.out
          obtain ⟨b, off, x, rfl, hx, hb, hwf, ⟨c0, c1, c2, c3, c4, c5, c6, c7⟩⟩ := hNA.at_ hlt
          have HNO : Hid (onQ ring j x = false → (m = false → (l.take (k + 1)).any (onQ ring i) = false)) := Lib.hid fun h hmf => by rw [take_snocN hx, any_snoc, HI.out.1 hmf, ← hm2 hmf, h]; rfl
          have HYE : Hid (onQ ring j x = true → x.seq ≤ s2) := Lib.hid fun h => HST.out j x (by omega) hj2 (List.mem_of_getElem? hx) h
          have HQ : Hid (onQ ring j x = (x.ring == ring && x.deed == 1 && rightB x && decide (x.lo - 1 ≤ j) && decide (j < x.seq))) := Lib.hid (by unfold onQ; rw [atB1])
          have HR := Lib.hid (rright wr x)
          have HBI := Lib.hid HI.out.2
          have HRO : Hid (rightB x = true → 0 ≤ x.lo ∧ x.lo ≤ x.seq ∧ x.seq ≤ 4611686018427387904) := Lib.hid rightB_of
          clear hx hb hwf hNA HI HB
          rcases Bool.eq_false_or_eq_true (x.ring == ring) with q1 | q1
          · rcases Bool.eq_false_or_eq_true (x.deed == 1) with q2 | q2
            · rcases Bool.eq_false_or_eq_true (rightB x) with q3 | q3
              · obtain ⟨r1, r2, r3⟩ := HRO.out q3
                rcases Bool.eq_false_or_eq_true (decide (x.lo - 1 ≤ j)) with q4 | q4
                · rcases Bool.eq_false_or_eq_true (decide (j < x.seq)) with q5 | q5
                  · have hle := HYE.out (by rw [HQ.out, q1, q2, q3, q4, q5]; rfl)
                    go_wp2_with (go_at_call 34; refine HR.out.mono ?_; rintro e w1 ⟨rfl, hb⟩; rw [q3]; have e3 := keepc hb c3; have e4 := keepc hb c4; have HB1 := Lib.hid (bthen HBI.out hb); clear hb c0 c1 c2 c3 c4 c5 c6 c7)
                    have hjs : j < x.seq := by simpa using q5
                    exact ⟨⟨x.seq, true, k + 1, by omega, rfl, rfl, by go_num, by omega, hle, fun _ => by omega, fun h => by simp at h, Lib.hid ⟨fun h => by simp at h, HB1.out⟩⟩, by simp [intOf]; omega⟩
                  · have HF := Lib.hid (HNO.out (by rw [HQ.out, q1, q2, q3, q4, q5]; rfl))
                    go_wp2_with (go_at_call 34; refine HR.out.mono ?_; rintro e w1 ⟨rfl, hb⟩; rw [q3]; have e3 := keepc hb c3; have e4 := keepc hb c4; have HB1 := Lib.hid (bthen HBI.out hb); clear hb c0 c1 c2 c3 c4 c5 c6 c7)
                    exact ⟨⟨j, m, k + 1, by omega, rfl, rfl, by go_num, hj1, hj2, hm1, hm2, Lib.hid ⟨HF.out, HB1.out⟩⟩, by simp [intOf]; omega⟩
                · have HF := Lib.hid (HNO.out (by rw [HQ.out, q1, q2, q3, q4]; rfl))
                  go_wp2_with (go_at_call 34; refine HR.out.mono ?_; rintro e w1 ⟨rfl, hb⟩; rw [q3]; have e3 := keepc hb c3; have e4 := keepc hb c4; have HB1 := Lib.hid (bthen HBI.out hb); clear hb c0 c1 c2 c3 c4 c5 c6 c7)
                  exact ⟨⟨j, m, k + 1, by omega, rfl, rfl, by go_num, hj1, hj2, hm1, hm2, Lib.hid ⟨HF.out, HB1.out⟩⟩, by simp [intOf]; omega⟩
              · have HF := Lib.hid (HNO.out (by rw [HQ.out, q1, q2, q3]; rfl))
                go_wp2_with (go_at_call 34; refine HR.out.mono ?_; rintro e w1 ⟨rfl, hb⟩; rw [q3]; have HB1 := Lib.hid (bthen HBI.out hb); clear hb c0 c1 c2 c3 c4 c5 c6 c7)
                exact ⟨⟨j, m, k + 1, by omega, rfl, rfl, by go_num, hj1, hj2, hm1, hm2, Lib.hid ⟨HF.out, HB1.out⟩⟩, by simp [intOf]; omega⟩
            · have HF := Lib.hid (HNO.out (by rw [HQ.out, q1, q2]; rfl))
              go_wp2
              exact ⟨⟨j, m, k + 1, by omega, rfl, rfl, by go_num, hj1, hj2, hm1, hm2, Lib.hid ⟨HF.out, HBI.out⟩⟩, by simp [intOf]; omega⟩
          · have HF := Lib.hid (HNO.out (by rw [HQ.out, q1]; rfl))
            go_wp2
            exact ⟨⟨j, m, k + 1, by omega, rfl, rfl, by go_num, hj1, hj2, hm1, hm2, Lib.hid ⟨HF.out, HBI.out⟩⟩, by simp [intOf]; omega⟩
        · obtain rfl : k = l.length := by omega
          rw [List.take_length] at HI
          have HB := Lib.hid (bthen HB0.out HI.out.2)
          go_wp2
          cases m with
          | true =>
            have := hm1 rfl
            exact ⟨⟨j, true, rfl, rfl, by omega, hj2, Lib.hid ⟨fun h => by simp at h, HB.out⟩⟩, by simp [intOf]; omega⟩
          | false =>
            obtain rfl := hm2 rfl
            exact ⟨⟨j, false, rfl, rfl, by omega, hj2, Lib.hid ⟨fun _ => HI.out.1 rfl, HB.out⟩⟩, by first | (simp [intOf]; done) | (simp [intOf]; omega)⟩
end Go.Proofs.Ytnblkkmandlllaa
