/-
  A claim of package multi done at once, in plain numbers: each of its steps, and how it ends. No condition but those that each theorem names.
-/
import Derived.Test.YtjadapjjilegnaaPl
namespace Go.Proofs.Ytjadapjjilegnaa
open Go.RowKit
set_option linter.unusedVariables false

/-- What was seen last is enough. -/
def enoughP (N c sn n : Int) : Prop := c + n - N ≤ sn ∧ sn ≤ c
/-- There is room. -/
def okP (N c sn n : Int) (gv : List Int) : Prop := enoughP N c sn n ∨ c + n - N ≤ leastP c gv
open Classical in
/-- What was seen last, behind it. -/
noncomputable def snP (N c sn n : Int) (gv : List Int) : Int := if enoughP N c sn n then sn else leastP c gv

/-- Where a claim done at once stands. -/
def CI (N c sn : Int) (sh gv : List Int) (n sw0 : Int) (xs : List Int) (sw : Int) (t : Tr) : Prop :=
  t.n = n ∧ -1 ≤ t.last ∧ t.last ≤ c + n + 1 ∧
  ((t.stg = 1 ∧ xs = mk c sn sh gv ∧ sw = sw0) ∨
   (t.stg = 2 ∧ xs = mk c sn sh gv ∧ sw = sw0 ∧ t.had = c ∧ t.last = c + n) ∨
   (t.stg = 3 ∧ xs = mk c sn sh gv ∧ sw = sw0 ∧ t.had = c ∧ t.last = c + n ∧ t.ids = idsN sh.length gv.length ∧ t.seen < gv.length ∧ t.least = leastP c (gv.take t.seen) ∧ ¬ enoughP N c sn n) ∨
   (t.stg = 4 ∧ xs = mk c sn sh gv ∧ sw = sw0 ∧ t.had = c ∧ t.last = c + n ∧ t.least = leastP c gv ∧ c + n - N ≤ leastP c gv ∧ ¬ enoughP N c sn n) ∨
   (t.stg = 5 ∧ xs = mk c (snP N c sn n gv) sh gv ∧ sw = sw0 ∧ t.had = c ∧ t.last = c + n ∧ okP N c sn n gv) ∨
   (t.stg = 6 ∧ xs = mk (c + n) (snP N c sn n gv) sh gv ∧ sw = c + n ∧ t.last = c + n ∧ okP N c sn n gv) ∨
   (t.stg = 7 ∧ xs = mk c sn sh gv ∧ sw = sw0 ∧ ¬ okP N c sn n gv))

/-- How far it is from its end. -/
def farT (m : Nat) (t : Tr) : Nat := if t.stg = 1 then m + 5 else if t.stg = 2 then m + 4 else if t.stg = 3 then m - t.seen + 3 else if t.stg = 4 then 2 else if t.stg = 5 then 1 else 0

section
variable {N c sn n sw0 sw : Int} {sh gv xs : List Int} {t : Tr}
theorem getD_of {l : List Int} {i : Nat} {x : Int} (h : l[i]? = some x) : l.getD i 0 = x := by simp [List.getD, h]
/-- Behind what is read. -/
theorem CI.judge {t : Tr} (hn : t.n = n) (hc : -1 ≤ c) (hn1 : 1 ≤ n) (h3 : t.had = c) (h4 : t.last = c + n) (h5 : t.ids = idsN sh.length gv.length) (h6 : t.seen ≤ gv.length) (h7 : t.least = leastP c (gv.take t.seen)) (h8 : ¬ enoughP N c sn n) :
    CI N c sn sh gv n sw0 (mk c sn sh gv) sw0 (judgeT N t) := by
  unfold judgeT
  have hl : t.ids.length = gv.length := by rw [h5, idsN_len]
  by_cases e : t.seen < t.ids.length
  · rw [if_pos e]
    exact ⟨hn, by simp only; omega, by simp only; omega, .inr (.inr (.inl ⟨rfl, rfl, rfl, h3, h4, h5, by simp only; omega, h7, h8⟩))⟩
  · rw [if_neg e]
    have hs : t.seen = gv.length := by omega
    rw [hs, List.take_length] at h7
    by_cases k : t.last - N ≤ t.least
    · rw [if_pos k]
      exact ⟨hn, by simp only; omega, by simp only; omega, .inr (.inr (.inr (.inl ⟨rfl, rfl, rfl, h3, h4, h7, by omega, h8⟩)))⟩
    · rw [if_neg k]
      exact ⟨hn, by simp only; omega, by simp only; omega, .inr (.inr (.inr (.inr (.inr (.inr ⟨rfl, rfl, rfl, fun e => e.elim h8 (fun e => by omega)⟩)))))⟩

theorem CI.step (h : CI N c sn sh gv n sw0 xs sw t) (hc : -1 ≤ c) (hn1 : 1 ≤ n) :
    CI N c sn sh gv n sw0 (stepT N (idsN sh.length gv.length) xs sw t).1 (stepT N (idsN sh.length gv.length) xs sw t).2.1 (stepT N (idsN sh.length gv.length) xs sw t).2.2 := by
  obtain ⟨hn, hl0, hl1, h | h | h | h | h | h | h⟩ := h
  · obtain ⟨e, rfl, rfl⟩ := h
    unfold stepT
    rw [if_pos e]
    simp only [getD_of (mk_c c sn sh gv), hn]
    exact ⟨rfl, by simp only; omega, by simp only; omega, .inr (.inl ⟨rfl, rfl, rfl, rfl, rfl⟩)⟩
  · obtain ⟨e, rfl, rfl, h3, h4⟩ := h
    unfold stepT
    rw [if_neg (by omega), if_pos e]
    simp only [getD_of (mk_sn c sn sh gv)]
    by_cases k : sn ≤ t.had ∧ t.last - N ≤ sn
    · rw [if_pos k]
      have he : enoughP N c sn n := ⟨by omega, by omega⟩
      have hsn : snP N c sn n gv = sn := by unfold snP; rw [if_pos he]
      refine ⟨hn, by simp only; omega, by simp only; omega, .inr (.inr (.inr (.inr (.inl ⟨rfl, by rw [hsn], rfl, h3, h4, .inl he⟩))))⟩
    · rw [if_neg k]
      refine CI.judge hn hc hn1 h3 h4 rfl (by simp) (by simp only [List.take_zero]; exact h3) (fun e => k ⟨by have := e.2; omega, by have := e.1; omega⟩)
  · obtain ⟨e, rfl, rfl, h3, h4, h5, h6, h7, h8⟩ := h
    unfold stepT
    rw [if_neg (by omega), if_neg (by omega), if_pos e]
    refine CI.judge hn hc hn1 h3 h4 h5 (by simp only; omega) ?_ h8
    simp only
    have hi : t.ids.getD t.seen 0 = ((sh.length + 2 + t.seen : Nat) : Int) := by rw [h5]; exact idsN_at _ _ h6
    rw [leastP_take h6, h7, hi, Int.toNat_natCast, getD_of (mk_g c sn sh gv h6)]
  · obtain ⟨e, rfl, rfl, h3, h4, h5, h6, h7⟩ := h
    unfold stepT
    rw [if_neg (by omega), if_neg (by omega), if_neg (by omega), if_pos e]
    have hsn : snP N c sn n gv = leastP c gv := by unfold snP; rw [if_neg h7]
    exact ⟨hn, by simp only; omega, by simp only; omega, .inr (.inr (.inr (.inr (.inl ⟨rfl, by rw [hsn, h5]; rfl, rfl, h3, h4, .inr h6⟩))))⟩
  · obtain ⟨e, rfl, rfl, h3, h4, h5⟩ := h
    unfold stepT
    rw [if_neg (by omega), if_neg (by omega), if_neg (by omega), if_neg (by omega), if_pos e]
    simp only [getD_of (mk_c c _ sh gv)]
    rw [if_pos h3.symm]
    exact ⟨hn, by simp only; omega, by simp only; omega, .inr (.inr (.inr (.inr (.inr (.inl ⟨rfl, by rw [h4]; rfl, h4, h4, h5⟩)))))⟩
  · have e := h.1
    unfold stepT
    rw [if_neg (by omega), if_neg (by omega), if_neg (by omega), if_neg (by omega), if_neg (by omega)]
    exact ⟨hn, hl0, hl1, .inr (.inr (.inr (.inr (.inr (.inl h)))))⟩
  · have e := h.1
    unfold stepT
    rw [if_neg (by omega), if_neg (by omega), if_neg (by omega), if_neg (by omega), if_neg (by omega)]
    exact ⟨hn, hl0, hl1, .inr (.inr (.inr (.inr (.inr (.inr h)))))⟩

theorem farT_judge {m : Nat} {t : Tr} (h : t.ids.length = m) (hs : t.seen ≤ m) : farT m (judgeT N t) ≤ m - t.seen + 3 := by
  unfold judgeT
  split
  · simp [farT]
  · split <;> simp [farT]
theorem CI.far (h : CI N c sn sh gv n sw0 xs sw t) (hs : ¬ (t.stg = 6 ∨ t.stg = 7)) :
    farT gv.length (stepT N (idsN sh.length gv.length) xs sw t).2.2 < farT gv.length t := by
  obtain ⟨hn, hl0, hl1, h | h | h | h | h | h | h⟩ := h
  · have e := h.1
    unfold stepT
    rw [if_pos e]
    simp [farT, e]
  · have e := h.1
    unfold stepT
    rw [if_neg (by omega), if_pos e]
    have h0 : farT gv.length t = gv.length + 4 := by simp [farT, e]
    rw [h0]
    split
    · simp [farT]
    · have := farT_judge (N := N) (m := gv.length) (t := { t with ids := idsN sh.length gv.length, seen := 0, least := t.had }) (idsN_len _ _) (by simp)
      simp only at this ⊢
      omega
  · obtain ⟨e, h1, h2, h3, h4, h5, h6, h7, h8⟩ := h
    unfold stepT
    rw [if_neg (by omega), if_neg (by omega), if_pos e]
    have h0 : farT gv.length t = gv.length - t.seen + 3 := by simp [farT, e]
    rw [h0]
    have := farT_judge (N := N) (m := gv.length) (t := { t with seen := t.seen + 1, least := min t.least (xs.getD (t.ids.getD t.seen 0).toNat 0) }) (by simp only; rw [h5, idsN_len]) (by simp only; omega)
    simp only at this ⊢
    omega
  · have e := h.1
    unfold stepT
    rw [if_neg (by omega), if_neg (by omega), if_neg (by omega), if_pos e]
    simp [farT, e]
  · obtain ⟨e, rfl, rfl, h3, h4, h5⟩ := h
    unfold stepT
    rw [if_neg (by omega), if_neg (by omega), if_neg (by omega), if_neg (by omega), if_pos e]
    simp only [getD_of (mk_c c _ sh gv)]
    rw [if_pos h3.symm]
    simp [farT, e]
  · exact absurd (.inl h.1) hs
  · exact absurd (.inr h.1) hs

theorem CI.ok (h : CI N c sn sh gv n sw0 xs sw t) (hc : -1 ≤ c) (hc2 : c ≤ 2305843009213693952) (hn1 : 1 ≤ n) (hn2 : n ≤ 1048576) (hg : gv.length ≤ 32) (hs : ¬ (t.stg = 6 ∨ t.stg = 7)) : TOk xs t := by
  obtain ⟨hn, hl0, hl1, h⟩ := h
  have hx : ∃ c' sn', xs = mk c' sn' sh gv ∧ c' = c := by
    rcases h with h | h | h | h | h | h | h
    · exact ⟨_, _, h.2.1, rfl⟩
    · exact ⟨_, _, h.2.1, rfl⟩
    · exact ⟨_, _, h.2.1, rfl⟩
    · exact ⟨_, _, h.2.1, rfl⟩
    · exact ⟨_, _, h.2.1, rfl⟩
    · exact absurd (.inl h.1) hs
    · exact absurd (.inr h.1) hs
  obtain ⟨c', sn', rfl, rfl⟩ := hx
  have hst : 1 ≤ t.stg ∧ t.stg ≤ 7 := by
    rcases h with h | h | h | h | h | h | h <;> (have := h.1; omega)
  refine ⟨by omega, by omega, hst.1, hst.2, ?_, ?_, by omega, by omega, by rw [mk_len]; omega, fun e => ?_⟩
  · rw [getD_of (mk_c _ _ _ _)]; exact hc
  · rw [getD_of (mk_c _ _ _ _)]; omega
  · have h3 : t.ids = idsN sh.length gv.length ∧ t.seen < gv.length := by
      rcases h with h | h | h | h | h | h | h <;> first | exact ⟨h.2.2.2.2.2.1, h.2.2.2.2.2.2.1⟩ | (have := h.1; omega)
    obtain ⟨h5, h6⟩ := h3
    have hi : t.ids.getD t.seen 0 = ((sh.length + 2 + t.seen : Nat) : Int) := by rw [h5]; exact idsN_at _ _ h6
    rw [hi, mk_len, h5, idsN_len]
    exact ⟨hg, h6, by omega, by omega⟩
theorem CI.start (sw0 : Int) (hc : -1 ≤ c) (hn1 : 1 ≤ n) : CI N c sn sh gv n sw0 (mk c sn sh gv) sw0 (tr0 n) :=
  ⟨rfl, by simp [tr0], by simp only [tr0]; omega, .inl ⟨rfl, rfl, rfl⟩⟩
end
end Go.Proofs.Ytjadapjjilegnaa
