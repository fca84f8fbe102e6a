/-
  What Add and Drop answer, whatever is handed in; Of; by contract. Condition: at most 32 cells.
-/
import Derived.Test.YtdbjeaploanalaaGate6
namespace Go.Proofs.Ytdbjeaploanalaa
open Go.RowKit

/-- An error by its number; none is 0. -/
def ErrIs (W : World) (E : Value) (n : Int) : Prop := (n = 0 ∧ E = .nilIface) ∨ (n ≠ 0 ∧ ∃ q, E = .iface 117 (.pointer (some ⟨q, 0, none⟩)) ∧ Chain W E 1 n)
theorem ErrIs.held {W w : World} {E : Value} {n : Int} (h : ErrIs W E n) (hd : Held W w) : ErrIs w E n := by
  rcases h with h | ⟨h0, q, h1, h2⟩
  · exact .inl h
  · exact .inr ⟨h0, q, h1, hd _ _ _ h2⟩
theorem ErrIs.none (W : World) : ErrIs W .nilIface 0 := .inl ⟨rfl, rfl⟩
theorem ErrIs.of {W w : World} {E : Value} {n : Int} (h : Refused W w E n) (hn : n ≠ 0) : ErrIs w E n := by
  obtain ⟨q, h1, h2, _⟩ := h
  exact .inr ⟨hn, q, h1, h2⟩
theorem is_err {W : World} {E : Value} {n : Int} (h : ErrIs W E n) (m : Int) :
    Calls Try.prog 12 #[E, .int .i64 m] W fun e w' => e = .returned (.bool (n == m)) ∧ W = w' := by
  rcases h with ⟨rfl, rfl⟩ | ⟨h0, q, rfl, h2⟩
  · refine (isN_nil m).mono ?_
    rintro e w' ⟨rfl, rfl⟩
    refine ⟨?_, rfl⟩
    congr 2
    rw [Bool.eq_iff_iff]
    simp only [beq_iff_eq]
    exact eq_comm
  · by_cases hm : m = 0
    · subst hm
      refine (isN_zero _ 1 n h2).mono ?_
      rintro e w' ⟨rfl, rfl⟩
      exact ⟨by simp [h0], rfl⟩
    · exact isN_chain m _ 1 n h2 hm

/-- What is wrong with one more. -/
def addBad (ids : List Int) (id : Int) : Int := if id < 0 ∨ 2097152 ≤ id then 1 else if id ∈ ids then 4 else if 32 ≤ ids.length then 8 else 0
def addIds (ids : List Int) (id : Int) : List Int := if addBad ids id = 0 then ids ++ [id] else ids
theorem GrStep.of_below {W w : World} {g : Nat} {ids : List Int} (h : Gr W g ids) (hb : Below W.heap.size W w) : GrStep W w g ids := ⟨h.keepB hb, Frm.of_below hb _⟩
theorem Refused.grstep {W w : World} {g : Nat} {ids : List Int} {E : Value} {n : Int} (h : Gr W g ids) (hr : Refused W w E n) (hn : n ≠ 0) : ErrIs w E n ∧ GrStep W w g ids := ⟨.of hr hn, .of_below h hr.below⟩

theorem add_any {W : World} {g : Nat} {ids : List Int} (h : Gr W g ids) (id : Int) : Calls Try.prog 40 #[.pointer (some ⟨g, 0, none⟩), .int .i64 id] W fun e w' => ∃ E, e = .returned E ∧ ErrIs w' E (addBad ids id) ∧ GrStep W w' g (addIds ids id) := by
  unfold addIds addBad
  by_cases h1 : id < 0 ∨ 2097152 ≤ id
  · simp only [if_pos h1]
    refine (add_arg g id h1).mono ?_
    rintro e w ⟨E, rfl, hr⟩
    exact ⟨E, rfl, by simpa using hr.grstep h (by decide)⟩
  · simp only [if_neg h1]
    by_cases h2 : id ∈ ids
    · simp only [if_pos h2]
      refine (add_there h id (by omega) (by omega) h2).mono ?_
      rintro e w ⟨E, rfl, hr⟩
      exact ⟨E, rfl, by simpa using hr.grstep h (by decide)⟩
    · simp only [if_neg h2]
      by_cases h3 : 32 ≤ ids.length
      · simp only [if_pos h3]
        refine (add_many h id (by omega) (by omega) h2 (by have := h.2; omega)).mono ?_
        rintro e w ⟨E, rfl, hr⟩
        exact ⟨E, rfl, by simpa using hr.grstep h (by decide)⟩
      · simp only [if_neg h3]
        refine (add_ok h id (by omega) (by omega) h2 (by omega)).mono ?_
        rintro e w ⟨rfl, hg⟩
        exact ⟨_, rfl, ErrIs.none w, by simpa using hg⟩

/-- Where a number stands first. -/
def dropBad (ids : List Int) (id : Int) : Int := if id ∈ ids then 0 else 3
def dropIds (ids : List Int) (id : Int) : List Int := if id ∈ ids then dropAt ids (ids.idxOf id) else ids
theorem idx_first {ids : List Int} {x : Int} {k : Nat} (hk : k < ids.length) (h1 : ids.getD k 0 = x) (h2 : ∀ j, j < k → ids.getD j 0 ≠ x) : ids.idxOf x = k := by
  induction ids generalizing k with
  | nil => simp at hk
  | cons a t ih =>
    rcases k with _ | k
    · simp at h1
      simp [h1]
    · have h0 := h2 0 (by omega)
      simp at h0
      rw [List.idxOf_cons]
      have hb : (a == x) = false := by simpa using h0
      rw [hb]
      simp only [cond_false]
      rw [ih (by simpa using hk) (by simpa using h1) (fun j hj => by simpa using h2 (j + 1) (by omega))]
theorem drop_any {W : World} {g : Nat} {ids : List Int} (h : Gr W g ids) (id : Int) : Calls Try.prog 38 #[.pointer (some ⟨g, 0, none⟩), .int .i64 id] W fun e w' => ∃ E, e = .returned E ∧ ErrIs w' E (dropBad ids id) ∧ GrStep W w' g (dropIds ids id) := by
  unfold dropIds dropBad
  by_cases h1 : id ∈ ids
  · obtain ⟨k, hk, h2, h3⟩ := first_at h1
    simp only [if_pos h1]
    refine (drop_ok h hk h2 h3).mono ?_
    rintro e w ⟨rfl, hg⟩
    rw [idx_first hk h2 h3]
    exact ⟨_, rfl, ErrIs.none w, hg⟩
  · simp only [if_neg h1]
    refine (drop_none h id h1).mono ?_
    rintro e w ⟨E, rfl, hr⟩
    exact ⟨E, rfl, hr.grstep h (by decide)⟩

/-- Number by number, to the first one that is refused. -/
def ofRun (ids : List Int) : List Int → List Int × Int
  | [] => (ids, 0)
  | x :: t => if addBad ids x = 0 then ofRun (ids ++ [x]) t else (ids, addBad ids x)

/-- A slice of numbers. -/
def IntsAt (W : World) (v : Value) (l : List Int) : Prop := ∃ p cap, v = .slice p l.length cap ∧ (l.length = 0 ∨ ∃ b off, p = some ⟨b, off, none⟩ ∧ ∀ j, j < l.length → W.cell? ⟨b, off + j, none⟩ = some (.int .i64 (l.getD j 0)))

theorem gr_new (W : World) : Gr (W.alloc (.cells (grC []) 68)) W.heap.size [] := ⟨obj_new _ _, by simp⟩

set_option maxHeartbeats 1000000 in
set_option maxRecDepth 100000 in
theorem of_any {W : World} {v : Value} {l : List Int} (h : IntsAt W v l) (hbig : l.length ≤ 1000000) :
    Calls Try.prog 45 #[v] W fun e w' => ∃ P E g, e = .returned (.tuple #[P, E]) ∧ ErrIs w' E (ofRun [] l).2 ∧ Below W.heap.size W w' ∧ (((ofRun [] l).2 = 0 ∧ P = .pointer (some ⟨g, 0, none⟩) ∧ Gr w' g (ofRun [] l).1 ∧ W.heap.size ≤ g) ∨ ((ofRun [] l).2 ≠ 0 ∧ P = .pointer none)) := by
  obtain ⟨p, cap, rfl, hl⟩ := h
  have HL := Lib.hid hl
  have HDN : Hid (l.drop l.length = []) := List.drop_length
  have HD : Hid (∀ k, k < l.length → l.drop k = l.getD k 0 :: l.drop (k + 1)) := fun k hk => by
    rw [List.drop_eq_getElem_cons hk]
    simp [List.getElem?_eq_getElem hk]
  clear hl
  generalize l.length = n at *
  go_enter Try.func45, Try.ntmps45
  go_wp2_with fail
  go_loopw [12] (fun i wl => ∃ (k : Nat) (ids : List Int), k ≤ n ∧ i = .int .i64 k ∧ Hid (ofRun [] l = ofRun ids (l.drop k)) ∧ Hid (Gr wl W.heap.size ids ∧ Below W.heap.size W wl)) (fun i _ => n - (intOf i).toNat)
  case atStart => exact ⟨0, [], by omega, rfl, rfl, gr_new W, balloc (Below.refl _ _) _⟩
  case round =>
    obtain ⟨k, ids, hk, rfl, HO, HG⟩ := hrel
    by_cases hlt : k < n
    · obtain ⟨b, off, rfl, hc⟩ : ∃ b off, p = some ⟨b, off, none⟩ ∧ ∀ j, j < n → W.cell? ⟨b, off + j, none⟩ = some (.int .i64 (l.getD j 0)) := by
        rcases HL.out with h | h
        · omega
        · exact h
      have ck := keepc HG.out.2 (hc k hlt)
      have HO2 := HO.out
      rw [HD.out k hlt] at HO2
      clear hc HO
      generalize l.getD k 0 = z at *
      by_cases hb : addBad ids z = 0
      · have HO3 : Hid (ofRun [] l = ofRun (ids ++ [z]) (l.drop (k + 1))) := Lib.hid (by rw [HO2]; simp [ofRun, hb])
        have HAI : Hid (addIds ids z = ids ++ [z]) := Lib.hid (by simp [addIds, hb])
        have HB := Lib.hid hb
        clear HO2 hb
        go_wp2_with (go_at_call 40; refine (add_any HG.out.1 z).mono ?_; rintro e w2 ⟨E, rfl, he, hg⟩; rw [HB.out] at he; rw [HAI.out] at hg; obtain rfl : E = .nilIface := (by { rcases he with h | h; exact h.2; exact absurd rfl h.1 }); have HG2 : Hid (Gr w2 W.heap.size (ids ++ [z]) ∧ Below W.heap.size W w2) := ⟨hg.1, HG.out.2.trans (hg.2.below HG.out.2.size fun k h => h ▸ Nat.le_refl _)⟩; clear he hg)
        exact ⟨⟨k + 1, ids ++ [z], by omega, by go_num, HO3, HG2⟩, by simp [intOf]; omega⟩
      · have HO3 : Hid (ofRun [] l = (ids, addBad ids z)) := Lib.hid (by rw [HO2]; simp [ofRun, hb])
        have HB := Lib.hid hb
        clear HO2 hb
        go_wp2_with (go_at_call 40; refine (add_any HG.out.1 z).mono ?_; rintro e w2 ⟨E, rfl, he, hg⟩; obtain ⟨q, rfl, hq⟩ : ∃ q, E = .iface 117 (.pointer (some ⟨q, 0, none⟩)) ∧ Chain w2 E 1 (addBad ids z) := (by { rcases he with h | h; exact absurd h.1 HB.out; exact h.2 }); have HE := Lib.hid hq; have HB2 : Hid (Below W.heap.size W w2) := HG.out.2.trans (hg.2.below HG.out.2.size fun k h => h ▸ Nat.le_refl _); clear he hg hq)
        go_ret2
        rw [HO3.out]
        exact ⟨_, _, 0, rfl, .inr ⟨HB.out, q, rfl, HE.out⟩, HB2.out, .inr ⟨HB.out, rfl⟩⟩
    · obtain rfl : k = n := by omega
      have HO2 := HO.out
      rw [HDN.out] at HO2
      have HO3 : Hid (ofRun [] l = (ids, 0)) := HO2
      clear HO HO2
      go_wp2
      go_ret2
      rw [HO3.out]
      exact ⟨_, _, W.heap.size, rfl, ErrIs.none _, HG.out.2, .inl ⟨rfl, rfl, HG.out.1, Nat.le_refl _⟩⟩

theorem ints_of {W w : World} {T : TypeId} {l : List Int} (hb : Below (W.alloc (.cells (l.map (Value.int .i64)).toArray T)).heap.size (W.alloc (.cells (l.map (Value.int .i64)).toArray T)) w) {n c : Nat} (hn : l.length = n) : IntsAt w (.slice (some ⟨W.heap.size, 0, none⟩) n c) l := by
  subst hn
  refine ⟨_, c, rfl, .inr ⟨_, _, rfl, fun j hj => ?_⟩⟩
  refine keepc hb ?_
  rw [Nat.zero_add, obj_cell (obj_new W _)]
  simp [List.getElem?_eq_getElem hj]

/-- An arena that was made since W0: the least of a group's cells. -/
theorem gleast_m {W0 W : World} {g b : Nat} {ids xs : List Int} {st : Int} (most : Int) (h : Gr W g ids) (ha : Mine W0 W b xs st) (hin : ∀ j, j < ids.length → 0 ≤ ids.getD j 0 ∧ ids.getD j 0 < (xs.length : Int)) (h0 : 0 ≤ st) (h1 : st < 2305843009213693952) {m : Int} (hm : IsMin (valsOf xs ids ++ [most]) m) :
    Calls Try.prog 46 #[.pointer (some ⟨g, 0, none⟩), .pointer (some ⟨b, 0, none⟩), .int .i64 most] W fun e w' => e = .returned (.tuple #[.int .i64 m, .nilIface]) ∧ Mine W0 w' b xs (st + ids.length) ∧ Gr w' g ids := by
  obtain ⟨v, ha, hb, k1, k2⟩ := ha
  refine (gleast_ok most h ha hin h0 h1).mono ?_
  rintro e w' ⟨m', rfl, hm', ha', hf⟩
  obtain rfl := hm.unique hm'
  exact ⟨rfl, ⟨v, ha', hb.trans (hf.below hb.size fun k hk => by omega), k1, k2⟩, h.keep hf (h.ne ha)⟩
theorem of_good {W : World} {v : Value} {l ids : List Int} (h : IntsAt W v l) (hbig : l.length ≤ 1000000) (hr : ofRun [] l = (ids, 0)) :
    Calls Try.prog 45 #[v] W fun e w' => ∃ g, e = .returned (.tuple #[.pointer (some ⟨g, 0, none⟩), .nilIface]) ∧ Below W.heap.size W w' ∧ Gr w' g ids ∧ W.heap.size ≤ g := by
  refine (of_any h hbig).mono ?_
  rw [hr]
  rintro e w' ⟨P, E, g, rfl, he, hb, h | h⟩
  · obtain ⟨_, rfl, hg, hle⟩ := h
    rcases he with he | he
    · obtain ⟨_, rfl⟩ := he
      exact ⟨g, rfl, hb, hg, hle⟩
    · exact absurd rfl he.1
  · exact absurd rfl h.1
theorem in_ex : ∀ j, j < ([0, 1] : List Int).length → 0 ≤ ([0, 1] : List Int).getD j 0 ∧ ([0, 1] : List Int).getD j 0 < ((([5, 3] : List Int).length : Nat) : Int) := by decide
set_option maxRecDepth 100000 in
set_option maxHeartbeats 1000000 in
/-- The statements' own example. -/
theorem awake8 (W : World) : Calls Try.prog 37 #[] W fun e w' => e = .returned (.bool true) ∧ Below W.heap.size W w' := by
  go_enter Try.func37, Try.ntmps37
  go_wp2_with (first
    | (go_at_call 20; refine (new_m _).mono ?_; rintro e w1 ⟨rfl, hm⟩; have HM1 := Lib.hid hm; clear hm)
    | (go_at_call 27; refine (alloc_m 3 _ _ _ [5] 0 HM2.out (by decide)).mono ?_; rintro e w3 ⟨rfl, hm⟩; have HM3 := Lib.hid (show Mine W w3 W.heap.size [5, 3] 0 from hm); clear hm)
    | (go_at_call 27; refine (alloc_m 5 _ _ _ [] 0 HM1.out (by decide)).mono ?_; rintro e w2 ⟨rfl, hm⟩; have HM2 := Lib.hid (show Mine W w2 W.heap.size [5] 0 from hm); clear hm HM1)
    | (go_at_call 45; refine (of_good (l := [0, 1]) (ids := [0, 1]) (ints_of (Below.refl _ _) rfl) (by decide) (by decide)).mono ?_; rintro e w4 ⟨g, rfl, hb, hg, _⟩; have HM4 := Lib.hid (HM3.out.keep (bthen (balloc (Below.refl _ _) _) hb)); have HG4 := Lib.hid hg; clear hb hg)
    | (go_at_call 46; refine (gleast_m (m := 3) 9 HG4.out HM4.out in_ex (by decide) (by decide) ⟨by decide, by decide⟩).mono ?_; rintro e w5 ⟨rfl, hm, hg⟩; have HM5 := Lib.hid hm; have HG5 := Lib.hid hg; clear hm hg HG4)
    | (go_at_call 46; refine (gleast_m (m := 1) 1 HG5.out HM5.out in_ex (by decide) (by decide) ⟨by decide, by decide⟩).mono ?_; rintro e w6 ⟨rfl, hm, hg⟩; have HM6 := Lib.hid hm; clear hm hg))
  go_ret
  exact ⟨rfl, HM6.out.below⟩
end Go.Proofs.Ytdbjeaploanalaa
