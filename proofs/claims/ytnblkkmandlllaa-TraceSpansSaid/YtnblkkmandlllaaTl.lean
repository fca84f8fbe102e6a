/-
  Length, Counts of package trace, and the document's example, by contract. Condition: at most 1000 notes.
-/
import Derived.Test.YtnblkkmandlllaaTh
import Derived.Test.YtnblkkmandlllaaMem3
namespace Go.Proofs.Ytnblkkmandlllaa
open Go.RowKit Go.Shelf
set_option linter.unusedVariables false
set_option linter.unusedSimpArgs false

/-- A span has an index. -/
def inS (i : Int) (x : Sp) : Bool := decide (x.1 ≤ i) && decide (i ≤ x.2)
/-- How many from an index on. -/
def lenP (i : Int) (l : List Sp) : Int := match l.find? (inS i) with | some x => x.2 - i + 1 | none => 0

set_option maxRecDepth 100000 in
set_option maxHeartbeats 2000000 in
theorem tlength {W : World} {v : Value} {l : List Nt} {ring from_ : Int} (hl : NtsAt W v l) (h120 : l.length ≤ 1000) :
    Calls Try.prog 19 #[v, .int .i64 ring, .int .i64 from_] W fun e w' => ∃ out, e = .returned (.int .i64 (lenP from_ out)) ∧ ShownP l ring out ∧ Below W.heap.size W w' := by
  have HC := Lib.hid (tshown (ring := ring) hl h120)
  obtain ⟨p, c, rfl, hc, hm⟩ := hl.form
  clear hl
  go_enter Try.func19, Try.ntmps19
  go_wp2_with (go_at_call 16; refine HC.out.mono ?_; rintro e w1 ⟨v1, out, rfl, hat, hs, hol, hb⟩; have HA := Lib.hid hat; have HS := Lib.hid hs; have HB := Lib.hid hb; obtain ⟨p1, cq, rfl, -⟩ := hat.form; clear hat hs hb)
  clear HC
  go_loopw [13] (fun iv wl => ∃ k : Nat, k ≤ out.length ∧ iv = .int .i64 k ∧ Hid ((∀ x ∈ out.take k, inS from_ x = false) ∧ Below w1.heap.size w1 wl)) (fun iv _ => out.length - (intOf iv).toNat)
  case atStart => exact ⟨0, Nat.zero_le _, rfl, Lib.hid ⟨by simp, Below.refl _ _⟩⟩
  case round =>
    obtain ⟨k, hk, rfl, HJ⟩ := hrel
    by_cases hlt : k < out.length
    · obtain ⟨b, off, s, rfl, hx, hb, c0, c1⟩ := (HA.out.keep HJ.out.2).at_ hlt
      have hbnd := HS.out.bnd s (List.mem_of_getElem? hx)
      have HT : Hid (out.take (k + 1) = out.take k ++ [s]) := Lib.hid (take_snocN hx)
      have HX := Lib.hid hx
      obtain ⟨s0, s1⟩ := s
      simp only at hbnd c0 c1
      have hs1 := hbnd.1
      have hs2 := hbnd.2
      clear hx hb hbnd
      have HBB : Hid (Below w1.heap.size w1 (wr.alloc (.cells #[.int .i64 s0, .int .i64 s1] 43))) := Lib.hid (HJ.out.2.alloc HJ.out.2.size _)
      by_cases h1 : s0 ≤ from_
      · by_cases h2 : from_ ≤ s1
        · have HF : Hid (lenP from_ out = s1 - from_ + 1) := by
            have hfd : out.find? (inS from_) = some (s0, s1) := by
              have hdrop : out = out.take k ++ ((s0, s1) :: out.drop (k + 1)) := by
                have hx := HX.out
                obtain ⟨hk1, he⟩ := List.getElem?_eq_some_iff.1 hx
                rw [← he, ← List.drop_eq_getElem_cons hk1, List.take_append_drop]
              rw [hdrop, List.find?_append, List.find?_eq_none.2 (fun x hx => by simp [HJ.out.1 x hx])]
              simp [List.find?_cons, inS, h1, h2]
            exact Lib.hid (by unfold lenP; rw [hfd])
          go_wp2
          go_ret
          exact ⟨out, by rw [HF.out]; rfl, HS.out, bthen HB.out HBB.out⟩
        · have HN : Hid (inS from_ (s0, s1) = false) := Lib.hid (by simp [inS, h2])
          go_wp2
          exact ⟨⟨k + 1, by omega, by go_num, Lib.hid ⟨by rw [HT.out]; intro x hx; rcases List.mem_append.1 hx with hx | hx; exact HJ.out.1 x hx; simp at hx; subst hx; exact HN.out, HBB.out⟩⟩, by simp [intOf]; omega⟩
      · have HN : Hid (inS from_ (s0, s1) = false) := Lib.hid (by simp [inS, h1])
        go_wp2
        exact ⟨⟨k + 1, by omega, by go_num, Lib.hid ⟨by rw [HT.out]; intro x hx; rcases List.mem_append.1 hx with hx | hx; exact HJ.out.1 x hx; simp at hx; subst hx; exact HN.out, HBB.out⟩⟩, by simp [intOf]; omega⟩
    · obtain rfl : k = out.length := by omega
      rw [List.take_length] at HJ
      have HF : Hid (lenP from_ out = 0) := Lib.hid (by unfold lenP; rw [List.find?_eq_none.2 (fun x hx => by simp [HJ.out.1 x hx])])
      go_wp2
      go_ret
      exact ⟨out, by rw [HF.out]; rfl, HS.out, bthen HB.out HJ.out.2⟩

theorem bsetRow {W w : World} {g : Nat} (h : Below W.heap.size W w) (hg : W.heap.size ≤ g) (cs : Array Value) : Below W.heap.size W (w.setRow g cs) :=
  ((Frm.of_below h fun k => k = g).setRow rfl cs).below (Nat.le_refl _) fun k hk => by omega
/-- How many notes of a deed. -/
def deedsP (l : List Nt) (d : Nat) : Int := ((l.filter fun x => x.deed == (d : Int)).length : Nat)
def arr8 (f : Nat → Int) : Array Value := #[.int .i64 (f 0), .int .i64 (f 1), .int .i64 (f 2), .int .i64 (f 3), .int .i64 (f 4), .int .i64 (f 5), .int .i64 (f 6), .int .i64 (f 7)]
theorem arr8_set (f : Nat → Int) (y : Int) : ∀ i, i < 8 → (arr8 f).setIfInBounds i (.int .i64 y) = arr8 (fun d => if d = i then y else f d)
  | 0, _ => rfl | 1, _ => rfl | 2, _ => rfl | 3, _ => rfl | 4, _ => rfl | 5, _ => rfl | 6, _ => rfl | 7, _ => rfl
  | n + 8, h => by omega
theorem arr8_get (f : Nat → Int) : ∀ i, i < 8 → (arr8 f)[i]? = some (.int .i64 (f i))
  | 0, _ => rfl | 1, _ => rfl | 2, _ => rfl | 3, _ => rfl | 4, _ => rfl | 5, _ => rfl | 6, _ => rfl | 7, _ => rfl
  | n + 8, h => by omega
theorem arr8_one (f : Nat → Int) : (arr8 f).all (·.oneCell') = true := by
  unfold arr8
  simp [Value.oneCell']
theorem deedsP_nil : deedsP [] = fun _ => 0 := by funext d; rfl
theorem deedsP_snoc (l : List Nt) (x : Nt) (i : Nat) (h : x.deed = (i : Int)) : deedsP (l ++ [x]) = fun d => if d = i then deedsP l i + 1 else deedsP l d := by
  funext d
  unfold deedsP
  by_cases e : d = i
  · subst e
    rw [if_pos rfl, filter_snocT (by simp [h])]; simp
  · rw [if_neg e, filter_snocF (by simp [h]; omega)]
theorem deedsP_out (l : List Nt) (x : Nt) (h : x.deed < 0 ∨ 7 < x.deed) : ∀ d, d < 8 → deedsP (l ++ [x]) d = deedsP l d := by
  intro d hd
  unfold deedsP
  rw [filter_snocF (by simp; omega)]
theorem deedsP_le (l : List Nt) (d : Nat) : 0 ≤ deedsP l d ∧ deedsP l d ≤ l.length := ⟨by unfold deedsP; omega, by unfold deedsP; have := List.length_filter_le (fun x : Nt => x.deed == (d : Int)) l; omega⟩
theorem arr8_congr {f g : Nat → Int} (h : ∀ d, d < 8 → f d = g d) : arr8 f = arr8 g := by
  unfold arr8
  rw [h 0 (by decide), h 1 (by decide), h 2 (by decide), h 3 (by decide), h 4 (by decide), h 5 (by decide), h 6 (by decide), h 7 (by decide)]

set_option maxRecDepth 100000 in
set_option maxHeartbeats 2000000 in
theorem tcounts {W : World} {v : Value} {l : List Nt} (hl : NtsAt W v l) (h120 : l.length ≤ 1000) :
    Calls Try.prog 15 #[v] W fun e w' => e = .returned (.agg (arr8 (deedsP l))) ∧ Below W.heap.size W w' := by
  have HL := Lib.hid hl
  obtain ⟨p, c, rfl, hc, hm⟩ := hl.form
  clear hl
  go_enter Try.func15, Try.ntmps15
  go_wp2_with fail
  go_loopw [8] (fun iv wl => ∃ k : Nat, k ≤ l.length ∧ iv = .int .i64 k ∧ Hid (wl.heap[W.heap.size]? = some (.cells (arr8 fun _ => 0) 28 (0, 0)) ∧ wl.heap[W.heap.size + 1]? = some (.cells (arr8 (deedsP (l.take k))) 28 (0, 0)) ∧ Below W.heap.size W wl)) (fun iv _ => l.length - (intOf iv).toNat)
  case atStart =>
    refine ⟨0, Nat.zero_le _, rfl, Lib.hid ⟨obj_old _ (obj_new _ _), ?_, ((Below.refl _ _).alloc (Nat.le_refl _) _).alloc (by simp) _⟩⟩
    have := obj_new (W.alloc (.cells (arr8 fun _ => 0) 28)) (.cells (arr8 fun _ => 0) 28)
    rw [World.alloc_size] at this
    rw [List.take_zero, deedsP_nil]
    exact this
  case round =>
    obtain ⟨k, hk, rfl, HJ⟩ := hrel
    by_cases hlt : k < l.length
    · obtain ⟨b, off, x, rfl, hx, hb, hwf, ⟨c0, c1, c2, c3, c4, c5, c6, c7⟩⟩ := (HL.out.keep HJ.out.2.2).at_ hlt
      have HT : Hid (l.take (k + 1) = l.take k ++ [x]) := Lib.hid (take_snocN hx)
      clear hx hb hwf
      have HA1 : Hid (Below wr.heap.size wr (wr.alloc (.cells #[.int .i64 x.who, .int .i64 x.ring, .int .i64 x.deed, .int .i64 x.lo, .int .i64 x.seq, .int .i64 x.key, .int .i64 x.val, .int .i64 x.code] 33))) := Lib.hid ((Below.refl _ _).alloc (Nat.le_refl _) _)
      have HJ2 : Hid ((wr.alloc (.cells #[.int .i64 x.who, .int .i64 x.ring, .int .i64 x.deed, .int .i64 x.lo, .int .i64 x.seq, .int .i64 x.key, .int .i64 x.val, .int .i64 x.code] 33)).heap[W.heap.size]? = some (.cells (arr8 fun _ => 0) 28 (0, 0)) ∧ (wr.alloc (.cells #[.int .i64 x.who, .int .i64 x.ring, .int .i64 x.deed, .int .i64 x.lo, .int .i64 x.seq, .int .i64 x.key, .int .i64 x.val, .int .i64 x.code] 33)).heap[W.heap.size + 1]? = some (.cells (arr8 (deedsP (l.take k))) 28 (0, 0)) ∧ Below W.heap.size W (wr.alloc (.cells #[.int .i64 x.who, .int .i64 x.ring, .int .i64 x.deed, .int .i64 x.lo, .int .i64 x.seq, .int .i64 x.key, .int .i64 x.val, .int .i64 x.code] 33))) :=
        Lib.hid ⟨obj_old _ HJ.out.1, obj_old _ HJ.out.2.1, HJ.out.2.2.alloc HJ.out.2.2.size _⟩
      have d2 : (wr.alloc (.cells #[.int .i64 x.who, .int .i64 x.ring, .int .i64 x.deed, .int .i64 x.lo, .int .i64 x.seq, .int .i64 x.key, .int .i64 x.val, .int .i64 x.code] 33)).cell? ⟨wr.heap.size, 2, none⟩ = some (.int .i64 x.deed) := by simp
      go_upto_region 5 with (fail)
      clear c0 c1 c2 c3 c4 c5 c6 c7
      generalize wr.alloc (.cells #[.int .i64 x.who, .int .i64 x.ring, .int .i64 x.deed, .int .i64 x.lo, .int .i64 x.seq, .int .i64 x.key, .int .i64 x.val, .int .i64 x.code] 33) = wa at *
      by_cases h1 : 0 ≤ x.deed
      · by_cases h2 : x.deed ≤ 7
        · obtain ⟨i, hi⟩ : ∃ i : Nat, x.deed = (i : Int) := ⟨x.deed.toNat, by omega⟩
          have hi8 : i < 8 := by omega
          have hle := deedsP_le (l.take k) i
          have hle2 : deedsP (l.take k) i ≤ 1000 := by have := hle.2; rw [List.length_take] at this; omega
          have hle1 := hle.1
          have ci : wa.cell? ⟨W.heap.size + 1, i, none⟩ = some (.int .i64 (deedsP (l.take k) i)) := (obj_cell HJ2.out.2.1 i).trans (arr8_get _ i hi8)
          have fi : wa.frozen? ⟨W.heap.size + 1, i, none⟩ = false := obj_free HJ2.out.2.1 i
          have HSN : Hid (deedsP (l.take (k + 1)) = fun d => if d = i then deedsP (l.take k) i + 1 else deedsP (l.take k) d) := Lib.hid (by rw [HT.out]; exact deedsP_snoc _ _ _ hi)
          have HI := Lib.hid hi8
          rw [hi] at d2
          generalize hq : deedsP (l.take k) i = q at *
          have HQ := Lib.hid hq
          clear hle hq hi h1 h2
          go_wp2
          refine ⟨⟨k + 1, by omega, by go_num, Lib.hid ⟨?_, ?_, HJ2.out.2.2.setCell (p := ⟨W.heap.size + 1, i, none⟩) (by simp) _⟩⟩, by simp [intOf]; omega⟩
          · exact (Below.heap_setCell _ _ _ _ (by simp)).trans HJ2.out.1
          · rw [HSN.out, ← arr8_set _ _ i HI.out]
            exact obj_setCell _ HJ2.out.2.1
        · have HC8 : Hid (arr8 (deedsP (l.take (k + 1))) = arr8 (deedsP (l.take k))) := Lib.hid (by rw [HT.out]; exact arr8_congr (deedsP_out _ _ (.inr (by omega))))
          go_wp2
          exact ⟨⟨k + 1, by omega, by go_num, Lib.hid ⟨HJ2.out.1, by rw [HC8.out]; exact HJ2.out.2.1, HJ2.out.2.2⟩⟩, by simp [intOf]; omega⟩
      · have HC8 : Hid (arr8 (deedsP (l.take (k + 1))) = arr8 (deedsP (l.take k))) := Lib.hid (by rw [HT.out]; exact arr8_congr (deedsP_out _ _ (.inl (by omega))))
        go_wp2
        exact ⟨⟨k + 1, by omega, by go_num, Lib.hid ⟨HJ2.out.1, by rw [HC8.out]; exact HJ2.out.2.1, HJ2.out.2.2⟩⟩, by simp [intOf]; omega⟩
    · obtain rfl : k = l.length := by omega
      rw [List.take_length] at HJ
      have HAI : Hid ((Try.prog.info? 28).map (·.size) = some (arr8 (deedsP l)).size) := Lib.hid (by unfold arr8; kernel_rfl)
      have HAL : Hid ((arr8 (deedsP l)).all (·.oneCell') = true) := Lib.hid (arr8_one _)
      have HSZ : Hid ((arr8 fun _ => 0).size = (arr8 (deedsP l)).size) := Lib.hid rfl
      have HWS : Hid ((wr.setRow W.heap.size (arr8 (deedsP l))).heap[W.heap.size]? = some (.cells (arr8 (deedsP l)) 28 (0, 0)) ∧ Below W.heap.size W (wr.setRow W.heap.size (arr8 (deedsP l)))) :=
        Lib.hid ⟨setRow_heap _ _ _ _ _ _ HJ.out.1, bsetRow HJ.out.2.2 (Nat.le_refl _) _⟩
      obtain ⟨F, hF⟩ : ∃ F, arr8 (deedsP l) = F := ⟨_, rfl⟩
      have HFQ := Lib.hid hF
      rw [hF] at HAI HAL HWS HSZ HJ
      clear hF
      go_wp2_with (first
        | (refine wpList_load_row rfl 28 (.tmp 3) rfl (W.heap.size + 1) rfl 28 _ (0, 0) _ HJ.out.2.1 Try.underlying28 rfl HAI.out ?_)
        | (refine wpList_store_row rfl 28 (.tmp 2) (.tmp 27) rfl W.heap.size F rfl rfl 28 _ HJ.out.1 HAI.out HSZ.out HAL.out ?_))
      exact bodyPost_ret (results_cell_row (p := 2) (by kernel_rfl) _ _ W.heap.size 28 F (0, 0) _ rfl HWS.out.1 Try.underlying28 rfl HAI.out) rfl ⟨by rw [HFQ.out], HWS.out.2⟩

/-- The example's notes. -/
def exN : List Nt := [⟨0, 0, 1, 0, 2, 0, 0, 0⟩, ⟨0, 0, 1, 4, 4, 0, 0, 0⟩, ⟨0, 0, 1, 3, 3, 0, 0, 0⟩]
theorem idx1 (a b c d e f g h : Value) (w : World) : (Instr.index 28 (.agg #[a, b, c, d, e, f, g, h]) (.int .i64 1)).run Try.prog w = .ok b w := by kernel_rfl
theorem exN_pub : pubN exN 0 = [(0, 2), (4, 4), (3, 3)] := by decide
theorem exN_shown {out : List Sp} (h : ShownP exN 0 out) : out = [(0, 4)] := by
  refine canon_unique _ _ _ h.canon ⟨by decide, by decide, fun i => ?_⟩
  rw [exN_pub, InP.one, InP.cons, InP.cons, InP.one]
  simp only
  omega
theorem exN_len : lenP 2 [(0, 4)] = 3 := by decide
theorem exN_deeds : deedsP exN 1 = 3 := by decide

theorem ex_read (W : World) : NtsAt (W.alloc (.cells #[.int .i64 0, .int .i64 0, .int .i64 1, .int .i64 0, .int .i64 2, .int .i64 0, .int .i64 0, .int .i64 0, .int .i64 0, .int .i64 0, .int .i64 1, .int .i64 4, .int .i64 4, .int .i64 0, .int .i64 0, .int .i64 0, .int .i64 0, .int .i64 0, .int .i64 1, .int .i64 3, .int .i64 3, .int .i64 0, .int .i64 0, .int .i64 0] 33)) (.slice (some ⟨W.heap.size, 0, none⟩) 3 3) exN := by
  have h : (W.alloc (.cells (flatN exN).toArray 33)).ownsRow 0 33 8 (.slice (some ⟨W.heap.size, 0, none⟩) 3 3) 3 (flatN exN) := by
    refine ⟨by decide, .inr ⟨W.heap.size, 3, _, rfl, Nat.zero_le _, obj_new _ _, Nat.le_refl _, by decide, by decide, ?_⟩⟩
    rw [List.take_of_length_le (by decide)]
  exact NtsOwn.read (B := 0) (l := exN) ⟨h, fun x hx => by
    simp [exN] at hx
    rcases hx with rfl | rfl | rfl <;> constructor <;> (constructor <;> decide)⟩

set_option maxRecDepth 100000 in
set_option maxHeartbeats 2000000 in
theorem awake22 (W : World) : Calls Try.prog 11 #[] W fun e w' => e = .returned (.bool true) ∧ Below W.heap.size W w' := by
  go_enter Try.func11, Try.ntmps11
  have HR := Lib.hid (ex_read W)
  have HA0 : Hid (Below W.heap.size W (W.alloc (.cells #[.int .i64 0, .int .i64 0, .int .i64 1, .int .i64 0, .int .i64 2, .int .i64 0, .int .i64 0, .int .i64 0, .int .i64 0, .int .i64 0, .int .i64 1, .int .i64 4, .int .i64 4, .int .i64 0, .int .i64 0, .int .i64 0, .int .i64 0, .int .i64 0, .int .i64 1, .int .i64 3, .int .i64 3, .int .i64 0, .int .i64 0, .int .i64 0] 33))) := Lib.hid ((Below.refl _ _).alloc (Nat.le_refl _) _)
  go_wp2_with fail
  refine (tshown (ring := 0) HR.out (by decide)).mono ?_
  rintro e w1 ⟨v1, out, rfl, hat, hs, hol, hb⟩
  obtain rfl : out = [(0, 4)] := exN_shown hs
  obtain ⟨p1, cq, rfl, -⟩ := hat.form
  obtain ⟨b, off, x, rfl, hx, hbl, c0, c1⟩ := hat.at_ (k := 0) (by decide)
  obtain rfl : (0, 4) = x := by simpa using hx
  rw [Nat.zero_mul, Nat.add_zero] at c0 c1
  have HR1 : Hid (NtsAt w1 (.slice (some ⟨W.heap.size, 0, none⟩) 3 3) exN ∧ Below W.heap.size W w1) := Lib.hid ⟨HR.out.keep hb, HA0.out.trans (hb.mono HA0.out.size)⟩
  clear hat hs hol hb hx hbl
  have hlit : ([((0, 4) : Sp)] : List Sp).length = 1 := rfl
  rw [hlit]
  clear hlit
  have HLN := Lib.hid exN_len
  have HDN := Lib.hid exN_deeds
  go_wp2_with fail
  refine (tlength (ring := 0) (from_ := 2) HR1.out.1 (by decide)).mono ?_
  rintro e w2 ⟨out2, rfl, hs2, hb2⟩
  obtain rfl : out2 = [(0, 4)] := exN_shown hs2
  rw [HLN.out]
  have HR2 : Hid (NtsAt w2 (.slice (some ⟨W.heap.size, 0, none⟩) 3 3) exN ∧ Below W.heap.size W w2) := Lib.hid ⟨HR1.out.1.keep hb2, bthen HR1.out.2 hb2⟩
  clear hb2 hs2
  go_wp2_with fail
  refine (tcounts HR2.out.1 (by decide)).mono ?_
  rintro e w3 ⟨rfl, hb3⟩
  have HR3 : Hid (Below W.heap.size W w3) := Lib.hid (bthen HR2.out.2 hb3)
  clear hb3
  unfold arr8
  rw [HDN.out]
  have hidx := idx1
  go_wp2
  go_ret
  exact ⟨rfl, HR3.out⟩
end Go.Proofs.Ytnblkkmandlllaa
