/-
  The document's answers for layer 9 that layer 10's use: the least of those who hold back, how many remain, what is wrong with a claim, whether what was seen last is enough: by contract. Condition: at most a million who hold back.
-/
import Derived.Test.YtjadapjjilegnaaMj
import Derived.BigQuiet
import Derived.Deep.QuietTactic
namespace Go.Proofs.Ytjadapjjilegnaa
open Go.RowKit
set_option linter.unusedVariables false

/-- A row of 64-bit numbers that can be read. -/
def LngAt (W : World) (v : Value) (l : List Int) : Prop := ∃ p cap, v = .slice p l.length cap ∧ (l.length = 0 ∨ ∃ b off, p = some ⟨b, off, none⟩ ∧ ∀ j, j < l.length → W.cell? ⟨b, off + j, none⟩ = some (.int .i64 (l.getD j 0)))
theorem LngAt.keep {W w : World} {v : Value} {l : List Int} (h : LngAt W v l) (hb : Below W.heap.size W w) : LngAt w v l := by
  obtain ⟨p, cap, rfl, h⟩ := h
  refine ⟨p, cap, rfl, h.imp id ?_⟩
  rintro ⟨b, off, rfl, hc⟩
  exact ⟨b, off, rfl, fun j hj => keepc hb (hc j hj)⟩
theorem LngAt.of_row {W : World} {B : Nat} {e : TypeId} {v : Value} {n : Nat} {l : List Int} (h : W.ownsRow B e 1 v n (l.map (Value.int .i64))) : LngAt W v l := by
  have hn : l.length = n := by have := h.1; simpa using this
  subst hn
  obtain ⟨p, c, rfl, _⟩ := row_form h
  refine ⟨p, c, rfl, ?_⟩
  rcases Nat.eq_zero_or_pos l.length with h0 | h0
  · exact .inl h0
  · obtain ⟨g, cap, hs, _⟩ := row_some h h0
    simp at hs
    obtain ⟨rfl, rfl⟩ := hs
    refine .inr ⟨g, 0, rfl, fun j hj => ?_⟩
    rw [Nat.zero_add, h.cellAt j (by omega)]
    simp [List.getElem?_eq_getElem hj]

theorem quiet_load_row {P : Program} {C : World → Prop} {K : Act → Prop} {a : Act} {o : Oper} (ty : TypeId) (x : Operand) (ho : o.op = .load ty x)
    (g : Nat) (hx : a.eval x = .pointer (some ⟨g, 0, none⟩)) (t : TypeId) (cs : Array Value) (fr : Nat × Nat) (d : TypeDesc) (hg : ∀ w, C w → w.heap[g]? = some (.cells cs t fr))
    (hu : P.underlying ty = some d) (hd : (match d with | .struct _ | .array _ _ => true | _ => false) = true) (hi : (P.info? ty).map (·.size) = some cs.size)
    (hk : K (a.put o.dst (.agg cs))) : o.quiet P a C K := by
  refine ⟨.agg cs, fun w hw => ?_, hk⟩
  unfold Oper.quietAt execOp
  simp only [ho, hx, Instr.loadAt, Instr.sureAddr, Sem.run_bind, Sem.run_pure, Result.andThen_ok, run_loadVar_row w g t ty cs fr d (hg w hw) hu hd hi]
  exact ⟨rfl, rfl⟩

set_option maxHeartbeats 1000000 in
theorem rleast9 {W : World} {gv : Value} {gs : List Int} (h : LngAt W gv gs) (hbig : gs.length ≤ 1000000) (N c d sn k : Int) :
    Calls Try.prog 141 #[.agg #[.int .i64 N, .int .i64 d, .int .i64 c, gv, .int .i64 sn, .int .i64 k]] W fun e w' => e = .returned (.int .i64 (leastP c gs)) ∧ Below W.heap.size W w' := by
  obtain ⟨p, cap, rfl, h⟩ := h
  have H := Lib.hid h
  clear h
  have HT : Hid (∀ j, j < gs.length → leastP c (gs.take (j + 1)) = min (leastP c (gs.take j)) (gs.getD j 0)) := fun j hj => leastP_take hj c
  have H0 : Hid (leastP c (gs.take 0) = c) := rfl
  have HF : Hid (leastP c (gs.take gs.length) = leastP c gs) := Lib.hid (by rw [List.take_length])
  go_enter Try.func141, Try.ntmps141
  go_wp2_with fail
  generalize hX : W.alloc (.cells #[.int .i64 N, .int .i64 d, .int .i64 c, .slice p gs.length cap, .int .i64 sn, .int .i64 k] 123) = X at *
  have hb : Below W.heap.size W X := hX ▸ balloc (Below.refl _ _) _
  have c3 : X.cell? ⟨W.heap.size, 3, none⟩ = some (.slice p gs.length cap) := hX ▸ (obj_cell (obj_new _ _) 3).trans rfl
  have HB := Lib.hid hb
  have HC3 := Lib.hid c3
  clear hX hb c3
  go_loopw [3, 4] (fun nv i wl => ∃ j : Nat, j ≤ gs.length ∧ i = .int .i64 j ∧ nv = .int .i64 (leastP c (gs.take j)) ∧ wl = X) (fun _ i _ => gs.length - (intOf i).toNat)
  case atStart => exact ⟨0, Nat.zero_le _, rfl, by rw [H0.out], rfl⟩
  case round =>
    obtain ⟨j, hj, rfl, rfl, rfl⟩ := hrel
    have c3 := HC3.out
    by_cases hlt : j < gs.length
    · rcases H.out with h | ⟨b1, o1, rfl, hc⟩
      · omega
      have cj := keepc HB.out (hc j hlt)
      have HTJ := Lib.hid (HT.out j hlt)
      clear hc HT HF H0
      generalize gs.getD j 0 = z at *
      generalize leastP c (gs.take j) = y at *
      by_cases hz : z < y
      · have d1 : decide (z < y) = true := decide_eq_true hz
        go_wp2
        exact ⟨⟨j + 1, by omega, by go_num, by rw [HTJ.out, Int.min_eq_right (by omega)], by first | trivial | rfl⟩, by simp [intOf]; omega⟩
      · have d1 : decide (z < y) = false := decide_eq_false hz
        go_wp2
        exact ⟨⟨j + 1, by omega, by go_num, by rw [HTJ.out, Int.min_eq_left (by omega)], by first | trivial | rfl⟩, by simp [intOf]; omega⟩
    · obtain rfl : j = gs.length := by omega
      rw [HF.out]
      clear HT HF H0
      go_wp2
      go_ret
      exact ⟨rfl, HB.out⟩

set_option maxHeartbeats 1000000 in
theorem rremaining9 {W : World} {gv : Value} {gs : List Int} (h : LngAt W gv gs) (hbig : gs.length ≤ 1000000) (N c sn k : Int) (hN : 0 ≤ N ∧ N ≤ 1048576) (hc : -1 ≤ c ∧ c ≤ 4611686018427387904) (hl : -1 ≤ leastP c gs) :
    Calls Try.prog 74 #[.agg #[.int .i64 N, .int .i64 c, .int .i64 c, gv, .int .i64 sn, .int .i64 k]] W fun e w' => e = .returned (.int .i64 (remP N c gs)) ∧ Below W.heap.size W w' := by
  obtain ⟨m, hm⟩ : ∃ m, leastP c gs = m := ⟨_, rfl⟩
  have hR : remP N c gs = max 0 (N - (c - m)) := by rw [← hm]; rfl
  have HG := Lib.hid h
  have hle := (leastP_le c gs).1
  rw [hm] at hle hl
  have HMM := Lib.hid hm
  rw [hR]
  clear h hm hR
  have fin : ∀ (X : World), Below W.heap.size W X → ∀ x : Later X, Calls Try.prog 141 #[.agg #[.int .i64 N, .int .i64 c, .int .i64 c, gv, .int .i64 sn, .int .i64 k]] x.to fun e w'' => e = .returned (.int .i64 m) ∧ ∃ y : Later X, w'' = y.to := fun X hX x =>
    (rleast9 (HG.out.keep (bthen hX x.below)) hbig N c c sn k).mono fun e w k => ⟨by rw [k.1, HMM.out], ⟨w, bthen x.below k.2⟩, rfl⟩
  have FIN := Lib.hid fin
  clear fin
  go_enter Try.func74, Try.ntmps74
  go_wp2_with fail
  generalize hX : W.alloc (.cells #[.int .i64 N, .int .i64 c, .int .i64 c, gv, .int .i64 sn, .int .i64 k] 123) = X at *
  have HB : Hid (Below W.heap.size W X) := hX ▸ balloc (Below.refl _ _) _
  have HO : Hid (X.heap[W.heap.size]? = some (.cells #[.int .i64 N, .int .i64 c, .int .i64 c, gv, .int .i64 sn, .int .i64 k] 123 (0, 0))) := hX ▸ obj_new _ _
  have c0 : ∀ x : Later X, x.to.cell? ⟨W.heap.size, 0, none⟩ = some (.int .i64 N) := fun x => keepc x.below ((obj_cell HO.out 0).trans rfl)
  have c1 : ∀ x : Later X, x.to.cell? ⟨W.heap.size, 1, none⟩ = some (.int .i64 c) := fun x => keepc x.below ((obj_cell HO.out 1).trans rfl)
  have HL := Lib.hid (FIN.out X HB.out)
  have HLD : Hid (∀ w, (∃ x : Later X, w = x.to) → w.heap[W.heap.size]? = some (.cells #[.int .i64 N, .int .i64 c, .int .i64 c, gv, .int .i64 sn, .int .i64 k] 123 (0, 0))) := fun w ⟨x, hx⟩ => hx ▸ (x.below.block _ (lt_of_block HO.out)).trans HO.out
  clear hX FIN
  refine wp_region_later (by kernel_rfl) (by kernel_rfl) ?_
  repeat (first
    | (go_big_quiet_want; refine quiet_load_row 123 (.tmp 1) rfl W.heap.size rfl 123 _ (0, 0) _ HLD.out Try.underlying123 rfl (by kernel_rfl) ?_; go_big_quiet_on; go_frame)
    | go_big_quiet_step ((first
      | (go_at_call 141; exact HL.out _))))
  refine wpQuiet_nil ?_
  intro _ hw'
  obtain ⟨nq, rfl⟩ := hw'
  have HBQ := Lib.hid (bthen HB.out nq.below)
  clear HO c0 c1 HL HLD
  generalize nq.to = wq at *
  by_cases hz : N - (c - m) < 0
  · have d1 : decide (N - (c - m) < 0) = true := decide_eq_true hz
    go_wp2
    go_ret
    exact ⟨by rw [show max 0 (N - (c - m)) = 0 by omega]; rfl, HBQ.out⟩
  · have d1 : decide (N - (c - m) < 0) = false := decide_eq_false hz
    go_wp2
    go_ret
    exact ⟨by rw [show max 0 (N - (c - m)) = N - (c - m) by omega]; rfl, HBQ.out⟩

/-- What is wrong with a claim. -/
def wrongP (N c n : Int) : Int := if n < 1 ∨ N < n then 1 else if 4611686018427387904 - n < c then 15 else 0
set_option maxHeartbeats 1000000 in
theorem rwrong9 (W : World) (gv : Value) (N c d sn k n : Int) (hN : 0 ≤ N ∧ N ≤ 1048576) (hn : -9223372036854775808 ≤ n ∧ n ≤ 9223372036854775807) :
    Calls Try.prog 142 #[.agg #[.int .i64 N, .int .i64 c, .int .i64 d, gv, .int .i64 sn, .int .i64 k], .int .i64 n] W fun e w' => e = .returned (.int .i64 (wrongP N c n)) ∧ Below W.heap.size W w' := by
  have fin : ∀ X, X = W.alloc (.cells #[.int .i64 N, .int .i64 c, .int .i64 d, gv, .int .i64 sn, .int .i64 k] 123) → Below W.heap.size W X := fun X e => e ▸ balloc (Below.refl _ _) _
  have FIN := Lib.hid (fin _ rfl)
  clear fin
  unfold wrongP
  by_cases h1 : n < 1
  · rw [if_pos (.inl h1)]
    have d1 : decide (n < 1) = true := decide_eq_true h1
    go_enter Try.func142, Try.ntmps142
    go_wp2
    go_ret
    exact ⟨rfl, FIN.out⟩
  · have d1 : decide (n < 1) = false := decide_eq_false h1
    by_cases h2 : N < n
    · rw [if_pos (.inr h2)]
      have d2 : decide (N < n) = true := decide_eq_true h2
      go_enter Try.func142, Try.ntmps142
      go_wp2
      go_ret
      exact ⟨rfl, FIN.out⟩
    · rw [if_neg (by omega)]
      have d2 : decide (N < n) = false := decide_eq_false h2
      by_cases h3 : 4611686018427387904 - n < c
      · rw [if_pos h3]
        have d3 : decide (4611686018427387904 - n < c) = true := decide_eq_true h3
        go_enter Try.func142, Try.ntmps142
        go_wp2
        go_ret
        exact ⟨rfl, FIN.out⟩
      · rw [if_neg h3]
        have d3 : decide (4611686018427387904 - n < c) = false := decide_eq_false h3
        go_enter Try.func142, Try.ntmps142
        go_wp2
        go_ret
        exact ⟨rfl, FIN.out⟩
set_option maxHeartbeats 1000000 in
theorem renough9 (W : World) (gv : Value) (N c d sn k n : Int) (hN : 0 ≤ N ∧ N ≤ 1048576) (hc : -1 ≤ c ∧ c ≤ 4611686018427387904) (hn : 1 ≤ n ∧ n ≤ N) (b : Bool) (hb : b = true ↔ enoughP N c sn n) :
    Calls Try.prog 143 #[.agg #[.int .i64 N, .int .i64 c, .int .i64 d, gv, .int .i64 sn, .int .i64 k], .int .i64 (c + n)] W fun e w' => e = .returned (.bool b) ∧ Below W.heap.size W w' := by
  have fin : ∀ X, X = W.alloc (.cells #[.int .i64 N, .int .i64 c, .int .i64 d, gv, .int .i64 sn, .int .i64 k] 123) → Below W.heap.size W X := fun X e => e ▸ balloc (Below.refl _ _) _
  have FIN := Lib.hid (fin _ rfl)
  clear fin
  by_cases h1 : c + n - N ≤ sn
  · have d1 : decide (c + n - N ≤ sn) = true := decide_eq_true h1
    by_cases h2 : sn ≤ c
    · have d2 : decide (sn ≤ c) = true := decide_eq_true h2
      obtain rfl : b = true := hb.2 ⟨h1, h2⟩
      clear hb
      go_enter Try.func143, Try.ntmps143
      go_wp2
      go_ret
      exact ⟨rfl, FIN.out⟩
    · have d2 : decide (sn ≤ c) = false := decide_eq_false h2
      obtain rfl : b = false := by
        cases b
        · rfl
        · exact absurd (hb.1 rfl).2 h2
      clear hb
      go_enter Try.func143, Try.ntmps143
      go_wp2
      go_ret
      exact ⟨rfl, FIN.out⟩
  · have d1 : decide (c + n - N ≤ sn) = false := decide_eq_false h1
    obtain rfl : b = false := by
      cases b
      · rfl
      · exact absurd (hb.1 rfl).1 h1
    clear hb
    go_enter Try.func143, Try.ntmps143
    go_wp2
    go_ret
    exact ⟨rfl, FIN.out⟩
end Go.Proofs.Ytjadapjjilegnaa
