/-
  Claim of package multi, by contract: what it refuses, and what it leaves. Conditions: the cells are there; fewer than 2^60 steps.
  Claim of package multi, by contract: what it refuses, and what it leaves. Conditions: the cells are there; fewer than 2^60 steps.
  Claim of package multi, where its number may be, by contract. Conditions: the arena has the sequencer's cells and those of who holds it back; fewer than 2^60 steps.
  Claim and New of package multi, by contract. Conditions: the arena has the sequencer's cells and those of who holds it back, New's arena was made by the call and has room; fewer than 2^60 steps.
  What may be done to a sequencer of package multi whose arena has its cells alone, by contract; the statements' own example. Conditions: fewer than 2^60 steps.
  What New of package multi refuses by its size, by contract; errors that stay what they are while a sequencer is made. No condition but those that each theorem names.
-/
import Derived.Test.YtjadapjjilegnaaCI
import Derived.Test.YtjadapjjilegnaaMc
namespace Go.Proofs.Ytjadapjjilegnaa
open Go.RowKit
set_option linter.unusedVariables false

/-- The sequencer that a statement made: its arena has its cells alone. -/
structure Lv (R : Rest) (W0 W : World) (s : Sh) (c sn : Int) (sh gv : List Int) (sw st : Int) : Prop where
  lv ::
  ms : Ms R W0 W s (idsN sh.length gv.length) sw (mk c sn sh gv) st
  n : (sh.length : Int) = two s.k
  cur : s.cur = 0
  cch : s.cch = 1
  f : s.f = 2
  c1 : -1 ≤ c
  swc : sw ≤ c
section
variable {R : Rest} {W0 W w : World} {s : Sh} {c sn sw st : Int} {sh gv : List Int}
theorem Lv.keep (h : Lv R W0 W s c sn sh gv sw st) (hb : Below W.heap.size W w) : Lv R W0 w s c sn sh gv sw st := ⟨h.ms.keep hb, h.n, h.cur, h.cch, h.f, h.c1, h.swc⟩
theorem Lv.g32 (h : Lv R W0 W s c sn sh gv sw st) : gv.length ≤ 32 := by
  obtain ⟨cs, q1, _⟩ := h.ms.blk
  have := q1.gr.len
  rwa [idsN_len] at this
theorem Lv.hin (h : Lv R W0 W s c sn sh gv sw st) : ∀ j, j < (idsN sh.length gv.length).length → 0 ≤ (idsN sh.length gv.length).getD j 0 ∧ (idsN sh.length gv.length).getD j 0 < ((mk c sn sh gv).length : Int) := by
  intro j hj
  rw [idsN_len] at hj
  rw [idsN_at _ _ hj, mk_len]
  omega
theorem Lv.len (h : Lv R W0 W s c sn sh gv sw st) : ((mk c sn sh gv).length : Int) ≤ 2097152 := by
  have := h.g32
  have := two_le h.ms.k20
  have := h.n
  rw [mk_len]
  omega

/-- No cell is wanting. -/
theorem mlacks_nil (W : World) : Calls Try.prog 139 #[.pointer none] W fun e w' => e = .returned (.bool false) ∧ Below W.heap.size W w' := by
  have HC : Hid (∀ w : World, Calls Try.prog 96 #[.pointer none] w fun e w' => e = .returned (.slice none 0 0) ∧ w = w') := by
    intro w
    go_enter Try.func96, Try.ntmps96
    go_wp2_with (first
      | (go_at_call 146; refine (in_nil _).mono ?_; rintro e w' ⟨rfl, rfl⟩)
      | (go_at_call 150; refine (Try.slices_Clone_int_nil 0 0 _).mono ?_; rintro e w' ⟨rfl, rfl⟩))
    go_ret
    exact ⟨rfl, rfl⟩
  go_enter Try.func139, Try.ntmps139
  go_wp2_with (first
    | (go_at_call 79; refine (mgate_nil _).mono ?_; rintro e w' ⟨rfl, rfl⟩)
    | (go_at_call 96; refine (HC.out _).mono ?_; rintro e w' ⟨rfl, rfl⟩))
  go_loopw [9] (fun i wl => i = .int .i64 0 ∧ wl = W) (fun _ _ => 0)
  case atStart => exact ⟨rfl, rfl⟩
  case round =>
    obtain ⟨rfl, rfl⟩ := hrel
    go_wp2
    go_ret
    exact ⟨rfl, Below.refl _ _⟩

set_option maxHeartbeats 1000000 in
theorem mlacks {ids xs : List Int} (hm : Ms R W0 W s ids sw xs st) (hin : ∀ j, j < ids.length → ids.getD j 0 < (xs.length : Int)) :
    Calls Try.prog 139 #[.pointer (some ⟨s.p, 0, none⟩)] W fun e w' => e = .returned (.bool false) ∧ Below W.heap.size W w' := by
  have HM := Lib.hid hm
  have HIN := Lib.hid hin
  obtain ⟨cs, q1, q2⟩ := hm.blk
  have hl32 : ids.length ≤ 32 := q1.gr.len
  have HC := Lib.hid (gcells_q q2 q1.gr)
  clear hm hin q1 q2
  generalize hn : ids.length = n at *
  have HN := Lib.hid hn
  generalize hxl : (xs.length : Int) = xl at *
  have HXL := Lib.hid hxl
  clear hn hxl
  go_enter Try.func139, Try.ntmps139
  go_wp2_with (first
    | (go_at_call 79; refine (mgate_some _ _).mono ?_; rintro e w' ⟨rfl, rfl⟩)
    | (go_at_call 96; refine HC.out.mono ?_; rintro e w1 ⟨v, rfl, hv⟩; have HR := Lib.hid hv.1; have HB := Lib.hid hv.2; obtain ⟨p, cap, rfl, _⟩ := row_form hv.1; rw [HN.out]; clear hv))
  go_loopw [9] (fun i wl => ∃ k : Nat, k ≤ n ∧ i = .int .i64 k ∧ wl = w1) (fun i _ => n - (intOf i).toNat)
  case atStart => exact ⟨0, by omega, rfl, rfl⟩
  case round =>
    obtain ⟨k, hk, rfl, rfl⟩ := hrel
    by_cases hlt : k < n
    · obtain ⟨r, cap2, hsl, _⟩ := row_some HR.out (by rw [HN.out]; omega)
      obtain rfl : p = some ⟨r, 0, none⟩ := by simp at hsl; exact hsl.1
      have ck : wr.cell? ⟨r, k, none⟩ = some (.int .i64 (ids.getD k 0)) := by
        rw [HR.out.cellAt k (by rw [HN.out]; omega)]
        simp [List.getElem?_eq_getElem (show k < ids.length by rw [HN.out]; exact hlt)]
      have hz := HIN.out k hlt
      have k0 := (HM.out.keep HB.out).c.c0
      clear hsl
      generalize ids.getD k 0 = z at *
      have hdz : decide (xl ≤ z) = false := decide_eq_false (by omega)
      go_wp2_with (go_at_call 29; refine (len_s (HM.out.keep HB.out)).mono ?_; rintro e w' ⟨rfl, rfl⟩; rw [HXL.out])
      exact ⟨⟨k + 1, by omega, by go_num, trivial⟩, by simp [intOf]; omega⟩
    · obtain rfl : k = n := by omega
      go_wp2
      go_ret
      exact ⟨rfl, HB.out⟩
end
end Go.Proofs.Ytjadapjjilegnaa
namespace Go.Proofs.Ytjadapjjilegnaa
open Go.RowKit

/-- A claim in a block of the caller's own, beside the sequencer. -/
structure M1 (R : Rest) (W0 w : World) (s : Sh) (ids : List Int) (sw : Int) (xs : List Int) (st : Int) (b : Nat) (ts : Array Value) : Prop where
  ms : Ms (R.and b ts 165) W0 w s ids sw xs st
  low : W0.heap.size ≤ b
  np : ∀ k, R.prot k → k < b
section
variable {R : Rest} {W0 W w : World} {s : Sh} {ids xs : List Int} {sw st : Int} {b : Nat} {ts : Array Value}
theorem M1.start (h : Ms R W0 W s ids sw xs st) (zs : Array Value) : M1 R W0 (W.alloc (.cells zs 165)) s ids sw xs st W.heap.size zs :=
  ⟨(h.keep (balloc (Below.refl _ _) _)).with (obj_new _ _) (by decide) (by decide) (by decide), h.below.size, fun k hk => h.prot_lt hk⟩
theorem M1.t (h : M1 R W0 w s ids sw xs st b ts) : Blk w b ts 165 := h.ms.inv.2
theorem M1.keep {w' : World} (h : M1 R W0 w s ids sw xs st b ts) (hb : Below w.heap.size w w') : M1 R W0 w' s ids sw xs st b ts := ⟨h.ms.keep hb, h.low, h.np⟩
theorem M1.store (h : M1 R W0 w s ids sw xs st b ts) (cs : Array Value) : M1 R W0 (w.setRow b cs) s ids sw xs st b cs := by
  have ht := h.t
  have hf : Frm (fun k => k = b) w (w.setRow b cs) := (Frm.refl (fun k => k = b) w).setRow rfl cs
  refine ⟨h.ms.turn hf (fun g o ho e => ?_) (fun g hg => .inl hg) ⟨?_, setRow_heap _ _ _ _ _ _ ht⟩, h.low, h.np⟩
  · subst e
    rw [ht] at ho
    cases ho
    exact ⟨h.low, _, _, _, rfl, by decide, by decide, by decide, by decide⟩
  · exact R.ok _ _ h.ms.inv.1 fun k hk => hf.block k (Nat.lt_trans (h.np k hk) (lt_of_block ht)) (by have := h.np k hk; omega)
theorem M1.done (h : M1 R W0 w s ids sw xs st b ts) : Ms R W0 w s ids sw xs st := h.ms.drop
end

set_option maxHeartbeats 2000000 in
set_option maxRecDepth 100000 in
/-- What Try refuses claim refuses. -/
theorem mclaim_err {P : Value} {n m : Int} {W : World} (ht : Calls Try.prog 104 #[P, .int .i64 n] W fun e w' => ∃ ts E, e = .returned (.tuple #[.agg ts, E]) ∧ TyZ ts ∧ Refused W w' E m) :
    Calls Try.prog 140 #[P, .int .i64 n] W fun e w' => ∃ q, e = .returned (.tuple #[.int .i64 0, .iface 241 (.pointer (some ⟨q, 0, none⟩))]) ∧ Chain w' (.iface 241 (.pointer (some ⟨q, 0, none⟩))) 2 m ∧ Below W.heap.size W w' := by
  have HTR := Lib.hid ht
  clear ht
  go_enter Try.func140, Try.ntmps140
  go_wp2_with (first
    | (go_at_call 104; refine HTR.out.mono ?_; rintro e w1 ⟨ts, E, rfl, hz, q, rfl, hc, hb⟩; have HZ := Lib.hid hz; have HZI := Lib.hid hz.info; have HC := Lib.hid hc; have HB := Lib.hid hb; clear hz hc hb)
    | (refine wpList_alloc_try rfl rfl ?_; intro zs hz; have HN := Lib.hid (obj_new w1 (.cells zs 165)); have HB1 := Lib.hid (balloc HB.out (.cells zs 165)); have HL := Lib.hid HB.out.size; generalize w1.heap.size = nb at *; have HC1 := Lib.hid (HC.out.keep (balloc (Below.refl _ _) (.cells zs 165))); generalize w1.alloc (.cells zs 165) = w2 at *)
    | (refine wpList_store_row rfl 165 (.tmp 6) (.tmp 12) rfl nb _ rfl rfl 165 _ HN.out HZI.out (by rw [HZ.out.size]; exact hz) HZ.out.one ?_; have HN2 := Lib.hid (setRow_heap _ nb _ ts _ _ HN.out); have HB2 := Lib.hid (bsetRow HB1.out HL.out ts); have HC2 := Lib.hid (Held.of_frm ((Frm.refl (fun k => k = nb) w2).setRow rfl ts) (by rintro k cs T m' rfl hk; rw [HN.out] at hk; cases hk; decide) _ _ _ HC1.out); generalize w2.setRow nb ts = w3 at *))
  go_loopw [7] (fun e wl => e = .iface 241 (.pointer (some ⟨q, 0, none⟩)) ∧ wl = w3) (fun _ _ => 0)
  case atStart => exact ⟨rfl, rfl⟩
  case round =>
    obtain ⟨rfl, rfl⟩ := hrel
    have c4 := (obj_cell HN2.out 4).trans HZ.out.c4
    go_wp2_with (first
      | (refine wpList_load_row rfl 165 (.tmp 6) rfl nb rfl 165 _ (0, 0) _ HN2.out Try.underlying165 rfl HZI.out ?_)
      | (go_at_call 109; refine (tfull HZ.out.c2 _).mono ?_; rintro e w4 ⟨rfl, hb⟩; have HB4 := Lib.hid (bthen HB2.out hb); have HC4 := Lib.hid (HC2.out.keep hb); have c4 := keepc hb c4; clear hb)
      | (go_at_call 115; refine (wrap_deep _ _ HC4.out).mono ?_; rintro e w5 ⟨q5, rfl, hc, hb⟩; have HC5 := Lib.hid hc; have HB5 := Lib.hid (bthen HB4.out hb); clear hc hb))
    go_ret2
    exact ⟨q5, rfl, HC5.out, HB5.out⟩
end Go.Proofs.Ytjadapjjilegnaa
namespace Go.Proofs.Ytjadapjjilegnaa
open Go.RowKit

def farN (m : Nat) (stg : Int) (seen : Nat) : Nat := if stg = 1 then m + 5 else if stg = 2 then m + 4 else if stg = 3 then m - seen + 3 else if stg = 4 then 2 else if stg = 5 then 1 else 0
/-- How far the claim in a block is from its end. -/
def farW (m b : Nat) (w : World) : Nat := farN m (intOf ((w.cell? ⟨b, 2, none⟩).getD undef)) (intOf ((w.cell? ⟨b, 38, none⟩).getD undef)).toNat
theorem farW_is {m b : Nat} {w : World} {ts : Array Value} {p : Nat} {t : Tr} (hb : Blk w b ts 165) (h : TyF ts p t) : farW m b w = farT m t := by
  have h2 := (obj_cell hb 2).trans h.c2
  have h38 : w.cell? ⟨b, 38, none⟩ = some (.int .i64 t.seen) := by
    rw [obj_cell hb 38]
    have := h.sc.seen
    have hs := h.size
    rw [Array.getElem?_extract] at this
    simpa [hs] using this
  unfold farW
  rw [h2, h38]
  rfl

/-- Where the loop stands. -/
def ClI (R : Rest) (W0 : World) (s : Sh) (c sn : Int) (sh gv : List Int) (n sw st : Int) (b : Nat) (w : World) : Prop :=
  ∃ ts t xs sw' st', TyF ts s.p t ∧ CI (two s.k) c sn sh gv n sw xs sw' t ∧ M1 R W0 w s (idsN sh.length gv.length) sw' xs st' b ts ∧ st ≤ st' ∧ st' + farT gv.length t ≤ st + gv.length + 5

/-- What a claim leaves: its last index, or that it is full. -/
def Claimed (R : Rest) (W0 : World) (s : Sh) (c sn : Int) (sh gv : List Int) (n sw st : Int) (e : Ending) (w : World) : Prop :=
  (okP (two s.k) c sn n gv ∧ e = .returned (.tuple #[.int .i64 (c + n), .nilIface]) ∧ ∃ st', st ≤ st' ∧ st' ≤ st + 40 ∧ Lv R W0 w s (c + n) (snP (two s.k) c sn n gv) sh gv (c + n) st') ∨
  (¬ okP (two s.k) c sn n gv ∧ ∃ q, e = .returned (.tuple #[.int .i64 0, .iface 241 (.pointer (some ⟨q, 0, none⟩))]) ∧ Chain w (.iface 241 (.pointer (some ⟨q, 0, none⟩))) 1 10 ∧ ∃ st', st ≤ st' ∧ st' ≤ st + 40 ∧ Lv R W0 w s c sn sh gv sw st')

set_option maxHeartbeats 2000000 in
set_option maxRecDepth 100000 in
theorem mclaim_run {R : Rest} {W0 W : World} {s : Sh} {c sn sw st : Int} {sh gv : List Int} (h : Lv R W0 W s c sn sh gv sw st) (hc2 : c ≤ 2305843009213693952) (n : Int) (hn1 : 1 ≤ n) (hn2 : n ≤ two s.k) (h0 : 0 ≤ st) (h1 : st < 1152921504606846976) :
    Calls Try.prog 140 #[.pointer (some ⟨s.p, 0, none⟩), .int .i64 n] W fun e w' => Claimed R W0 s c sn sh gv n sw st e w' := by
  have hk := h.ms.k20
  have hn3 : n ≤ 1048576 := by have := two_le hk; omega
  have hg := h.g32
  have HCI := Lib.hid (CI.start (N := two s.k) (sn := sn) (sh := sh) (gv := gv) sw h.c1 hn1)
  have HL := Lib.hid h
  have HM := Lib.hid h.ms
  have hc1 := h.c1
  have HMT := Lib.hid (mtry_ok h.ms.c hk n hn1 hn2)
  clear h
  go_enter Try.func140, Try.ntmps140
  go_wp2_with (first
    | (go_at_call 104; refine HMT.out.mono ?_; rintro e w1 ⟨ts, rfl, hf, hb⟩; have HF := Lib.hid hf; have HFI := Lib.hid hf.info; have H1 := Lib.hid (HM.out.keep hb); clear hf hb)
    | (refine wpList_alloc_try rfl rfl ?_; intro zs hz; have H2 := Lib.hid (M1.start H1.out zs); generalize w1.heap.size = nb at *; generalize w1.alloc (.cells zs 165) = w2 at *)
    | (refine wpList_store_row rfl 165 (.tmp 6) (.tmp 12) rfl nb _ rfl rfl 165 _ H2.out.t HFI.out (by rw [HF.out.size]; exact hz) HF.out.one ?_; have H3 := Lib.hid (H2.out.store ts); generalize w2.setRow nb ts = w3 at *))
  have HI : Hid (ClI R W0 s c sn sh gv n sw st nb w3) := Lib.hid ⟨ts, _, _, _, _, HF.out, HCI.out, H3.out, by omega, by simp [farT, tr0]; omega⟩
  clear H1 H2 H3 HF HFI HMT HCI hz
  go_loopw [7] (fun e wl => e = .nilIface ∧ Hid (ClI R W0 s c sn sh gv n sw st nb wl)) (fun _ wl => farW gv.length nb wl)
  case atStart => exact ⟨rfl, HI⟩
  case round =>
    obtain ⟨rfl, HJ⟩ := hrel
    obtain ⟨ts1, t, xs, sw', st', hf, hci, hm1, g1, g2⟩ := HJ.out
    have HF := Lib.hid hf
    have HFI := Lib.hid hf.info
    have HC := Lib.hid hci
    have H1 := Lib.hid hm1
    have HFW := Lib.hid (farW_is (m := gv.length) hm1.t hf)
    clear HJ hf hci hm1
    by_cases hs : t.stg = 6 ∨ t.stg = 7
    · by_cases h7 : t.stg = 7
      · have hb : (t.stg == 0 || t.stg == 6 || t.stg == 7) = true := by rw [h7]; rfl
        have hb7 : (t.stg == 7) = true := by rw [h7]; rfl
        have HB := Lib.hid hb
        have HB7 := Lib.hid hb7
        have c4 := (obj_cell H1.out.t 4).trans HF.out.c4
        have HE : Hid (xs = mk c sn sh gv ∧ sw' = sw ∧ ¬ okP (two s.k) c sn n gv) := Lib.hid (by
          obtain ⟨_, _, _, k | k | k | k | k | k | k⟩ := HC.out <;> first | exact ⟨k.2.1, k.2.2.1, k.2.2.2⟩ | (have := k.1; omega))
        have g3 : st' ≤ st + 40 := by omega
        clear hb hb7 h7 hs
        go_wp2_with (first
          | (refine wpList_load_row_g rfl 165 (.tmp 6) rfl nb rfl 165 _ (0, 0) _ H1.out.t Try.underlying165 rfl HFI.out ?_)
          | (go_at_call 105; refine (tdone HF.out.c2 _).mono ?_; rintro e w4 ⟨rfl, hb4⟩; rw [HB.out]; have H4 := Lib.hid (H1.out.keep hb4); clear hb4)
          | (refine wpList_load_row rfl 165 (.tmp 6) rfl nb rfl 165 _ (0, 0) _ H4.out.t Try.underlying165 rfl HFI.out ?_)
          | (go_at_call 109; refine (tfull HF.out.c2 _).mono ?_; rintro e w5 ⟨rfl, hb5⟩; rw [HB7.out]; have H5 := Lib.hid (H4.out.keep hb5); have c4 := (obj_cell H5.out.t 4).trans HF.out.c4; clear hb5)
          | (go_at_call 115; refine (wrap_q _ _ _).mono ?_; rintro e w6 ⟨q, rfl, hr⟩; have H6 := Lib.hid (H5.out.keep hr.below); have HR := Lib.hid hr; clear hr))
        go_ret2
        refine .inr ⟨HE.out.2.2, q, rfl, ?_, st', g1, g3, ?_⟩
        · obtain ⟨q2, hq2, hch, _⟩ := HR.out
          cases hq2
          exact hch
        · obtain ⟨rfl, rfl, _⟩ := HE.out
          exact ⟨H6.out.done, HL.out.n, HL.out.cur, HL.out.cch, HL.out.f, HL.out.c1, HL.out.swc⟩
      · have h6 : t.stg = 6 := by omega
        have hb : (t.stg == 0 || t.stg == 6 || t.stg == 7) = true := by rw [h6]; rfl
        have hb7 : (t.stg == 7) = false := by rw [h6]; rfl
        have HB := Lib.hid hb
        have HB7 := Lib.hid hb7
        have HE : Hid (xs = mk (c + n) (snP (two s.k) c sn n gv) sh gv ∧ sw' = c + n ∧ t.last = c + n ∧ okP (two s.k) c sn n gv) := Lib.hid (by
          obtain ⟨_, _, _, k | k | k | k | k | k | k⟩ := HC.out <;> first | exact ⟨k.2.1, k.2.2.1, k.2.2.2.1, k.2.2.2.2⟩ | (have := k.1; omega))
        have c4 := ((obj_cell H1.out.t 4).trans HF.out.c4).trans (by rw [HE.out.2.2.1])
        have g3 : st' ≤ st + 40 := by omega
        clear hb hb7 h7 hs h6
        go_wp2_with (first
          | (refine wpList_load_row_g rfl 165 (.tmp 6) rfl nb rfl 165 _ (0, 0) _ H1.out.t Try.underlying165 rfl HFI.out ?_)
          | (go_at_call 105; refine (tdone HF.out.c2 _).mono ?_; rintro e w4 ⟨rfl, hb4⟩; rw [HB.out]; have H4 := Lib.hid (H1.out.keep hb4); clear hb4)
          | (refine wpList_load_row rfl 165 (.tmp 6) rfl nb rfl 165 _ (0, 0) _ H4.out.t Try.underlying165 rfl HFI.out ?_)
          | (go_at_call 109; refine (tfull HF.out.c2 _).mono ?_; rintro e w5 ⟨rfl, hb5⟩; rw [HB7.out]; have H5 := Lib.hid (H4.out.keep hb5); have c4 := ((obj_cell H5.out.t 4).trans HF.out.c4).trans (by rw [HE.out.2.2.1]); clear hb5))
        go_ret2
        refine .inl ⟨HE.out.2.2.2, rfl, st', g1, g3, ?_⟩
        obtain ⟨rfl, rfl, _⟩ := HE.out
        exact ⟨H5.out.done, HL.out.n, HL.out.cur, HL.out.cch, HL.out.f, by omega, Int.le_refl _⟩
    · have hb : (t.stg == 0 || t.stg == 6 || t.stg == 7) = false := by
        have := (HC.out.ok hc1 hc2 hn1 hn3 hg hs).s1
        simp only [Bool.or_eq_false_iff, beq_eq_false_iff_ne]
        omega
      have HB := Lib.hid hb
      have HSTEP := Lib.hid (HC.out.step hc1 hn1)
      have HFAR := Lib.hid (HC.out.far hs)
      have HOK := Lib.hid (HC.out.ok hc1 hc2 hn1 hn3 hg hs)
      have g5 : 0 ≤ st' := by omega
      have g6 : st' < 4611686018427387904 := by omega
      clear hb hs
      go_wp2_with (first
        | (refine wpList_load_row_g rfl 165 (.tmp 6) rfl nb rfl 165 _ (0, 0) _ H1.out.t Try.underlying165 rfl HFI.out ?_)
        | (go_at_call 105; refine (tdone HF.out.c2 _).mono ?_; rintro e w4 ⟨rfl, hb4⟩; rw [HB.out]; have H4 := Lib.hid (H1.out.keep hb4); clear hb4)
        | (refine wpList_load_row rfl 165 (.tmp 6) rfl nb rfl 165 _ (0, 0) _ H4.out.t Try.underlying165 rfl HFI.out ?_)
        | (go_at_call 107; refine (tstep_any HF.out H4.out.ms HOK.out HL.out.cur HL.out.cch g5 g6).mono ?_; rintro e w5 ⟨st2, a1, a2, ts2, rfl, hf2, hm2⟩; have H5 := Lib.hid (M1.mk hm2 H4.out.low H4.out.np); have HF2 := Lib.hid hf2; have HFI2 := Lib.hid hf2.info; clear hm2 hf2)
        | (refine wpList_store_row rfl 165 (.tmp 6) (.tmp 24) rfl nb _ rfl rfl 165 _ H5.out.t HFI2.out (by rw [HF2.out.size, HF.out.size]) HF2.out.one ?_; have H6 := Lib.hid (H5.out.store ts2); generalize w5.setRow nb ts2 = w6 at *))
      have HFW2 := farW_is (m := gv.length) H6.out.t HF2.out
      refine ⟨⟨rfl, Lib.hid ⟨ts2, _, _, _, st2, HF2.out, HSTEP.out, H6.out, by omega, ?_⟩⟩, ?_⟩
      · have := HFAR.out
        omega
      · rw [HFW2, HFW.out]
        exact HFAR.out
end Go.Proofs.Ytjadapjjilegnaa
namespace Go.Proofs.Ytjadapjjilegnaa
open Go.RowKit

theorem mClaim_nil (n : Int) (W : World) :
    Calls Try.prog 73 #[.pointer none, .int .i64 n] W fun e w' => ∃ q, e = .returned (.tuple #[.int .i64 0, .iface 241 (.pointer (some ⟨q, 0, none⟩))]) ∧ Chain w' (.iface 241 (.pointer (some ⟨q, 0, none⟩))) 2 2 ∧ Below W.heap.size W w' := by
  go_enter Try.func73, Try.ntmps73
  go_wp2_with (first
    | (go_at_call 139; refine (mlacks_nil _).mono ?_; rintro e w1 ⟨rfl, hb⟩; have HB := Lib.hid hb; clear hb)
    | (go_at_call 140; refine (mclaim_err (mtry_nil n _)).mono ?_; rintro e w2 ⟨q, rfl, hc, hb⟩; have HC := Lib.hid hc; have HB2 := Lib.hid (bthen HB.out hb); clear hc hb))
  go_ret2
  exact ⟨q, rfl, HC.out, HB2.out⟩
theorem mClaim_bad {R : Rest} {W0 W : World} {s : Sh} {c sn sw st : Int} {sh gv : List Int} (h : Lv R W0 W s c sn sh gv sw st) (n : Int) (hn : n < 1 ∨ two s.k < n) :
    Calls Try.prog 73 #[.pointer (some ⟨s.p, 0, none⟩), .int .i64 n] W fun e w' => ∃ q, e = .returned (.tuple #[.int .i64 0, .iface 241 (.pointer (some ⟨q, 0, none⟩))]) ∧ Chain w' (.iface 241 (.pointer (some ⟨q, 0, none⟩))) 2 1 ∧ Below W.heap.size W w' := by
  have HL := Lib.hid h
  have HN := Lib.hid hn
  clear h hn
  go_enter Try.func73, Try.ntmps73
  go_wp2_with (first
    | (go_at_call 139; refine (mlacks HL.out.ms (fun j hj => (HL.out.hin j hj).2)).mono ?_; rintro e w1 ⟨rfl, hb⟩; have HB := Lib.hid hb; clear hb)
    | (go_at_call 140; refine (mclaim_err (mtry_arg (HL.out.keep HB.out).ms.c HL.out.ms.k20 n HN.out)).mono ?_; rintro e w2 ⟨q, rfl, hc, hb⟩; have HC := Lib.hid hc; have HB2 := Lib.hid (bthen HB.out hb); clear hc hb))
  go_ret2
  exact ⟨q, rfl, HC.out, HB2.out⟩
theorem mClaim_run {R : Rest} {W0 W : World} {s : Sh} {c sn sw st : Int} {sh gv : List Int} (h : Lv R W0 W s c sn sh gv sw st) (hc2 : c ≤ 2305843009213693952) (n : Int) (hn1 : 1 ≤ n) (hn2 : n ≤ two s.k) (h0 : 0 ≤ st) (h1 : st < 1152921504606846976) :
    Calls Try.prog 73 #[.pointer (some ⟨s.p, 0, none⟩), .int .i64 n] W fun e w' => Claimed R W0 s c sn sh gv n sw st e w' := by
  have HL := Lib.hid h
  clear h
  go_enter Try.func73, Try.ntmps73
  go_wp2_with (go_at_call 139; refine (mlacks HL.out.ms (fun j hj => (HL.out.hin j hj).2)).mono ?_; rintro e w1 ⟨rfl, hb⟩; have H1 := Lib.hid (HL.out.keep hb); clear hb)
  refine (mclaim_run H1.out hc2 n hn1 hn2 h0 h1).mono ?_
  rintro e w2 (⟨hok, rfl, st', h1, h2, h3⟩ | ⟨hok, q, rfl, hc, st', h1, h2, h3⟩)
  · have HK := Lib.hid hok
    have H3 := Lib.hid h3
    clear hok h3
    go_wp2
    go_ret2
    exact .inl ⟨HK.out, rfl, st', h1, h2, H3.out⟩
  · have HK := Lib.hid hok
    have H3 := Lib.hid h3
    have HC := Lib.hid hc
    clear hok h3 hc
    go_wp2
    go_ret2
    exact .inr ⟨HK.out, q, rfl, HC.out, st', h1, h2, H3.out⟩

/-! New -/
theorem mnew_nil (n : Int) (W : World) :
    Calls Try.prog 71 #[.pointer none, .int .i64 n] W fun e w' => ∃ E, e = .returned (.tuple #[.pointer none, E]) ∧ Refused W w' E 2 := by
  go_enter Try.func71, Try.ntmps71
  go_wp2_with (go_at_call 115; refine (wrap_q _ _ _).mono ?_; rintro e w1 ⟨q, rfl, hr⟩; have HR := Lib.hid hr; clear hr)
  go_ret2
  exact ⟨_, rfl, HR.out⟩
/-- A sequencer's block behind New. -/
def sq0 (b k : Nat) : Array Value := (([.pointer (some ⟨b, 0, none⟩), .int .u8 k, .int .i64 0, .int .i64 0, .pointer none] : List Value) ++ grL [] ++ ([.int .i64 (-1)] : List Value)).toArray
theorem built_sq0 (b k : Nat) : Try.prog.built 216 [(0, .pointer (some ⟨b, 0, none⟩)), (1, .agg #[.int .u8 k]), (6, .int .i64 (-1))] = some (sq0 b k) := by kernel_rfl
theorem sq0_size (b k : Nat) : (sq0 b k).size = 39 := by simp [sq0, grL_len]
theorem sq0_one (b k : Nat) : (sq0 b k).all (·.oneCell') = true := by
  rw [Array.all_eq_true_iff_forall_mem]
  intro y hy
  unfold sq0 at hy
  rw [List.mem_toArray, List.mem_append, List.mem_append] at hy
  rcases hy with (hy | hy) | hy
  · simp only [List.mem_cons, List.not_mem_nil, or_false] at hy
    rcases hy with rfl | rfl | rfl | rfl | rfl <;> rfl
  · unfold grL at hy
    rw [List.mem_map] at hy
    obtain ⟨x, _, rfl⟩ := hy
    rfl
  · simp at hy
    subst hy
    rfl
theorem sq0_at (b k : Nat) {j : Nat} (hj : j < 33) : (sq0 b k)[5 + j]? = (grL [])[j]? := by
  have hl := grL_len (ids := []) (by simp)
  simp only [sq0, List.getElem?_toArray]
  rw [List.getElem?_append_left (by simp [hl]; omega), List.getElem?_append_right (by simp)]
  simp
theorem sq0_gr (b k : Nat) : Gq (sq0 b k) 5 [] := by
  have hl := padI_len (ids := []) (by simp)
  refine ⟨fun j hj => ?_, ?_, by simp⟩
  · rw [sq0_at b k (by omega)]
    simp [grL, List.getElem?_append_left (show j < ((padI []).map (Value.int .i64)).length by simp [hl]; omega), List.getElem?_eq_getElem (show j < (padI []).length by omega)]
  · rw [sq0_at b k (by omega)]
    simp [grL, hl]
theorem sq0_38 (b k : Nat) : (sq0 b k)[38]? = some (.int .i64 (-1)) := by
  have hl := grL_len (ids := []) (by simp)
  simp only [sq0, List.getElem?_toArray]
  rw [List.getElem?_append_right (by simp [hl])]
  simp [hl]
/-- Its cells set one by one. -/
theorem sq0_f (s : Sh) : SqF (((( sq0 s.b s.k).setIfInBounds 2 (.int .i64 s.cur)).setIfInBounds 3 (.int .i64 s.cch)).setIfInBounds 4 (.pointer (some ⟨s.q, 0, none⟩))) s [] (-1) := by
  have hs := sq0_size s.b s.k
  have e : ∀ i, i ≠ 2 → i ≠ 3 → i ≠ 4 → ((((sq0 s.b s.k).setIfInBounds 2 (.int .i64 s.cur)).setIfInBounds 3 (.int .i64 s.cch)).setIfInBounds 4 (.pointer (some ⟨s.q, 0, none⟩)))[i]? = (sq0 s.b s.k)[i]? := fun i h2 h3 h4 => by
    rw [Array.getElem?_setIfInBounds_ne (Ne.symm h4), Array.getElem?_setIfInBounds_ne (Ne.symm h3), Array.getElem?_setIfInBounds_ne (Ne.symm h2)]
  refine ⟨by simpa using hs, (e 0 (by omega) (by omega) (by omega)).trans rfl, (e 1 (by omega) (by omega) (by omega)).trans rfl, ?_, ?_, ?_, ⟨fun j hj => ?_, ?_, by simp⟩, (e 38 (by omega) (by omega) (by omega)).trans (sq0_38 _ _)⟩
  · rw [Array.getElem?_setIfInBounds_ne (by omega), Array.getElem?_setIfInBounds_ne (by omega), Array.getElem?_setIfInBounds_self_of_lt (by omega)]
  · rw [Array.getElem?_setIfInBounds_ne (by omega), Array.getElem?_setIfInBounds_self_of_lt (by simp; omega)]
  · rw [Array.getElem?_setIfInBounds_self_of_lt (by simp; omega)]
  · rw [e _ (by omega) (by omega) (by omega)]
    exact (sq0_gr _ _).nth j hj
  · rw [e _ (by omega) (by omega) (by omega)]
    exact (sq0_gr _ _).n

/-- A sequencer that is being made. -/
structure Nw (R : Rest) (W0 w : World) (b p : Nat) (cs : Array Value) (xs : List Int) (st : Int) : Prop where
  mv : Mv (R.and p cs 216) W0 w b xs st
  low : W0.heap.size ≤ p
  np : ∀ k, R.prot k → k < p
theorem Mv.prot_lt {R : Rest} {W0 W : World} {b : Nat} {xs : List Int} {st : Int} (h : Mv R W0 W b xs st) {k : Nat} (hk : R.prot k) : k < W.heap.size := by
  obtain ⟨v, _, _, _, _, h6⟩ := h
  exact (h6.1 k hk).1
section
variable {R : Rest} {W0 W w w' : World} {b p q k : Nat} {cs : Array Value} {xs : List Int} {st : Int}
theorem Nw.start (h : Mv R W0 W b xs st) (cs : Array Value) : Nw R W0 (W.alloc (.cells cs 216)) b W.heap.size cs xs st := by
  have hb : Below W.heap.size W (W.alloc (.cells cs 216)) := balloc (Below.refl _ _) _
  have h2 := h.keep hb
  refine ⟨h2.turn (S := fun _ => False) (Frm.refl _ _) (fun _ _ _ h => h.elim) ?_ ⟨h2.inv, obj_new _ _⟩, h.below.size, fun k hk => h.prot_lt hk⟩
  rintro g (hg | rfl)
  · exact .inl hg
  · exact .inr ⟨_, _, _, obj_new _ _, by decide, by decide⟩
theorem Nw.blk (h : Nw R W0 w b p cs xs st) : Blk w p cs 216 := h.mv.inv.2
theorem Nw.keep (h : Nw R W0 w b p cs xs st) (hb : Below w.heap.size w w') : Nw R W0 w' b p cs xs st := ⟨h.mv.keep hb, h.low, h.np⟩
theorem Nw.set (h : Nw R W0 w b p cs xs st) (i : Nat) (v : Value) : Nw R W0 (w.setCell ⟨p, i, none⟩ v) b p (cs.setIfInBounds i v) xs st := by
  have hp := h.blk
  have hf : Frm (fun k => k = p) w (w.setCell ⟨p, i, none⟩ v) := (Frm.refl (fun k => k = p) w).setCell (p := ⟨p, i, none⟩) rfl v
  obtain ⟨r, ha, _⟩ := id h.mv
  refine ⟨h.mv.turn hf (fun g o ho e => ?_) (fun g hg => .inl hg) ⟨?_, obj_setCell _ hp⟩, h.low, h.np⟩
  · subst e
    rw [hp] at ho
    cases ho
    exact ⟨h.low, obj_ne hp ha.1 (by decide), fun c e => by injection e with _ e2 _; exact absurd e2 (by decide)⟩
  · exact R.ok _ _ h.mv.inv.1 fun k hk => hf.block k (Nat.lt_trans (h.np k hk) (lt_of_block hp)) (by have := h.np k hk; omega)
/-- Its buffer's place is set: it is made. -/
theorem Nw.done {f : Nat} (h : Av (R.and p cs 216) W0 w b q f k xs st) (hlow : W0.heap.size ≤ p) (hnp : ∀ k, R.prot k → k < p) {s : Sh} (hs : s = ⟨p, b, q, f, k, 0, 1⟩) (hq : SqF (cs.setIfInBounds 4 (.pointer (some ⟨q, 0, none⟩))) s [] (-1)) :
    Ms R W0 (w.setCell ⟨p, 4, none⟩ (.pointer (some ⟨q, 0, none⟩))) s [] (-1) xs st := by
  subst hs
  have hp := h.inv.2
  have hf : Frm (fun k => k = p) w (w.setCell ⟨p, 4, none⟩ (.pointer (some ⟨q, 0, none⟩))) := (Frm.refl (fun k => k = p) w).setCell (p := ⟨p, 4, none⟩) rfl _
  obtain ⟨r, ha, hb, _⟩ := id h
  refine ⟨_, hq, hlow, fun e => Nat.lt_irrefl _ (hnp _ e), h.turn hf (fun g o ho e => ?_) (fun g hg => .inl hg) ⟨?_, obj_setCell _ hp⟩⟩
  · subst e
    rw [hp] at ho
    cases ho
    exact ⟨hlow, obj_ne hp ha.1 (by decide), obj_ne hp hb.1 (by decide), fun c e => by injection e with _ e2 _; exact absurd e2 (by decide)⟩
  · exact R.ok _ _ h.inv.1 fun k hk => hf.block k (Nat.lt_trans (hnp k hk) (lt_of_block hp)) (by have := hnp k hk; omega)
end

theorem Mv.with {R : Rest} {W0 W : World} {b : Nat} {xs : List Int} {st : Int} (h : Mv R W0 W b xs st) {g : Nat} {gs : Array Value} {T : TypeId} (hg : Blk W g gs T) (t1 : T ≠ 194) (t2 : 2 ≠ T) : Mv (R.and g gs T) W0 W b xs st := by
  refine h.turn (S := fun _ => False) (Frm.refl _ _) (fun _ _ _ h => h.elim) ?_ ⟨h.inv, hg⟩
  rintro k (e | rfl)
  · exact .inl e
  · exact .inr ⟨_, _, _, hg, t1, t2⟩

set_option maxHeartbeats 2000000 in
set_option maxRecDepth 100000 in
theorem mnew_ok {R : Rest} {W0 W : World} {b : Nat} {st : Int} (h : Mv R W0 W b [] st) (k n : Nat) (hk : k ≤ 20) (hn : (n : Int) = two k) :
    Calls Try.prog 71 #[.pointer (some ⟨b, 0, none⟩), .int .i64 (two k)] W fun e w' => ∃ s : Sh, e = .returned (.tuple #[.pointer (some ⟨s.p, 0, none⟩), .nilIface]) ∧ s.b = b ∧ s.k = k ∧ Lv R W0 w' s (-1) (-1) (List.replicate n (-1)) [] (-1) st := by
  have HM := Lib.hid h
  have HN := Lib.hid hn
  have t1 := two_le hk
  have t2 := two_pos k
  have hsz := sq0_size b k
  have HBU := Lib.hid (built_sq0 b k)
  have HQF : Hid (∀ p q : Nat, SqF ((((sq0 b k).setIfInBounds 2 (.int .i64 0)).setIfInBounds 3 (.int .i64 1)).setIfInBounds 4 (.pointer (some ⟨q, 0, none⟩))) ⟨p, b, q, 2, k, 0, 1⟩ [] (-1)) := fun p q => sq0_f ⟨p, b, q, 2, k, 0, 1⟩
  have HC : Hid ((sq0 b k)[2]? = some (.int .i64 0) ∧ (sq0 b k)[3]? = some (.int .i64 0) ∧ (sq0 b k)[4]? = some (.pointer none)) := ⟨rfl, rfl, rfl⟩
  have HLEN : Hid (∀ R w, Mv R W0 w b [] st → Calls Try.prog 29 #[.pointer (some ⟨b, 0, none⟩)] w fun e w' => e = .returned (.int .i64 0) ∧ w = w') := fun R w h => len_mv h
  have HA1 : Hid (∀ (R : Rest) w p cs, Nw R W0 w b p cs [] st → Calls Try.prog 78 #[.pointer (some ⟨b, 0, none⟩), .int .i64 (-1)] w fun e w' => e = .returned (.tuple #[.int .i64 0, .nilIface]) ∧ Nw R W0 w' b p cs [-1] st) :=
    fun R w p cs h => (alloc_mv (-1) h.mv (by decide)).mono fun e w' k => ⟨k.1, ⟨k.2, h.low, h.np⟩⟩
  have HA2 : Hid (∀ (R : Rest) w p cs, Nw R W0 w b p cs [-1] st → Calls Try.prog 78 #[.pointer (some ⟨b, 0, none⟩), .int .i64 (-1)] w fun e w' => e = .returned (.tuple #[.int .i64 1, .nilIface]) ∧ Nw R W0 w' b p cs [-1, -1] st) :=
    fun R w p cs h => (alloc_mv (-1) h.mv (by decide)).mono fun e w' k => ⟨k.1, ⟨k.2, h.low, h.np⟩⟩
  have HA3 : Hid (∀ (R : Rest) w, Mv R W0 w b [-1, -1] st → Calls Try.prog 63 #[.pointer (some ⟨b, 0, none⟩), .agg #[.int .u8 k]] w fun e w' => ∃ q, e = .returned (.tuple #[.pointer (some ⟨q, 0, none⟩), .nilIface]) ∧ Av R W0 w' b q 2 k ([-1, -1] ++ List.replicate n (-1)) st) :=
    fun R w h => (anew_ok h k n hk hn (by simp; omega)).mono fun e w' ⟨q, h1, h2, _⟩ => ⟨q, h1, h2⟩
  have d1 : decide (2097152 < two k + 2) = false := decide_eq_false (by omega)
  clear h hn hsz
  generalize sq0 b k = cs at *
  go_enter Try.func71, Try.ntmps71
  go_wp2_with (first
    | (go_at_call 62; refine (of_yes k hk _).mono ?_; rintro e w1 ⟨rfl, hb⟩; have HM1 := Lib.hid (Mv.with (HM.out.keep (balloc hb (.cells #[.int .u8 k] 106))) (obj_new _ _) (by decide) (by decide)); clear hb)
    | (go_at_call 29; refine (HLEN.out _ _ HM1.out).mono ?_; rintro e w' ⟨rfl, rfl⟩; have cz := (obj_cell HM1.out.inv.2 0); generalize w1.alloc (.cells #[.int .u8 k] 106) = w2 at *; generalize w1.heap.size = sb at *)
    | (refine wpList_build3 rfl 216 0 1 6 (.tmp 33) (.tmp 34) (.const (.int .i64 (-1))) rfl _ _ _ rfl rfl rfl cs ?_ ?_; exact HBU.out)
    | (go_at_call 78; have N1 := Lib.hid (Nw.start HM1.out cs); generalize w2.alloc (.cells cs 216) = w3 at *; generalize w2.heap.size = p at *; refine (HA1.out _ _ _ _ N1.out).mono ?_; rintro e w4 ⟨rfl, hn⟩; have N2 := Lib.hid hn; have c2 := (obj_cell hn.blk 2).trans HC.out.1; have f2 := obj_free hn.blk 2; have N3 := Lib.hid (hn.set 2 (.int .i64 0)); clear hn cz)
    | (go_at_call 78; refine (HA2.out _ _ _ _ N3.out).mono ?_; rintro e w5 ⟨rfl, hn⟩; have N4 := Lib.hid hn; have c3 := (obj_cell hn.blk 3).trans ((Array.getElem?_setIfInBounds_ne (by omega)).trans HC.out.2.1); have f3 := obj_free hn.blk 3; have N5 := Lib.hid (hn.set 3 (.int .i64 1)); have cz := (obj_cell N5.out.mv.inv.1.2 0); clear hn c2 f2)
    | (go_at_call 63; refine (HA3.out _ _ N5.out.mv).mono ?_; rintro e w6 ⟨q, rfl, hv⟩; have V6 := Lib.hid hv; have c4 := (obj_cell hv.inv.2 4).trans ((Array.getElem?_setIfInBounds_ne (by omega)).trans ((Array.getElem?_setIfInBounds_ne (by omega)).trans HC.out.2.2)); have f4 := obj_free hv.inv.2 4; clear hv c3 f3 cz))
  go_ret2
  have hms := Nw.done V6.out N1.out.low N1.out.np (s := ⟨p, b, q, 2, k, 0, 1⟩) rfl (HQF.out p q)
  exact ⟨⟨p, b, q, 2, k, 0, 1⟩, rfl, rfl, rfl, by simpa [mk, idsN] using hms.drop, by simp; exact HN.out, rfl, rfl, rfl, Int.le_refl _, Int.le_refl _⟩
end Go.Proofs.Ytjadapjjilegnaa
namespace Go.Proofs.Ytjadapjjilegnaa
open Go.RowKit

theorem mk_show (c sn : Int) (sh gv : List Int) (k : Nat) (hk : (sh.length : Int) = two k) (lo : Int) (m : Nat) : showN (mk c sn sh gv) 2 k lo m = mk c sn (showN sh 0 k lo m) gv := by
  induction m with
  | zero => rfl
  | succ m ih =>
    obtain ⟨i, hi, hil⟩ := mod_nat k (lo + m)
    rw [showN, showN, ih, hi]
    simp only [Int.toNat_natCast, Nat.zero_add]
    exact mk_set_sh c sn _ _ gv (by rw [showN_len]; omega)
theorem mk_shown (c sn : Int) (sh gv : List Int) (k : Nat) (hk : (sh.length : Int) = two k) (x : Int) : shownB (mk c sn sh gv) 2 k x = shownB sh 0 k x := by
  obtain ⟨i, hi, hil⟩ := mod_nat k x
  unfold shownB
  rw [hi]
  simp only [Int.toNat_natCast, Nat.zero_add]
  rw [getD_of (mk_sh c sn sh gv (by omega))]
theorem mk_shownF (c sn : Int) (sh gv : List Int) (k : Nat) (hk : (sh.length : Int) = two k) : shownB (mk c sn sh gv) 2 k = shownB sh 0 k := funext fun x => mk_shown c sn sh gv k hk x

section
variable {R : Rest} {W0 W w : World} {s : Sh} {c sn sw st : Int} {sh gv : List Int}
theorem Lv.with (h : Lv R W0 W s c sn sh gv sw st) {st' : Int} (hm : Ms R W0 w s (idsN sh.length gv.length) sw (mk c sn sh gv) st') : Lv R W0 w s c sn sh gv sw st' := ⟨hm, h.n, h.cur, h.cch, h.f, h.c1, h.swc⟩
theorem Lv.cc (h : Lv R W0 W s c sn sh gv sw st) : (mk c sn sh gv)[s.cur]? = some c := by rw [h.cur]; rfl
theorem Lv.fl (h : Lv R W0 W s c sn sh gv sw st) : (s.f : Int) + two s.k ≤ ((mk c sn sh gv).length : Int) := by
  rw [h.f, mk_len, ← h.n]
  omega

theorem lclaimed (h : Lv R W0 W s c sn sh gv sw st) (h0 : 0 ≤ st) (h1 : st < 1152921504606846976) :
    Calls Try.prog 82 #[.pointer (some ⟨s.p, 0, none⟩)] W fun e w' => e = .returned (.int .i64 c) ∧ Lv R W0 w' s c sn sh gv sw (st + 1) :=
  (mclaimed_some h.ms h.cc h0 (by omega)).mono fun _ _ ⟨he, hm⟩ => ⟨he, h.with hm⟩
theorem lremaining (h : Lv R W0 W s c sn sh gv sw st) (hc2 : c ≤ 4611686018427387904) (h0 : 0 ≤ st) (h1 : st < 1152921504606846976) :
    Calls Try.prog 81 #[.pointer (some ⟨s.p, 0, none⟩)] W fun e w' => e = .returned (.tuple #[.int .i64 (remP (two s.k) c gv), .nilIface]) ∧ ∃ st', st ≤ st' ∧ st' ≤ st + 33 ∧ Lv R W0 w' s c sn sh gv sw st' := by
  refine (mremaining h.ms h.hin h.cc h.c1 hc2 h0 h1).mono ?_
  rintro e w' ⟨he, hm⟩
  rw [vals_mk] at he
  have := h.g32
  rw [idsN_len] at hm
  exact ⟨he, _, by omega, by omega, h.with hm⟩
theorem lhigh (h : Lv R W0 W s c sn sh gv sw st) (lo : Int) (hl0 : 0 ≤ lo) (hl1 : lo ≤ 4611686018427387904) (hc2 : c ≤ 4611686018427387904) (h0 : 0 ≤ st) (h1 : st < 1152921504606846976) :
    Calls Try.prog 83 #[.pointer (some ⟨s.p, 0, none⟩), .int .i64 lo] W fun e w' => ∃ j : Nat, RunTo (shownB sh 0 s.k) lo c j ∧ e = .returned (.tuple #[.int .i64 (lo + j - 1), .nilIface]) ∧ ∃ st', st ≤ st' ∧ st' ≤ st + 1048578 ∧ Lv R W0 w' s c sn sh gv sw st' := by
  refine (mhigh_ok h.ms h.cc lo hl0 hl1 h.c1 hc2 h.fl h0 h1).mono ?_
  rintro e w' ⟨j, st', hr, he, hm, a1, a2⟩
  rw [h.f, mk_shownF c sn sh gv s.k h.n] at hr
  exact ⟨j, hr, he, st', a1, a2, h.with hm⟩
theorem lpub (h : Lv R W0 W s c sn sh gv sw st) (lo hi : Int) (hl0 : 0 ≤ lo) (hlh : lo ≤ hi) (hd : hi - lo < two s.k) (hc : hi ≤ c) (hc2 : c ≤ 4611686018427387904) (m : Nat) (hmm : hi - lo + 1 = m) (h0 : 0 ≤ st) (h1 : st < 1152921504606846976) :
    Calls Try.prog 76 #[.pointer (some ⟨s.p, 0, none⟩), .int .i64 lo, .int .i64 hi] W fun e w' => e = .returned .nilIface ∧ Lv R W0 w' s c sn (showN sh 0 s.k lo m) gv sw (st + m) := by
  refine (mpub_ok h.ms h.cc h.swc h.len lo hi hl0 hlh hd hc hc2 m hmm h.fl h0 h1).mono ?_
  rintro e w' ⟨he, hm⟩
  rw [h.f, mk_show c sn sh gv s.k h.n] at hm
  exact ⟨he, by rw [showN_len]; exact hm, by rw [showN_len]; exact h.n, h.cur, h.cch, h.f, h.c1, h.swc⟩
theorem lpub_bad (h : Lv R W0 W s c sn sh gv sw st) (lo hi : Int) (hlo : -9223372036854775808 ≤ lo ∧ lo ≤ 9223372036854775807) (hhi : -9223372036854775808 ≤ hi ∧ hi ≤ 9223372036854775807) (h0 : 0 ≤ st) (h1 : st < 1152921504606846976) (hb : lo < 0 ∨ hi < lo ∨ two s.k ≤ hi - lo ∨ c < hi) :
    Calls Try.prog 76 #[.pointer (some ⟨s.p, 0, none⟩), .int .i64 lo, .int .i64 hi] W fun e w' => ∃ E, e = .returned E ∧ Refused W w' E 1 :=
  mpub_bad h.ms h.cc h.swc h.len lo hi hlo hhi h0 h1 hb
theorem lseen (h : Lv R W0 W s c sn sh gv sw st) (h0 : 0 ≤ st) (h1 : st < 1152921504606846976) :
    Calls Try.prog 31 #[.pointer (some ⟨s.b, 0, none⟩), .int .i64 1] W fun e w' => e = .returned (.tuple #[.int .i64 sn, .nilIface]) ∧ Lv R W0 w' s c sn sh gv sw (st + 1) :=
  (load_s h.ms 1 sn rfl h0 (by omega)).mono fun _ _ ⟨he, hm⟩ => ⟨he, h.with hm⟩
/-- One who holds back is done with more. -/
theorem lheld (h : Lv R W0 W s c sn sh gv sw st) (j : Nat) (hj : j < gv.length) (x : Int) (h0 : 0 ≤ st) (h1 : st < 1152921504606846976) :
    Calls Try.prog 37 #[.pointer (some ⟨s.b, 0, none⟩), .int .i64 ((sh.length + 2 + j : Nat) : Int), .int .i64 x] W fun e w' => e = .returned .nilIface ∧ Lv R W0 w' s c sn sh (gv.set j x) sw (st + 1) := by
  refine (store_s h.ms (sh.length + 2 + j) x (by rw [mk_len]; omega) h0 (by omega)).mono ?_
  rintro e w' ⟨he, hm⟩
  rw [mk_set_g] at hm
  exact ⟨he, by rw [List.length_set]; exact hm, h.n, h.cur, h.cch, h.f, h.c1, h.swc⟩
/-- A new cell, not yet one that holds back. -/
structure Lh (R : Rest) (W0 W : World) (s : Sh) (c sn : Int) (sh gv : List Int) (x sw st : Int) : Prop where
  lh ::
  ms : Ms R W0 W s (idsN sh.length gv.length) sw (mk c sn sh (gv ++ [x])) st
  n : (sh.length : Int) = two s.k
  cur : s.cur = 0
  cch : s.cch = 1
  f : s.f = 2
  c1 : -1 ≤ c
  swc : sw ≤ c
theorem lalloc (h : Lv R W0 W s c sn sh gv sw st) (x : Int) :
    Calls Try.prog 78 #[.pointer (some ⟨s.b, 0, none⟩), .int .i64 x] W fun e w' => e = .returned (.tuple #[.int .i64 ((sh.length + 2 + gv.length : Nat) : Int), .nilIface]) ∧ Lh R W0 w' s c sn sh gv x sw st := by
  refine (alloc_s h.ms x (by have := h.g32; have := two_le h.ms.k20; have := h.n; rw [mk_len]; omega)).mono ?_
  rintro e w' ⟨he, hm⟩
  rw [mk_app] at hm
  rw [mk_len, show sh.length + gv.length + 2 = sh.length + 2 + gv.length by omega] at he
  exact ⟨he, hm, h.n, h.cur, h.cch, h.f, h.c1, h.swc⟩
theorem ladd {x : Int} (h : Lh R W0 W s c sn sh gv x sw st) (hg : gv.length < 32) :
    Calls Try.prog 80 #[.pointer (some ⟨s.p, 5, none⟩), .int .i64 ((sh.length + 2 + gv.length : Nat) : Int)] W fun e w' => e = .returned .nilIface ∧ Lv R W0 w' s c sn sh (gv ++ [x]) sw st := by
  have hk := two_le h.ms.k20
  have hn := h.n
  refine (gadd_s h.ms _ (by omega) (by omega) (idsN_not _ _) (by rw [idsN_len]; exact hg)).mono ?_
  rintro e w' ⟨he, hm⟩
  rw [← idsN_succ] at hm
  exact ⟨he, by simpa using hm, h.n, h.cur, h.cch, h.f, h.c1, h.swc⟩
theorem Lv.less {R' : Rest} (h : Lv R W0 W s c sn sh gv sw st) (hp : ∀ g, R'.prot g → R.prot g) (hi : R'.inv W) : Lv R' W0 W s c sn sh gv sw st := ⟨h.ms.less hp hi, h.n, h.cur, h.cch, h.f, h.c1, h.swc⟩
theorem Lv.below (h : Lv R W0 W s c sn sh gv sw st) : Below W0.heap.size W0 W := h.ms.below
end

theorem run_ex10 : RunTo (shownB (showN [-1, -1, -1, -1] 0 2 1 1) 0 2) 0 1 0 := ⟨fun i hi => by omega, fun _ => by decide, Or.inl rfl⟩
theorem run_ex11 : RunTo (shownB (showN (showN [-1, -1, -1, -1] 0 2 1 1) 0 2 0 1) 0 2) 0 1 2 := by
  refine ⟨fun i hi => ?_, fun h => by omega, Or.inr (by decide)⟩
  have : i = 0 ∨ i = 1 := by omega
  rcases this with rfl | rfl <;> decide
theorem ok_ex (c : Int) : okP 4 c (-1) 1 [] := .inr (by simp [leastP]; omega)

set_option maxHeartbeats 2000000 in
set_option maxRecDepth 100000 in
theorem awake10 (W : World) : Calls Try.prog 70 #[] W fun e w' => e = .returned (.bool true) ∧ Below W.heap.size W w' := by
  have HNEW : Hid (∀ w, Mine W w W.heap.size [] 0 → Calls Try.prog 71 #[.pointer (some ⟨W.heap.size, 0, none⟩), .int .i64 4] w fun e w' => ∃ s : Sh, e = .returned (.tuple #[.pointer (some ⟨s.p, 0, none⟩), .nilIface]) ∧ s.k = 2 ∧ Lv R0 W w' s (-1) (-1) [-1, -1, -1, -1] [] (-1) 0) :=
    fun w h => (mnew_ok (Mv.of_mine h) 2 4 (by decide) rfl).mono fun e w' ⟨s, h1, _, h3, h4⟩ => ⟨s, h1, h3, h4⟩
  have HCL : Hid (∀ (w : World) (s : Sh) (c sn st : Int), s.k = 2 → Lv R0 W w s c sn [-1, -1, -1, -1] [] c st → c ≤ 100 → 0 ≤ st → st < 100 → okP 4 c sn 1 [] → Calls Try.prog 73 #[.pointer (some ⟨s.p, 0, none⟩), .int .i64 1] w fun e w' => e = .returned (.tuple #[.int .i64 (c + 1), .nilIface]) ∧ ∃ sn' st', st' ≤ st + 40 ∧ 0 ≤ st' ∧ Lv R0 W w' s (c + 1) sn' [-1, -1, -1, -1] [] (c + 1) st') := by
    intro w s c sn st hk h hc h0 h1 hok
    have h4 : two s.k = 4 := by rw [hk]; rfl
    refine (mClaim_run h (by omega) 1 (by decide) (by rw [h4]; decide) h0 (by omega)).mono ?_
    rintro e w' (⟨_, he, st', a1, a2, hl⟩ | ⟨hno, _⟩)
    · exact ⟨he, _, st', a2, by omega, hl⟩
    · rw [h4] at hno
      exact absurd hok hno
  have HP1 : Hid (∀ (w : World) (s : Sh) (sn st : Int), s.k = 2 → Lv R0 W w s 1 sn [-1, -1, -1, -1] [] 1 st → 0 ≤ st → st < 200 → Calls Try.prog 76 #[.pointer (some ⟨s.p, 0, none⟩), .int .i64 1, .int .i64 1] w fun e w' => e = .returned .nilIface ∧ Lv R0 W w' s 1 sn (showN [-1, -1, -1, -1] 0 2 1 1) [] 1 (st + 1)) := by
    intro w s sn st hk h h0 h1
    have h4 : two s.k = 4 := by rw [hk]; rfl
    have := lpub h 1 1 (by decide) (by decide) (by rw [h4]; decide) (by decide) (by decide) 1 (by decide) h0 (by omega)
    rw [hk] at this
    exact this
  have HP0 : Hid (∀ (w : World) (s : Sh) (sn st : Int), s.k = 2 → Lv R0 W w s 1 sn (showN [-1, -1, -1, -1] 0 2 1 1) [] 1 st → 0 ≤ st → st < 10000000 → Calls Try.prog 76 #[.pointer (some ⟨s.p, 0, none⟩), .int .i64 0, .int .i64 0] w fun e w' => e = .returned .nilIface ∧ Lv R0 W w' s 1 sn (showN (showN [-1, -1, -1, -1] 0 2 1 1) 0 2 0 1) [] 1 (st + 1)) := by
    intro w s sn st hk h h0 h1
    have h4 : two s.k = 4 := by rw [hk]; rfl
    have := lpub h 0 0 (by decide) (by decide) (by rw [h4]; decide) (by decide) (by decide) 1 (by decide) h0 (by omega)
    rw [hk] at this
    exact this
  have HH : Hid (∀ (w : World) (s : Sh) (sn st : Int) (sh : List Int) (x : Nat), s.k = 2 → Lv R0 W w s 1 sn sh [] 1 st → RunTo (shownB sh 0 2) 0 1 x → 0 ≤ st → st < 10000000 → Calls Try.prog 83 #[.pointer (some ⟨s.p, 0, none⟩), .int .i64 0] w fun e w' => e = .returned (.tuple #[.int .i64 (0 + (x : Int) - 1), .nilIface]) ∧ ∃ st', 0 ≤ st' ∧ st' ≤ st + 1048578 ∧ Lv R0 W w' s 1 sn sh [] 1 st') := by
    intro w s sn st sh x hk h hr h0 h1
    refine (lhigh h 0 (by decide) (by decide) (by decide) h0 (by omega)).mono ?_
    rintro e w' ⟨j, hr2, he, st', a1, a2, hl⟩
    rw [hk] at hr2
    obtain rfl : j = x := hr2.unique hr fun _ _ _ => rfl
    exact ⟨he, st', by omega, a2, hl⟩
  go_enter Try.func70, Try.ntmps70
  go_wp2_with (first
    | (go_at_call 33; refine (new_m _).mono ?_; rintro e w1 ⟨rfl, hm⟩; have HM1 := Lib.hid hm; clear hm)
    | (go_at_call 71; refine (HNEW.out _ HM1.out).mono ?_; rintro e w2 ⟨s, rfl, hk, hl⟩; have HK := Lib.hid hk; have L2 := Lib.hid hl; clear hk hl HM1)
    | (go_at_call 73; refine (HCL.out _ s 0 _ _ HK.out L3.out (by decide) b1 (by omega) (.inr (by decide))).mono ?_; rintro e w4 ⟨rfl, sn4, st4, a4, b4, hl⟩; have L4 := Lib.hid hl; clear hl)
    | (go_at_call 73; refine (HCL.out _ s (-1) _ _ HK.out L2.out (by decide) (by decide) (by decide) (ok_ex _)).mono ?_; rintro e w3 ⟨rfl, sn3, st3, a3, b1, hl⟩; have L3 := Lib.hid hl; clear hl)
    | (go_at_call_of 76 (Value.int .i64 1); refine (HP1.out _ s _ _ HK.out L4.out b4 (by omega)).mono ?_; rintro e w5 ⟨rfl, hl⟩; have L5 := Lib.hid hl; clear hl)
    | (go_at_call_of 76 (Value.int .i64 0); refine (HP0.out _ s _ _ HK.out L6.out b6 (by omega)).mono ?_; rintro e w7 ⟨rfl, hl⟩; have L7 := Lib.hid hl; clear hl)
    | (go_at_call 83; refine (HH.out _ s _ _ _ 2 HK.out L7.out run_ex11 (by omega) (by omega)).mono ?_; rintro e w8 ⟨rfl, st8, b8, a8, hl⟩; have L8 := Lib.hid hl; clear hl)
    | (go_at_call 83; refine (HH.out _ s _ _ _ 0 HK.out L5.out run_ex10 (by omega) (by omega)).mono ?_; rintro e w6 ⟨rfl, st6, b6, a6, hl⟩; have L6 := Lib.hid hl; clear hl))
  go_ret
  exact ⟨rfl, L8.out.below⟩
end Go.Proofs.Ytjadapjjilegnaa
namespace Go.Proofs.Ytjadapjjilegnaa
open Go.RowKit

theorem pow_of_bad (n : Int) (hw : -9223372036854775808 ≤ n) (hno : ∀ k, k ≤ 20 → n ≠ two k) (w : World) :
    Calls Try.prog 62 #[.int .i64 n] w fun e w' => ∃ F, e = .returned (.tuple #[.agg #[.int .u8 0], F]) ∧ Chain w' F 1 7 ∧ Below w.heap.size w w' := by
  by_cases h : 1048576 < n
  · exact of_great n h w
  · exact of_other n hw (by omega) hno w
set_option maxHeartbeats 1000000 in
theorem mnew_bad (b : Nat) (n : Int) (hw : -9223372036854775808 ≤ n) (hno : ∀ k, k ≤ 20 → n ≠ two k) (W : World) :
    Calls Try.prog 71 #[.pointer (some ⟨b, 0, none⟩), .int .i64 n] W fun e w' => ∃ q, e = .returned (.tuple #[.pointer none, .iface 241 (.pointer (some ⟨q, 0, none⟩))]) ∧ Chain w' (.iface 241 (.pointer (some ⟨q, 0, none⟩))) 2 7 ∧ Below W.heap.size W w' := by
  have HOF := Lib.hid (pow_of_bad n hw hno)
  clear hno
  go_enter Try.func71, Try.ntmps71
  go_wp2_with (first
    | (go_at_call 62; refine (HOF.out _).mono ?_; rintro e w1 ⟨F, rfl, hc, hb⟩; have hbx : Below W.heap.size W (w1.alloc (.cells #[.int .u8 0] 106)) := balloc hb _; have HB := Lib.hid hbx; have HC := Lib.hid (hc.keep (balloc (Below.refl _ _) (.cells #[.int .u8 0] 106))); obtain ⟨u, v, rfl⟩ := hc.iface; clear hc hb hbx)
    | (go_at_call 115; refine (wrap_deep _ _ HC.out).mono ?_; rintro e w2 ⟨q, rfl, hc, hb⟩; have HC2 := Lib.hid hc; have HB2 := Lib.hid (bthen HB.out hb); clear hc hb))
  go_ret2
  exact ⟨q, rfl, HC2.out, HB2.out⟩

/-- Errors that were there. -/
def RC (X : World) : Rest := ⟨fun k => ∃ c m, X.heap[k]? = some (Obj.cells c 243 m), fun w => ∀ k c m, X.heap[k]? = some (Obj.cells c 243 m) → w.heap[k]? = some (Obj.cells c 243 m), fun w w' h hk k c m e => by rw [hk k ⟨c, m, e⟩]; exact h k c m e⟩
theorem rc_chain {X w : World} (h : (RC X).inv w) {E : Value} {d : Nat} {n : Int} (hc : Chain X E d n) : Chain w E d n := by
  induction hc with
  | num n => exact .num n
  | fault q op seq E d n h0 _ ih => exact .fault q op seq E d n (h _ _ _ h0) ih
theorem Mv.chains {R : Rest} {W0 W : World} {b : Nat} {xs : List Int} {st : Int} (h : Mv R W0 W b xs st) : Mv (RC W) W0 W b xs st := by
  refine h.turn (S := fun _ => False) (Frm.refl _ _) (fun _ _ _ h => h.elim) ?_ (fun _ _ _ e => e)
  rintro g ⟨c, m, hc⟩
  exact .inr ⟨c, _, m, hc, by decide, by decide⟩

/-- Behind a world X: errors by their numbers. -/
def Es (X w : World) (l : List (Value × Nat × Int)) : Prop := Below X.heap.size X w ∧ ∀ x ∈ l, Chain w x.1 x.2.1 x.2.2
theorem Es.keep {X w w' : World} {l : List (Value × Nat × Int)} (h : Es X w l) (hb : Below w.heap.size w w') : Es X w' l := ⟨bthen h.1 hb, fun x hx => (h.2 x hx).keep hb⟩
theorem Es.cons {X w w' : World} {l : List (Value × Nat × Int)} (h : Es X w l) (hb : Below w.heap.size w w') {E : Value} {d : Nat} {n : Int} (hc : Chain w' E d n) : Es X w' ((E, d, n) :: l) :=
  ⟨bthen h.1 hb, fun x hx => by
    rcases List.mem_cons.1 hx with rfl | hx
    · exact hc
    · exact (h.2 x hx).keep hb⟩
theorem Refused.q {W w : World} {E : Value} {n : Int} (h : Refused W w E n) : ∃ q, E = .iface 241 (.pointer (some ⟨q, 0, none⟩)) ∧ Chain w E 1 n ∧ Below W.heap.size W w := h
end Go.Proofs.Ytjadapjjilegnaa
