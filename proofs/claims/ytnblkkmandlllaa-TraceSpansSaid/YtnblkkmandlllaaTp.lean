/-
  picked of package trace, whatever it is asked by, and what is built on it: Of, did. Condition: whoever asks answers by a note's numbers, and makes memory alone.
-/
import Derived.Test.YtnblkkmandlllaaTn
namespace Go.Proofs.Ytnblkkmandlllaa
open Go.RowKit Go.Shelf
set_option linter.unusedVariables false
set_option linter.unusedSimpArgs false

/-- Who asks of a note. -/
def Asks (g : Nat) (cb : Array Value) (f : Nt → Bool) (w : World) : Prop :=
  ∀ (W : World) (x : Nt), x.wf → Below w.heap.size w W → Calls Try.prog g (#[.agg x.cs.toArray] ++ cb) W fun e w' => e = .returned (.bool (f x)) ∧ Below W.heap.size W w'

set_option maxRecDepth 100000 in
set_option maxHeartbeats 2000000 in
theorem tpicked {W : World} {v : Value} {l : List Nt} {g : Nat} {cb : Array Value} {f : Nt → Bool} (hl : NtsAt W v l) (h120 : l.length ≤ 1000) (eg : ∀ args w, (callFunc g args).run Try.prog w = .ok (.enter g args) w) (ha : Asks g cb f W) :
    Calls Try.prog 30 #[v, .func (.func g) #[] cb] W fun e w' => ∃ v', e = .returned v' ∧ NtsOwn W.heap.size w' v' (l.filter f) ∧ Below W.heap.size W w' := by
  obtain ⟨i0, hi, hz0, hz1, hz2⟩ := info_parts infoNt
  have HL := Lib.hid hl
  have HA := Lib.hid ha
  obtain ⟨p, c, rfl, hc, hm⟩ := hl.form
  clear hl ha
  go_enter Try.func30, Try.ntmps30
  go_wp2_with fail
  go_loopw [5, 10] (fun ov iv wl => ∃ k : Nat, k ≤ l.length ∧ iv = .int .i64 k ∧ Hid (NtsOwn W.heap.size wl ov ((l.take k).filter f) ∧ Below W.heap.size W wl)) (fun _ iv _ => l.length - (intOf iv).toNat)
  case atStart => exact ⟨0, Nat.zero_le _, rfl, Lib.hid ⟨NtsOwn.nil _ _, Below.refl _ _⟩⟩
  case round =>
    obtain ⟨k, hk, rfl, HJ⟩ := hrel
    by_cases hlt : k < l.length
    · obtain ⟨b, off, x, rfl, hx, hb, hwf, ⟨c0, c1, c2, c3, c4, c5, c6, c7⟩⟩ := (HL.out.keep HJ.out.2).at_ hlt
      have HX := Lib.hid hx
      have HW := Lib.hid hwf
      have HB := Lib.hid hb
      clear hx hwf hb
      go_wp2_with fail
      refine (HA.out _ x HW.out (HJ.out.2.alloc HJ.out.2.size _)).mono ?_
      rintro e w1 ⟨rfl, hb1⟩
      have HN : Hid (NtsOwn W.heap.size w1 u5 ((l.take k).filter f) ∧ Below W.heap.size W w1) := Lib.hid ⟨(HJ.out.1.keep ((Below.refl _ _).alloc (Nat.le_refl _) _)).keep hb1, (HJ.out.2.alloc HJ.out.2.size _).trans (hb1.mono (by have := HJ.out.2.size; simp; omega))⟩
      have d0 : w1.cell? ⟨wr.heap.size, 0, none⟩ = some (.int .i64 x.who) := keepc hb1 (by simp)
      have d1 : w1.cell? ⟨wr.heap.size, 1, none⟩ = some (.int .i64 x.ring) := keepc hb1 (by simp)
      have d2 : w1.cell? ⟨wr.heap.size, 2, none⟩ = some (.int .i64 x.deed) := keepc hb1 (by simp)
      have d3 : w1.cell? ⟨wr.heap.size, 3, none⟩ = some (.int .i64 x.lo) := keepc hb1 (by simp)
      have d4 : w1.cell? ⟨wr.heap.size, 4, none⟩ = some (.int .i64 x.seq) := keepc hb1 (by simp)
      have d5 : w1.cell? ⟨wr.heap.size, 5, none⟩ = some (.int .i64 x.key) := keepc hb1 (by simp)
      have d6 : w1.cell? ⟨wr.heap.size, 6, none⟩ = some (.int .i64 x.val) := keepc hb1 (by simp)
      have d7 : w1.cell? ⟨wr.heap.size, 7, none⟩ = some (.int .i64 x.code) := keepc hb1 (by simp)
      have HT : Hid (l.take (k + 1) = l.take k ++ [x]) := Lib.hid (take_snocN HX.out)
      clear hb1 c0 c1 c2 c3 c4 c5 c6 c7
      cases hf : f x with
      | true =>
        have HF := Lib.hid hf
        clear hf
        have HLL : Hid (((l.take k).filter f).length ≤ l.length) := Lib.hid (by have := List.length_filter_le f (l.take k); rw [List.length_take] at this; omega)
        go_wp2_with (at_builtin; refine wpList_append_own _ rfl _ _ 22 rfl W.heap.size 33 i0 _ 8 64 Try.underlying22 hi hz0 hz1 hz2 rfl (by decide) u5 ((l.take k).filter f).length _ rfl (HN.out.1.own.alloc _) ⟨w1.heap.size, 0, none⟩ 1 1 x.cs rfl rfl (nt_cell _ _ _) (nt_one x) (by have := HLL.out; unfold maxLen; omega) (by have := HLL.out; omega) (by have := HN.out.2.size; simp; omega) ?_; intro v' w2 hown hg hnil; have HO := Lib.hid hown; have HG := Lib.hid hg; clear hown hg hnil)
        exact ⟨⟨k + 1, by omega, by go_num, Lib.hid ⟨by rw [HT.out, filter_snocT HF.out]; exact NtsOwn.app HO.out HN.out.1.wf HW.out, Below.app HN.out.2 HN.out.2.size HN.out.1.own HG.out⟩⟩, by simp [intOf]; omega⟩
      | false =>
        have HF := Lib.hid hf
        clear hf
        go_wp2
        exact ⟨⟨k + 1, by omega, by go_num, Lib.hid ⟨by rw [HT.out, filter_snocF HF.out]; exact HN.out.1, HN.out.2⟩⟩, by simp [intOf]; omega⟩
    · obtain rfl : k = l.length := by omega
      rw [List.take_length] at HJ
      obtain ⟨po, co, rfl, -⟩ := row_form HJ.out.1.own
      go_wp2
      go_ret
      exact ⟨_, rfl, HJ.out⟩

theorem i64_box (w : World) (x : Int) (t : TypeId) : (w.alloc (.cells #[.int .i64 x] t)).cell? ⟨w.heap.size, 0, none⟩ = some (.int .i64 x) := by simp

/-- Of's closure. -/
theorem tof_clo {W : World} {who : Int} {b : Nat} (hc : W.cell? ⟨b, 0, none⟩ = some (.int .i64 who)) : Asks 31 #[.pointer (some ⟨b, 0, none⟩)] (fun x => x.who == who) W := by
  intro W1 x hx hb
  have c0 := keepc hb hc
  clear hb hc hx
  show Calls Try.prog 31 #[.agg x.cs.toArray, .pointer (some ⟨b, 0, none⟩)] W1 _
  have hlt := World.block_lt_of_cell? W1 _ c0
  simp only at hlt
  have hne : b ≠ W1.heap.size := by omega
  unfold Nt.cs
  go_enter Try.func31, Try.ntmps31
  go_wp2
  go_ret
  exact ⟨rfl, (Below.refl _ _).alloc (Nat.le_refl _) _⟩

theorem tof {W : World} {v : Value} {l : List Nt} {who : Int} (hl : NtsAt W v l) (h120 : l.length ≤ 1000) :
    Calls Try.prog 13 #[v, .int .i64 who] W fun e w' => ∃ v', e = .returned v' ∧ NtsOwn W.heap.size w' v' (l.filter fun x => x.who == who) ∧ Below W.heap.size W w' := by
  have eg : ∀ args w, (callFunc 31 args).run Try.prog w = .ok (.enter 31 args) w := enters_of Try.func31 (by kernel_rfl) rfl
  have hcon := tpicked (hl.keep ((Below.refl _ _).alloc (Nat.le_refl _) _)) h120 eg (tof_clo (i64_box W who 3))
  have HC := Lib.hid hcon
  obtain ⟨p, c, rfl, -, -⟩ := hl.form
  clear hl eg hcon
  go_enter Try.func13, Try.ntmps13
  go_wp2_with (go_at_call 30; refine HC.out.mono ?_; rintro e w1 ⟨v1, rfl, ho, hb⟩; have HO := Lib.hid ho; have HB := Lib.hid hb; obtain ⟨p1, c1, rfl, -⟩ := row_form ho.own; clear ho hb)
  go_ret
  have hB : Below W.heap.size W w1 := ((Below.refl _ _).alloc (Nat.le_refl _) _).trans (HB.out.mono (by simp))
  exact ⟨_, rfl, ⟨row_base HO.out.own (by simp), HO.out.wf⟩, hB⟩

/-- did's closure. -/
theorem tdid_clo {W : World} {d who ring : Int} {b0 b1 b2 : Nat} (h0 : W.cell? ⟨b0, 0, none⟩ = some (.int .i64 d)) (h1 : W.cell? ⟨b1, 0, none⟩ = some (.int .i64 who)) (h2 : W.cell? ⟨b2, 0, none⟩ = some (.int .i64 ring)) :
    Asks 40 #[.pointer (some ⟨b0, 0, none⟩), .pointer (some ⟨b1, 0, none⟩), .pointer (some ⟨b2, 0, none⟩)] (fun x => x.deed == d && x.who == who && x.ring == ring) W := by
  intro W1 x hx hb
  have c0 := keepc hb h0
  have c1 := keepc hb h1
  have c2 := keepc hb h2
  clear hb h0 h1 h2 hx
  show Calls Try.prog 40 #[.agg x.cs.toArray, .pointer (some ⟨b0, 0, none⟩), .pointer (some ⟨b1, 0, none⟩), .pointer (some ⟨b2, 0, none⟩)] W1 _
  have hlt0 := World.block_lt_of_cell? W1 _ c0
  have hlt1 := World.block_lt_of_cell? W1 _ c1
  have hlt2 := World.block_lt_of_cell? W1 _ c2
  simp only at hlt0 hlt1 hlt2
  have hne0 : b0 ≠ W1.heap.size := by omega
  have hne1 : b1 ≠ W1.heap.size := by omega
  have hne2 : b2 ≠ W1.heap.size := by omega
  unfold Nt.cs
  go_enter Try.func40, Try.ntmps40
  go_wp2
  all_goals go_ret
  all_goals exact ⟨by simp_all, (Below.refl _ _).alloc (Nat.le_refl _) _⟩

theorem tdid {W : World} {v : Value} {l : List Nt} {d who ring : Int} (hl : NtsAt W v l) (h120 : l.length ≤ 1000) :
    Calls Try.prog 35 #[v, .int .i64 d, .int .i64 who, .int .i64 ring] W fun e w' => ∃ v', e = .returned v' ∧ NtsOwn W.heap.size w' v' (l.filter fun x => x.deed == d && x.who == who && x.ring == ring) ∧ Below W.heap.size W w' := by
  have eg : ∀ args w, (callFunc 40 args).run Try.prog w = .ok (.enter 40 args) w := enters_of Try.func40 (by kernel_rfl) rfl
  have hb3 : Below W.heap.size W (((W.alloc (.cells #[.int .i64 d] 27)).alloc (.cells #[.int .i64 who] 3)).alloc (.cells #[.int .i64 ring] 3)) := (((Below.refl _ _).alloc (Nat.le_refl _) _).alloc (by simp) _).alloc (by simp; omega) _
  have e0 : (((W.alloc (.cells #[.int .i64 d] 27)).alloc (.cells #[.int .i64 who] 3)).alloc (.cells #[.int .i64 ring] 3)).cell? ⟨W.heap.size, 0, none⟩ = some (.int .i64 d) :=
    keepc (((Below.refl _ _).alloc (Nat.le_refl _) _).alloc (by simp) _) (i64_box W d _)
  have e1 : (((W.alloc (.cells #[.int .i64 d] 27)).alloc (.cells #[.int .i64 who] 3)).alloc (.cells #[.int .i64 ring] 3)).cell? ⟨W.heap.size + 1, 0, none⟩ = some (.int .i64 who) :=
    keepc ((Below.refl _ _).alloc (Nat.le_refl _) _) (by have := i64_box (W.alloc (.cells #[.int .i64 d] 27)) who 3; rwa [World.alloc_size] at this)
  have e2 : (((W.alloc (.cells #[.int .i64 d] 27)).alloc (.cells #[.int .i64 who] 3)).alloc (.cells #[.int .i64 ring] 3)).cell? ⟨W.heap.size + 1 + 1, 0, none⟩ = some (.int .i64 ring) := by
    have := i64_box ((W.alloc (.cells #[.int .i64 d] 27)).alloc (.cells #[.int .i64 who] 3)) ring 3; rwa [World.alloc_size, World.alloc_size] at this
  have hcon := tpicked (hl.keep hb3) h120 eg (tdid_clo (W := ((W.alloc (.cells #[.int .i64 d] 27)).alloc (.cells #[.int .i64 who] 3)).alloc (.cells #[.int .i64 ring] 3)) (b0 := W.heap.size) (b1 := W.heap.size + 1) (b2 := W.heap.size + 1 + 1) (d := d) (who := who) (ring := ring) e0 e1 e2)
  have HC := Lib.hid hcon
  have HB3 := Lib.hid hb3
  obtain ⟨p, c, rfl, -, -⟩ := hl.form
  clear hl eg hcon hb3
  go_enter Try.func35, Try.ntmps35
  go_wp2_with (go_at_call 30; refine HC.out.mono ?_; rintro e w1 ⟨v1, rfl, ho, hb⟩; have HO := Lib.hid ho; have HB := Lib.hid hb; obtain ⟨p1, c1, rfl, -⟩ := row_form ho.own; clear ho hb)
  go_ret
  have hB : Below W.heap.size W w1 := HB3.out.trans (HB.out.mono (by simp; omega))
  exact ⟨_, rfl, ⟨row_base HO.out.own (by simp; omega), HO.out.wf⟩, hB⟩
end Go.Proofs.Ytnblkkmandlllaa
