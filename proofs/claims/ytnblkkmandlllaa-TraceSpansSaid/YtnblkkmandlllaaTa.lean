/-
  At of package trace. Conditions: at most 1000 notes, and deeds.
-/
import Derived.Test.YtnblkkmandlllaaTp
import Derived.Test.YtnblkkmandlllaaTc
namespace Go.Proofs.Ytnblkkmandlllaa
open Go.RowKit Go.Shelf Go.Maps
set_option linter.unusedVariables false
set_option linter.unusedSimpArgs false

/-- What At asks of a note. -/
def atB (ring : Int) (ds : List Int) (x : Nt) : Bool := x.ring == ring && (ds.isEmpty || ds.contains x.deed)

theorem isEmpty_len (l : List Int) : l.isEmpty = decide (l.length = 0) := by cases l <;> simp

set_option maxRecDepth 100000 in
theorem tat_clo {W : World} {ring : Int} {b0 b1 bm n : Nat} {ds : List Int} (h0 : W.cell? ⟨b0, 0, none⟩ = some (.int .i64 ring)) (h1 : W.cell? ⟨b1, 0, none⟩ = some (.map (some bm))) (hm : Cnt 27 W bm n (occ ds) ds.isEmpty) (hd : ds.length ≤ 1000) :
    Asks 32 #[.pointer (some ⟨b0, 0, none⟩), .pointer (some ⟨b1, 0, none⟩)] (atB ring ds) W := by
  intro W1 x hx hb
  have c0 := keepc hb h0
  have c1 := keepc hb h1
  have hm1 := hm.keep hb hm.lt
  have hlook : ∀ cs : Array Value, (Instr.lookup 63 (.map (some bm)) (.int .i64 x.deed) false).run Try.prog (W1.alloc (.cells cs 33)) = .ok (.int .i64 (occ ds x.deed)) (W1.alloc (.cells cs 33)) :=
    fun cs => (hm1.keep ((Below.refl W1.heap.size W1).alloc (Nat.le_refl _) _) hm1.lt).look Try.underlying27 Try.underlying63 hx.deed
  obtain ⟨m, hlen0, hz, hmn⟩ := hm1.len_all Try.underlying63 3
  have hlen : ∀ cs : Array Value, (Builtin.len_ #[63] 3 #[.map (some bm)]).run Try.prog (W1.alloc (.cells cs 33)) = .ok (.int .i64 (m : Int)) (W1.alloc (.cells cs 33)) :=
    fun cs => hlen0 _ ((Below.refl W1.heap.size W1).alloc (Nat.le_refl _) _)
  have hpos := occ_pos ds x.deed
  have hoc := occ_le ds x.deed
  have hob : i64Ok (occ ds x.deed) := ⟨by omega, by omega⟩
  clear hb h0 h1 hx hm hm1 hlen0
  show Calls Try.prog 32 #[.agg x.cs.toArray, .pointer (some ⟨b0, 0, none⟩), .pointer (some ⟨b1, 0, none⟩)] W1 _
  have hlt0 := World.block_lt_of_cell? W1 _ c0
  have hlt1 := World.block_lt_of_cell? W1 _ c1
  simp only at hlt0 hlt1
  have hne0 : b0 ≠ W1.heap.size := by omega
  have hne1 : b1 ≠ W1.heap.size := by omega
  have hB : Hid (atB ring ds x = (x.ring == ring && (ds.isEmpty || decide (0 < occ ds x.deed)))) := Lib.hid (by unfold atB; rw [hpos])
  clear hpos
  generalize occ ds x.deed = q at *
  generalize ds.isEmpty = em at *
  unfold Nt.cs
  rw [hB.out]
  cases em <;>
  · go_enter Try.func32, Try.ntmps32
    go_wp2
    all_goals go_ret
    all_goals exact ⟨by simp_all, (Below.refl _ _).alloc (Nat.le_refl _) _⟩

theorem Cnt.grown {K : TypeId} {w w' : World} {b n : Nat} {f : Int → Int} {z : Bool} (h : Cnt K w b n f z) {row : Option Nat} (hg : w.grownBy w' row) (hne : some b ≠ row) : Cnt K w' b n f z := by
  obtain ⟨D, h1, h2⟩ := h
  exact ⟨D, h1.kept hg hne, h2⟩
theorem grown_below {B b : Nat} {W w w' : World} (hb : Below B W w) (hB : B ≤ w.heap.size) (hg : w.grownBy w' (some b)) (hbb : B ≤ b) : Below B W w' := hb.grown hg hB fun k hk => by cases hk; exact hbb
theorem cell_box (w : World) (v : Value) (t : TypeId) : (w.alloc (.cells #[v] t)).cell? ⟨w.heap.size, 0, none⟩ = some v := by rw [obj_cell (obj_new w _)]; rfl
theorem grown_cell {w w' : World} {b c o : Nat} {v : Value} (hg : w.grownBy w' (some b)) (hc : w.cell? ⟨c, o, none⟩ = some v) (hne : c ≠ b) : w'.cell? ⟨c, o, none⟩ = some v :=
  (World.cell?_of_block (w := w) (hg.block c (World.block_lt_of_cell? w _ hc) (by simpa using hne))).trans hc

set_option maxRecDepth 100000 in
set_option maxHeartbeats 2000000 in
theorem tat {W : World} {v vd : Value} {l : List Nt} {ring : Int} {ds : List Int} (hl : NtsAt W v l) (h120 : l.length ≤ 1000) (hd : IntsR W vd ds) (hdl : ds.length ≤ 1000) :
    Calls Try.prog 14 #[v, .int .i64 ring, vd] W fun e w' => ∃ v', e = .returned v' ∧ NtsOwn W.heap.size w' v' (l.filter (atB ring ds)) ∧ Below W.heap.size W w' := by
  have eg : ∀ args w, (callFunc 32 args).run Try.prog w = .ok (.enter 32 args) w := enters_of Try.func32 (by kernel_rfl) rfl
  obtain ⟨p, c, rfl, hc, hm⟩ := hl.form
  obtain ⟨pd, cd, rfl, hcd, hmd⟩ := hd.form
  have HL := Lib.hid hl
  have HD := Lib.hid hd
  have HE := Lib.hid eg
  clear hl hd eg
  have hmm := @run_makeMap Try.prog
  go_enter Try.func14, Try.ntmps14
  go_wp2_with fail
  go_loopw [13] (fun iv wl => ∃ k : Nat, k ≤ ds.length ∧ iv = .int .i64 k ∧ Hid (Cnt 27 wl (W.heap.size + 1) k (occ (ds.take k)) (ds.take k).isEmpty ∧ wl.cell? ⟨W.heap.size, 0, none⟩ = some (.int .i64 ring) ∧ wl.cell? ⟨W.heap.size + 1 + 1, 0, none⟩ = some (.map (some (W.heap.size + 1))) ∧ Below W.heap.size W wl)) (fun iv _ => ds.length - (intOf iv).toNat)
  case atStart =>
    have h1 : Below W.heap.size W (W.alloc (.cells #[.int .i64 ring] 3)) := (Below.refl _ _).alloc (Nat.le_refl _) _
    have c1 := Cnt.made 27 (W.alloc (.cells #[.int .i64 ring] 3))
    rw [World.alloc_size] at c1
    have c2 := c1.keep ((Below.refl _ _).alloc (Nat.le_refl _) (.cells #[.map (some (W.heap.size + 1))] 63)) c1.lt
    refine ⟨0, Nat.zero_le _, rfl, Lib.hid ⟨by rw [List.take_zero, occ_nil]; exact c2, ?_, ?_, (h1.alloc (by simp) _).alloc (by simp; omega) _⟩⟩
    · exact keepc (((Below.refl _ _).alloc (Nat.le_refl _) _).alloc (by simp) _) (i64_box W ring _)
    · have := cell_box ((W.alloc (.cells #[.int .i64 ring] 3)).alloc (.map #[] 0)) (.map (some (W.heap.size + 1))) 63
      rwa [World.alloc_size, World.alloc_size] at this
  case round =>
    obtain ⟨k, hk, rfl, HJ⟩ := hrel
    by_cases hlt : k < ds.length
    · obtain ⟨b, off, x, rfl, hx, hb, hwf, c0⟩ := (HD.out.keep HJ.out.2.2.2).at_ hlt
      have HX := Lib.hid hx
      have HW := Lib.hid hwf
      have hcn := HJ.out.1
      have cm := HJ.out.2.2.1
      have hlook := hcn.look Try.underlying27 Try.underlying63 hwf
      have HC := Lib.hid hcn
      have HT : Hid (ds.take (k + 1) = ds.take k ++ [x]) := Lib.hid (take_snocN hx)
      have hoc := occ_le (ds.take k) x
      have htl : (ds.take k).length ≤ 1000 := by rw [List.length_take]; omega
      have HO : Hid (occ (ds.take (k + 1)) = fun y => if y = x then occ (ds.take k) x + 1 else occ (ds.take k) y) := Lib.hid (by rw [HT.out, occ_snoc])
      have HZ : Hid ((ds.take (k + 1)).isEmpty = false) := Lib.hid (by rw [HT.out]; simp)
      obtain ⟨q, hq⟩ : ∃ q, occ (ds.take k) x = q := ⟨_, rfl⟩
      rw [hq] at hlook hoc HO
      clear hx hwf hcn hb hq
      have hq0 : 0 ≤ q := hoc.1
      have hq1 : q ≤ 1000 := by have := hoc.2; omega
      clear hoc htl
      go_wp2_with (at_mapUpdate; refine wpList_cnt_put rfl _ _ _ rfl Try.underlying27 Try.underlying63 rfl HC.out (by unfold maxLen; omega) x (q + 1) rfl rfl HW.out ⟨by omega, by omega⟩ ?_; intro w1 hcn1 hg1; have HC1 := Lib.hid hcn1; have HG1 := Lib.hid hg1; clear hcn1 hg1)
      exact ⟨⟨k + 1, by omega, by go_num, Lib.hid ⟨by rw [HO.out, HZ.out]; exact HC1.out, grown_cell HG1.out HJ.out.2.1 (by omega), grown_cell HG1.out HJ.out.2.2.1 (by omega), grown_below HJ.out.2.2.2 HJ.out.2.2.2.size HG1.out (by omega)⟩⟩, by simp [intOf]; omega⟩
    · obtain rfl : k = ds.length := by omega
      rw [List.take_length] at HJ
      have HP := Lib.hid (tpicked (HL.out.keep HJ.out.2.2.2) h120 HE.out (tat_clo HJ.out.2.1 HJ.out.2.2.1 HJ.out.1 hdl))
      go_wp2_with (go_at_call 30; refine HP.out.mono ?_; rintro e w1 ⟨v1, rfl, ho, hb⟩; have HO := Lib.hid ho; have HB := Lib.hid hb; obtain ⟨p1, c1, rfl, -⟩ := row_form ho.own; clear ho hb)
      go_ret
      exact ⟨_, rfl, ⟨row_base HO.out.own HJ.out.2.2.2.size, HO.out.wf⟩, HJ.out.2.2.2.trans (HB.out.mono HJ.out.2.2.2.size)⟩
end Go.Proofs.Ytnblkkmandlllaa
