/-
  How a list of notes, and lists of integers, lie in memory where they are read as data. Condition: they are read as data.
-/
import Derived.Test.YtnblkkmandlllaaTc
import Derived.OpenShut
namespace Go.Proofs.Ytnblkkmandlllaa
open Go.RowKit Go.ChangeShapes Go.WideShapes Go.Deep

theorem some_of2 {α : Type} : ∀ {l : List α}, l.length = 2 → ∃ a0 a1, l = [a0, a1]
  | [a0, a1], _ => ⟨a0, a1, rfl⟩
theorem some_of7 {α : Type} : ∀ {l : List α}, l.length = 7 → ∃ a0 a1 a2 a3 a4 a5 a6, l = [a0, a1, a2, a3, a4, a5, a6]
  | [a0, a1, a2, a3, a4, a5, a6], _ => ⟨a0, a1, a2, a3, a4, a5, a6, rfl⟩
theorem some_of8 {α : Type} : ∀ {l : List α}, l.length = 8 → ∃ a0 a1 a2 a3 a4 a5 a6 a7, l = [a0, a1, a2, a3, a4, a5, a6, a7]
  | [a0, a1, a2, a3, a4, a5, a6, a7], _ => ⟨a0, a1, a2, a3, a4, a5, a6, a7, rfl⟩
section
variable {H : Type} {enc : TypeId × Value → H} {w : World} {base : Nat} {spare : Nat → Bool} {held : Bool}
theorem open_notes {fuel : Nat} {v : Value} {x : DataW H × List MemPlace} (h : DataW.trod enc Try.prog w base spare held fuel 22 [v] = some x) :
    ∃ l : List Nt, NtsAt w v l := by
  rcases open_slice Try.underlying22 h with ⟨h0, _⟩ | ⟨a, len, cap, m, n, D, Pl, hcs, _, hl, hm, hmm, _, hi⟩
  · simp at h0; subst h0
    exact ⟨[], NtsAt.nil w⟩
  · simp at hcs; subst hcs
    have hlm : len ≤ m := by rw [hmm]; split <;> omega
    have hC : Try.prog.cellsOf 33 = 8 := by kernel_rfl
    have each : ∀ i, i < len → ∃ y : Nt, y.wf ∧ ∀ f u, y.cs[f]? = some u → w.cell? (a.add (i * 8 + f)) = some u := by
      intro i hlt
      obtain ⟨cs', hc, ht⟩ := hi i (by omega)
      rw [hC] at hc
      obtain ⟨ys, n', hn', hy, hlen, hyl, hf⟩ := DataW.trod_struct Try.underlying33 ht
      obtain ⟨_, _, hat⟩ := World.cells?_some hc
      rw [hC] at hlen
      have hy2 : ys.length = 7 := hyl
      obtain ⟨c0, c1, c2, c3, c4, c5, c6, c7, rfl⟩ := some_of8 hlen
      obtain ⟨y0, y1, y2, y3, y4, y5, y6, rfl⟩ := some_of7 hy2
      have f0 := hf 0 _ rfl
      have f1 := hf 1 _ rfl
      have f2 := hf 2 _ rfl
      have f3 := hf 3 _ rfl
      have f4 := hf 4 _ rfl
      have f5 := hf 5 _ rfl
      have f6 := hf 6 _ rfl
      simp only [List.getElem_toArray, List.getElem_cons_zero, List.getElem_cons_succ] at f0 f1 f2 f3 f4 f5 f6
      rw [show Try.prog.cellsOf 3 = 1 by kernel_rfl] at f0
      rw [show Try.prog.cellsOf 3 = 1 by kernel_rfl] at f1
      rw [show Try.prog.cellsOf 27 = 1 by kernel_rfl] at f2
      rw [show Try.prog.cellsOf 2 = 1 by kernel_rfl] at f3
      rw [show Try.prog.cellsOf 2 = 1 by kernel_rfl] at f4
      rw [show Try.prog.cellsOf 30 = 2 by kernel_rfl] at f5
      rw [show Try.prog.cellsOf 31 = 1 by kernel_rfl] at f6
      simp only [List.drop_zero, List.drop_succ_cons, List.take_succ_cons, List.take_zero, List.getElem?_cons_zero, List.getElem?_cons_succ] at f0 f1 f2 f3 f4 f5 f6
      obtain ⟨q0, hq0, _, hwf0⟩ := DataW.trod_int Try.underlying3 f0
      obtain ⟨q1, hq1, _, hwf1⟩ := DataW.trod_int Try.underlying3 f1
      obtain ⟨q2, hq2, _, hwf2⟩ := DataW.trod_int Try.underlying27 f2
      obtain ⟨q3, hq3, _, hwf3⟩ := DataW.trod_int Try.underlying2 f3
      obtain ⟨q4, hq4, _, hwf4⟩ := DataW.trod_int Try.underlying2 f4
      obtain ⟨q7, hq7, _, hwf7⟩ := DataW.trod_int Try.underlying31 f6
      obtain ⟨xs, m', hm', hx, hxlen, hxl, hg⟩ := DataW.trod_struct Try.underlying30 f5
      have hx2 : xs.length = 2 := hxl
      obtain ⟨x0, x1, rfl⟩ := some_of2 hx2
      have g0 := hg 0 _ rfl
      have g1 := hg 1 _ rfl
      simp only [List.getElem_toArray, List.getElem_cons_zero, List.getElem_cons_succ] at g0 g1
      rw [show Try.prog.cellsOf 2 = 1 by kernel_rfl] at g0
      rw [show Try.prog.cellsOf 2 = 1 by kernel_rfl] at g1
      simp only [List.drop_zero, List.drop_succ_cons, List.take_succ_cons, List.take_zero, List.getElem?_cons_zero, List.getElem?_cons_succ] at g0 g1
      obtain ⟨q5, hq5, _, hwf5⟩ := DataW.trod_int Try.underlying2 g0
      obtain ⟨q6, hq6, _, hwf6⟩ := DataW.trod_int Try.underlying2 g1
      have a0 := hat 0 (by decide)
      have a1 := hat 1 (by decide)
      have a2 := hat 2 (by decide)
      have a3 := hat 3 (by decide)
      have a4 := hat 4 (by decide)
      have a5 := hat 5 (by decide)
      have a6 := hat 6 (by decide)
      have a7 := hat 7 (by decide)
      simp at hq0 a0 hq1 a1 hq2 a2 hq3 a3 hq4 a4 hq5 a5 hq6 a6 hq7 a7
      subst hq0
      subst hq1
      subst hq2
      subst hq3
      subst hq4
      subst hq5
      subst hq6
      subst hq7
      rw [add_add] at a0 a1 a2 a3 a4 a5 a6 a7
      refine ⟨⟨q0, q1, q2, q3, q4, q5, q6, q7⟩, ⟨i64_wf hwf0, i64_wf hwf1, i64_wf hwf2, i64_wf hwf3, i64_wf hwf4, i64_wf hwf5, i64_wf hwf6, i64_wf hwf7⟩, ?_⟩
      intro f u hu
      match f, hu with
      | 0, hu => simp [Nt.cs] at hu; subst hu; exact a0
      | 1, hu => simp [Nt.cs] at hu; subst hu; exact a1
      | 2, hu => simp [Nt.cs] at hu; subst hu; exact a2
      | 3, hu => simp [Nt.cs] at hu; subst hu; exact a3
      | 4, hu => simp [Nt.cs] at hu; subst hu; exact a4
      | 5, hu => simp [Nt.cs] at hu; subst hu; exact a5
      | 6, hu => simp [Nt.cs] at hu; subst hu; exact a6
      | 7, hu => simp [Nt.cs] at hu; subst hu; exact a7
      | f + 8, hu => simp [Nt.cs] at hu
    have each2 : ∃ g : Nat → Nt, ∀ i, i < len → (g i).wf ∧ ∀ f u, (g i).cs[f]? = some u → w.cell? (a.add (i * 8 + f)) = some u := by
      refine ⟨fun i => if h : i < len then (each i h).choose else default, fun i hi => ?_⟩
      simp only [dif_pos hi]
      exact (each i hi).choose_spec
    obtain ⟨g, hg⟩ := each2
    have hll : ((List.range len).map g).length = len := by simp
    refine ⟨(List.range len).map g, some a, cap, by rw [hll], by rw [hll]; exact hl, hm, fun x hx => ?_, ?_⟩
    · obtain ⟨i, hi', rfl⟩ := List.mem_map.1 hx
      exact (hg i (List.mem_range.1 hi')).1
    · rcases Nat.eq_zero_or_pos len with rfl | hpos
      · exact .inl rfl
      · right
        obtain ⟨b, off, spot⟩ := a
        have h00 := (hg 0 hpos).2 0 _ rfl
        have hspot : spot = none := by simpa [Addr.add] using World.cell?_spot h00
        subst hspot
        rw [addr_add] at h00
        refine ⟨b, off, rfl, World.block_lt_of_cell? w _ h00, fun j x hj => ?_⟩
        obtain ⟨hjl, rfl⟩ := List.getElem?_eq_some_iff.1 hj
        rw [hll] at hjl
        have hgj : ((List.range len).map g)[j] = g j := by simp
        rw [hgj]
        have c : ∀ f u, (g j).cs[f]? = some u → w.cell? ⟨b, off + j * 8 + f, none⟩ = some u := fun f u hu => by
          have := (hg j hjl).2 f u hu
          rw [addr_add] at this
          rw [Nat.add_assoc]; exact this
        exact ⟨c 0 _ rfl, c 1 _ rfl, c 2 _ rfl, c 3 _ rfl, c 4 _ rfl, c 5 _ rfl, c 6 _ rfl, c 7 _ rfl⟩
theorem open_intsR {fuel : Nat} {v : Value} {x : DataW H × List MemPlace} (h : DataW.trod enc Try.prog w base spare held fuel 23 [v] = some x) : ∃ l : List Int, IntsR w v l := by
  rcases open_ints Try.underlying23 Try.underlying3 (by kernel_rfl) h with ⟨h0, _⟩ | ⟨a, len, cap, zs, hcs, _, hl, hm, hlen, _, hcell, hwf⟩
  · simp at h0; subst h0
    exact ⟨[], none, 0, rfl, Nat.le_refl _, Nat.zero_le _, by simp, .inl rfl⟩
  · simp at hcs; subst hcs
    have hle : len ≤ zs.length := by rw [hlen]; split <;> omega
    have hlt : (zs.take len).length = len := by simp; omega
    refine ⟨zs.take len, some a, cap, by rw [hlt], by rw [hlt]; omega, hm, fun y hy => ?_, ?_⟩
    · exact i64_wf (hwf y (List.mem_of_mem_take hy))
    · rw [hlt]
      rcases Nat.eq_zero_or_pos len with h0 | hpos
      · exact Or.inl h0
      · right
        obtain ⟨b, off, spot⟩ := a
        have hc0 := hcell 0 (by omega)
        have hspot : spot = none := by simpa [Addr.add] using World.cell?_spot hc0
        subst hspot
        rw [addr_add] at hc0
        refine ⟨b, off, rfl, World.block_lt_of_cell? w _ hc0, fun j y hj => ?_⟩
        have hjl : j < len := by have := (List.getElem?_eq_some_iff.1 hj).1; omega
        have hj' : j < zs.length := by omega
        have h1 := hcell j hj'
        rw [addr_add] at h1
        rw [h1]
        rw [List.getElem?_take_of_lt hjl, List.getElem?_eq_getElem hj'] at hj
        rw [show zs.getD j 0 = zs[j] by simp [List.getD, hj'], Option.some.inj hj]
theorem open_longsR {fuel : Nat} {v : Value} {x : DataW H × List MemPlace} (h : DataW.trod enc Try.prog w base spare held fuel 39 [v] = some x) : ∃ l : List Int, IntsR w v l := by
  rcases open_ints Try.underlying39 Try.underlying2 (by kernel_rfl) h with ⟨h0, _⟩ | ⟨a, len, cap, zs, hcs, _, hl, hm, hlen, _, hcell, hwf⟩
  · simp at h0; subst h0
    exact ⟨[], none, 0, rfl, Nat.le_refl _, Nat.zero_le _, by simp, .inl rfl⟩
  · simp at hcs; subst hcs
    have hle : len ≤ zs.length := by rw [hlen]; split <;> omega
    have hlt : (zs.take len).length = len := by simp; omega
    refine ⟨zs.take len, some a, cap, by rw [hlt], by rw [hlt]; omega, hm, fun y hy => ?_, ?_⟩
    · exact i64_wf (hwf y (List.mem_of_mem_take hy))
    · rw [hlt]
      rcases Nat.eq_zero_or_pos len with h0 | hpos
      · exact Or.inl h0
      · right
        obtain ⟨b, off, spot⟩ := a
        have hc0 := hcell 0 (by omega)
        have hspot : spot = none := by simpa [Addr.add] using World.cell?_spot hc0
        subst hspot
        rw [addr_add] at hc0
        refine ⟨b, off, rfl, World.block_lt_of_cell? w _ hc0, fun j y hj => ?_⟩
        have hjl : j < len := by have := (List.getElem?_eq_some_iff.1 hj).1; omega
        have hj' : j < zs.length := by omega
        have h1 := hcell j hj'
        rw [addr_add] at h1
        rw [h1]
        rw [List.getElem?_take_of_lt hjl, List.getElem?_eq_getElem hj'] at hj
        rw [show zs.getD j 0 = zs[j] by simp [List.getD, hj'], Option.some.inj hj]
end
end Go.Proofs.Ytnblkkmandlllaa
