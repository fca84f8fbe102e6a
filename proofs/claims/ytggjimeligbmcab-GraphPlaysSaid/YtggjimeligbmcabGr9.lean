/-
  Depth of package graph, by contract. Conditions: a graph in which nobody is behind itself.
-/
import Derived.Test.YtggjimeligbmcabGr8
import Derived.Test.YtggjimeligbmcabTail
namespace Go.Proofs.Ytggjimeligbmcab
open Go.RowKit
set_option linter.unusedVariables false

/-! Depths in memory -/
def mkD (m : Nat → Nat) : Array Value := ((List.range 64).map fun i => Value.int .i64 (m i : Int)).toArray
theorem mkD_size (m : Nat → Nat) : (mkD m).size = 64 := by simp [mkD]
theorem mkD_at (m : Nat → Nat) {j : Nat} (h : j < 64) : (mkD m)[j]? = some (.int .i64 (m j : Int)) := by simp [mkD, h]
theorem mkD_set (m : Nat → Nat) {j v : Nat} (h : j < 64) : (mkD m).setIfInBounds j (.int .i64 (v : Int)) = mkD (setD m j v) := by
  apply Array.ext_getElem?
  intro i
  by_cases hi : i < 64
  · rw [mkD_at _ hi]
    by_cases e : i = j
    · subst e
      rw [Array.getElem?_setIfInBounds_self_of_lt (by rw [mkD_size]; exact h), setD_self]
    · rw [Array.getElem?_setIfInBounds_ne (Ne.symm e), mkD_at _ hi, setD_ne m v e]
  · rw [Array.getElem?_eq_none (by simp [mkD_size]; omega), Array.getElem?_eq_none (by rw [mkD_size]; omega)]
def Dk (w : World) (b : Nat) (m : Nat → Nat) : Prop := w.heap[b]? = some (.cells (mkD m) 57 (0, 0))
theorem Dk.cell {w : World} {b : Nat} {m : Nat → Nat} (h : Dk w b m) {j : Nat} (hj : j < 64) : w.cell? ⟨b, j, none⟩ = some (.int .i64 (m j : Int)) := (obj_cell h j).trans (mkD_at m hj)
theorem Dk.free {w : World} {b : Nat} {m : Nat → Nat} (h : Dk w b m) (j : Nat) : w.frozen? ⟨b, j, none⟩ = false := obj_free h j
theorem Dk.keep {w w' : World} {b : Nat} {m : Nat → Nat} (h : Dk w b m) (hb : Below w.heap.size w w') : Dk w' b m := (hb.block _ (lt_of_block h)).trans h
theorem Dk.set {w : World} {b : Nat} {m : Nat → Nat} (h : Dk w b m) {j v : Nat} (hj : j < 64) : Dk (w.setCell ⟨b, j, none⟩ (.int .i64 (v : Int))) b (setD m j v) := by
  have := obj_setCell (i := j) (.int .i64 (v : Int)) h
  rwa [mkD_set m hj] at this
theorem run_alloc_deep (w : World) : (Instr.alloc 57 true (.tuple #[])).run Try.prog w = .ok (.pointer (some ⟨w.heap.size, 0, none⟩)) (w.alloc (.cells (mkD fun _ => 0) 57)) := by kernel_rfl
theorem wpList_alloc_deep {ops : Array Oper} {rest : List Oper} {o : Oper} {a : Act} {w : World} {Q : Exit → Act → World → Prop} (d : Tmp) (hd : o.dst = some d) (hg : o.guard = none) (ho : o.op = .alloc 57)
    (h : ∀ w', Dk w' w.heap.size (fun _ => 0) → Below w.heap.size w w' → w.heap.size < w'.heap.size → wpList Try.prog ops Q rest (a.put o.dst (.pointer (some ⟨w.heap.size, 0, none⟩))) w') : wpList Try.prog ops Q (o :: rest) a w := by
  refine wpList_plain hg fun _ hK => ?_
  unfold Oper.wp execOp
  simp only [ho, run_alloc_deep w, Sem.run_bind, Result.andThen_ok, Sem.run_pure]
  refine hK _ _ ?_
  have := h (w.alloc (.cells (mkD fun _ => 0) 57)) (obj_new _ _) (balloc (Below.refl _ _) _) (by simp)
  exact this

structure Ds (G : List Nd) (W w : World) (db : Nat) (v : Value) (p : List Nat) (d : Nat → Nat) : Prop where
  k : Dk w db d
  f : FL W w v (ordG G)
  t : DepTo G p d
  lo : W.heap.size ≤ db
section
variable {w w' W : World} {g c q n db : Nat} {G : List Nd} {pn : Option Addr} {S : List Value} {v v' : Value} {p : List Nat} {d : Nat → Nat}
theorem Ds.keep (h : Ds G W w db v p d) (hb : Below w.heap.size w w') : Ds G W w' db v p d := ⟨h.k.keep hb, h.f.keep hb, h.t, h.lo⟩
theorem dset_fl {l : List Nat} (h : FL W w v l) (hk : Dk w db d) (lo : W.heap.size ≤ db) (x : Nat) (u : Value) : FL W (w.setCell ⟨db, x, none⟩ u) v l :=
  ⟨((Frm.refl (fun k => k = db) w).setCell (p := ⟨db, x, none⟩) rfl _).row h.1 fun g hg e => row_ne h.1 hk (by decide) (e ▸ hg), h.2.setCell lo _⟩

theorem gdepth_nil (x : Int) (W : World) :
    Calls Try.prog 29 #[.pointer none, .int .i64 x] W fun e w' => e = .returned (.int .i64 0) ∧ Below W.heap.size W w' := by
  go_enter Try.func29, Try.ntmps29
  go_wp2_with (go_at_call 22; refine (ghas_nil _ _).mono ?_; rintro e w1 ⟨rfl, rfl⟩)
  go_ret
  exact ⟨rfl, Below.refl _ _⟩

/-- How deep a number's node stands. -/
noncomputable def depI (G : List Nd) (x : Int) : Nat := if hasI G x then dpt G x.toNat else 0
set_option maxHeartbeats 2000000 in
set_option maxRecDepth 100000 in
theorem gdepth_some (h : Gr W g G pn c q S) (hG : GOk G) (x : Int) :
    Calls Try.prog 29 #[.pointer (some ⟨g, 0, none⟩), .int .i64 x] W fun e w' => e = .returned (.int .i64 (depI G x : Int)) ∧ Below W.heap.size W w' := by
  have HH := Lib.hid h
  have HG := Lib.hid hG
  have hlen := hG.len
  cases hb : hasI G x with
  | false =>
    have HB := Lib.hid hb
    have HD : Hid (depI G x = 0) := Lib.hid (by simp [depI, hb])
    clear hb h hG
    go_enter Try.func29, Try.ntmps29
    go_wp2_with (go_at_call 22; refine (ghas_some HH.out _).mono ?_; rintro e w1 ⟨rfl, rfl⟩; rw [HB.out])
    go_ret
    rw [HD.out]
    exact ⟨rfl, Below.refl _ _⟩
  | true =>
    obtain ⟨x, rfl, hk⟩ := hasI_yes hb
    have hxl := has_lt hk
    obtain rfl := h.at_ (by omega)
    have HB := Lib.hid hb
    have HX := Lib.hid hk
    have HD : Hid (depI G (x : Int) = dpt G x) := Lib.hid (by simp [depI, hb])
    clear hb h hG hk
    go_enter Try.func29, Try.ntmps29
    go_wp2_with (first
      | (go_at_call 22; refine (ghas_some HH.out _).mono ?_; rintro e w1 ⟨rfl, rfl⟩; rw [HB.out])
      | (refine wpList_alloc_deep 5 rfl rfl rfl ?_; intro w1 hm1 hb1 hs1; have HM1 := Lib.hid hm1; have HB1 := Lib.hid hb1; clear hm1 hb1 hs1; simp only [Act.put, List.setIfInBounds_toArray, List.set_cons_zero, List.set_cons_succ])
      | (go_at_call 31; refine (gorder_some (HH.out.keep HB1.out) HG.out).mono ?_; rintro e w2 ⟨lv, rfl, hf⟩; have HF := Lib.hid hf; obtain ⟨lp, lc, rfl, hlr⟩ := row_form hf.1; clear hf hlr))
    have HOL : Hid ((ordG G).length ≤ 64) := Lib.hid (by have := (ordG_ok G).len; omega)
    have HS0 : Hid (∃ db, db = W.heap.size ∧ Ds G W w2 db (.slice lp (ordG G).length lc) ((ordG G).take 0) (fun _ => 0)) := Lib.hid ⟨_, rfl, HM1.out.keep HF.out.2, ⟨row_base HF.out.1 HB1.out.size, bthen HB1.out HF.out.2⟩, by simpa using DepTo.nil G, Nat.le_refl _⟩
    obtain ⟨db, edb, hs0⟩ := HS0.out
    have HS0 := Lib.hid hs0
    rw [← edb]
    clear hs0 edb HM1 HB1 HF
    generalize hon : (ordG G).length = on at *
    have HON := Lib.hid hon
    clear hon
    go_loopw [17] (fun iv wl => ∃ k : Nat, k ≤ on ∧ iv = .int .i64 k ∧ Hid (∃ d, Ds G W wl db (.slice lp on lc) ((ordG G).take k) d)) (fun iv _ => on - (intOf iv).toNat)
    case atStart => exact ⟨0, Nat.zero_le _, rfl, Lib.hid ⟨_, HS0.out⟩⟩
    case round =>
      clear HS0
      obtain ⟨k, hk, rfl, HS⟩ := hrel
      obtain ⟨d, hd⟩ := HS.out
      have HSD := Lib.hid hd
      clear hd HS
      by_cases hlt : k < on
      · have hon64 : on ≤ 64 := HOL.out
        obtain ⟨y, hy⟩ : ∃ y, y = (ordG G).getD k 0 := ⟨_, rfl⟩
        have HY := Lib.hid hy
        have HYH : Hid (hasB G y = true) := Lib.hid (by
          rw [hy]
          refine (ordG_ok G).inn _ ?_
          rw [List.getD_eq_getElem?_getD, List.getElem?_eq_getElem (by rw [HON.out]; exact hlt)]
          exact List.getElem_mem _)
        have hyl : y < G.length := has_lt HYH.out
        obtain ⟨ob, rfl⟩ : ∃ ob, lp = some ⟨ob, 0, none⟩ := by
          have h1 := HSD.out.f.1
          rw [HON.out] at h1
          obtain ⟨g1, c1, e1, _⟩ := row_some h1 (by omega)
          simp only [Value.slice.injEq] at e1
          exact ⟨g1, e1.1⟩
        have ck : wr.cell? ⟨ob, k, none⟩ = some (.int .i64 (y : Int)) := by
          have h1 := HSD.out.f.1
          have := h1.cells (g := ob) rfl k _ (ints_at (by rw [HON.out]; exact hlt))
          rw [Addr.add_mid, Nat.zero_add] at this
          rw [this, ← hy]
        have HK := Lib.hid (HH.out.keep HSD.out.f.2)
        have c0 := HK.out.c0
        have ca := HK.out.af y hyl
        have HN := Lib.hid (HH.out.ns y hyl)
        have HL := Lib.hid (aft_len HG.out y)
        have HAP : Hid (∀ a, a ∈ aft G y → a ∈ (ordG G).take k) := Lib.hid fun a ha => by
          have e := ord_split (l := ordG G) (n := k) (by rw [HON.out]; exact hlt)
          rw [← hy] at e
          exact (ordG_ok G).pre _ _ _ e a ha
        clear hy
        generalize S.getD y (.slice none 0 0) = va at *
        obtain ⟨pa, cca, rfl, hpa⟩ := HN.out
        have HPA := Lib.hid hpa
        clear hpa
        generalize wr = wO at *
        have HY0 : Hid (d y = 0) := Lib.hid (HSD.out.t.no y fun hm => by
          have e := ord_split (l := ordG G) (n := k) (by rw [HON.out]; exact hlt)
          rw [← HY.out] at e
          have hnd := (ordG_ok G).nod
          rw [e] at hnd
          exact (List.nodup_append.1 hnd).2.2 _ hm _ (List.mem_cons_self) rfl)
        have HAL : Hid (∀ j, j < (aft G y).length → (aft G y).getD j 0 < 64 ∧ (aft G y).getD j 0 ≠ y ∧ d ((aft G y).getD j 0) + 1 ≤ 64) := Lib.hid fun j hj => by
          have hm : (aft G y).getD j 0 ∈ aft G y := by
            rw [List.getD_eq_getElem?_getD, List.getElem?_eq_getElem hj]
            exact List.getElem_mem _
          have h1 := HG.out.aft_lt hm
          have h2 := HSD.out.t.le _ (HAP.out _ hm)
          have h3 : ((ordG G).take k).length ≤ 64 := by simp; omega
          exact ⟨by omega, fun e => HG.out.irr y (.one (by rwa [e] at hm)), by omega⟩
        have HLN : Hid ((aft G y).length ≤ 64) := HL
        go_wp2_with fail
        have HI0 : Hid (Dk wO db (setD d y (dmx d ((aft G y).take 0) 0)) ∧ FL W wO (.slice (some ⟨ob, 0, none⟩) on lc) (ordG G)) := Lib.hid (by
          have e : setD d y (dmx d ((aft G y).take 0) 0) = d := by
            funext z
            by_cases e : z = y
            · subst e; rw [setD_self]; simp [dmx, HY0.out]
            · exact setD_ne _ _ e
          rw [e]
          exact ⟨HSD.out.k, HSD.out.f⟩)
        clear ck c0 ca
        go_loopw [30] (fun iv wl => ∃ j : Nat, j ≤ (aft G y).length ∧ iv = .int .i64 j ∧ Hid (Dk wl db (setD d y (dmx d ((aft G y).take j) 0)) ∧ FL W wl (.slice (some ⟨ob, 0, none⟩) on lc) (ordG G))) (fun iv _ => (aft G y).length - (intOf iv).toNat)
        case atStart => exact ⟨0, Nat.zero_le _, rfl, HI0⟩
        case round =>
          clear HI0
          obtain ⟨j, hj, rfl, HJ⟩ := hrel
          by_cases hjl : j < (aft G y).length
          · obtain ⟨b2, o2, rfl, hc⟩ := HPA.out.resolve_left (by omega)
            have cj := keepc HJ.out.2.2 (hc j hjl)
            have hj64 : j < 64 := by have := HL.out; omega
            obtain ⟨ha64, hay, had⟩ := HAL.out j hjl
            have hy64 : y < 64 := by omega
            have HDM : Hid (dmx d ((aft G y).take (j + 1)) 0 = max (dmx d ((aft G y).take j) 0) (d ((aft G y).getD j 0) + 1)) := Lib.hid (by rw [take_snoc hjl, dmx_snoc])
            have hm64 : dmx d ((aft G y).take j) 0 ≤ 64 := dmx_le (fun a ha => by
              obtain ⟨i, hi, e⟩ := List.getElem_of_mem (List.mem_of_mem_take ha)
              have := (HAL.out i hi).2.2
              rw [show (aft G y).getD i 0 = a by simp [hi, e]] at this
              exact this) (Nat.zero_le _)
            clear hc
            generalize (aft G y).getD j 0 = a at *
            generalize dmx d ((aft G y).take j) 0 = m at *
            have cy := HJ.out.1.cell hy64
            rw [setD_self] at cy
            have cb := HJ.out.1.cell ha64
            rw [setD_ne d m hay] at cb
            have fy := HJ.out.1.free y
            generalize hda : d a = da at *
            have HDA := Lib.hid hda
            clear hda
            have HW : Hid (∀ w2, Below wr.heap.size wr w2 → Dk (w2.setCell ⟨db, y, none⟩ (.int .i64 (max (m : Int) ((da : Int) + 1)))) db (setD d y (max m (da + 1))) ∧ FL W (w2.setCell ⟨db, y, none⟩ (.int .i64 (max (m : Int) ((da : Int) + 1)))) (.slice (some ⟨ob, 0, none⟩) on lc) (ordG G)) := Lib.hid fun w2 hb => by
              have e : max (m : Int) ((da : Int) + 1) = ((max m (da + 1) : Nat) : Int) := by omega
              rw [e]
              have h1 := (HJ.out.1.keep hb).set (v := max m (da + 1)) hy64
              rw [setD_twice] at h1
              exact ⟨h1, dset_fl (HJ.out.2.keep hb) (HJ.out.1.keep hb) HSD.out.lo _ _⟩
            go_wp2_with fail
            have n1 : ∀ x : Later wr, x.to.cell? ⟨db, y, none⟩ = some (.int .i64 (m : Int)) := fun x => keepc x.below cy
            have n2 : ∀ x : Later wr, x.to.cell? ⟨db, a, none⟩ = some (.int .i64 (da : Int)) := fun x => keepc x.below cb
            clear cy cb fy
            refine wp_region_later_tail 10 (by kernel_rfl) (by kernel_rfl) ?_
            simp only [List.take_succ_cons, List.take_zero, List.drop_succ_cons, List.drop_zero]
            repeat (go_big_quiet_step (fail))
            refine wpQuiet_nil ?_
            intro w2 hw'
            obtain ⟨⟨w2', hb2⟩, hw2⟩ := hw'
            obtain rfl : w2 = w2' := hw2
            have HB2 := Lib.hid hb2
            have cy := keepc hb2 (HJ.out.1.cell hy64)
            have fy := (HJ.out.1.keep hb2).free y
            clear n1 n2 hb2
            go_wp2
            exact ⟨⟨j + 1, by omega, by go_num, by rw [HDM.out]; exact Lib.hid (HW.out _ HB2.out)⟩, by simp [intOf]; omega⟩
          · obtain rfl : j = (aft G y).length := by omega
            have HN2 : Hid (DepTo G ((ordG G).take (k + 1)) (setD d y (dmx d (aft G y) 0))) := Lib.hid (by
              have := HSD.out.t.next (n := k) (by rw [HON.out]; exact hlt)
              rwa [← HY.out] at this)
            go_wp2_with fail
            exact ⟨⟨k + 1, by omega, by go_num, Lib.hid ⟨_, by have := HJ.out.1; rwa [List.take_length] at this, HJ.out.2, HN2.out, HSD.out.lo⟩⟩, by simp [intOf]; omega⟩
      · obtain rfl : k = on := by omega
        have hx64 : x < 64 := by omega
        have cx := HSD.out.k.cell hx64
        have HE : Hid (depI G (x : Int) = d x) := Lib.hid (by
          have ht := HSD.out.t
          rw [← HON.out, List.take_length] at ht
          rw [HD.out, ← (ht.done HG.out).eq HG.out])
        go_wp2
        go_ret
        rw [HE.out]
        exact ⟨rfl, HSD.out.f.2⟩
end
end Go.Proofs.Ytggjimeligbmcab
