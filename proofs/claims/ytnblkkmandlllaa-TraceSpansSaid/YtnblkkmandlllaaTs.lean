/-
  Spans in memory; the library's sort at spans. Condition: at most 1000 spans, in a row of the call's own.
-/
import Derived.Test.YtnblkkmandlllaaTa
import Derived.Test.YtnblkkmandlllaaShelf
import Derived.Test.YtnblkkmandlllaaSort
namespace Go.Proofs.Ytnblkkmandlllaa
open Go.RowKit Go.Shelf Go.Sort Go.Lib
set_option linter.unusedVariables false
set_option linter.unusedSimpArgs false

/-- A span: from, to. -/
abbrev Sp := Int × Int
def encS (x : Sp) : List Value := [.int .i64 x.1, .int .i64 x.2]
def flatS (l : List Sp) : List Value := l.flatMap encS
theorem flatS_len (l : List Sp) : (flatS l).length = l.length * 2 := by
  unfold flatS
  induction l with
  | nil => rfl
  | cons t l ih => simp only [List.flatMap_cons, List.length_append, ih, List.length_cons, encS, List.length_nil]; omega
theorem flatS_append (a b : List Sp) : flatS (a ++ b) = flatS a ++ flatS b := by unfold flatS; rw [List.flatMap_append]
theorem flatS_one (x : Sp) : flatS [x] = encS x := by simp [flatS]
theorem flatS_get {l : List Sp} {k : Nat} {x : Sp} (h : l[k]? = some x) {f : Nat} (hf : f < 2) : (flatS l)[k * 2 + f]? = (encS x)[f]? := by
  obtain ⟨hk, rfl⟩ := List.getElem?_eq_some_iff.1 h
  have e : flatS l = flatS (l.take k) ++ (encS l[k] ++ flatS (l.drop (k + 1))) := by
    rw [← flatS_one, ← flatS_append, ← flatS_append]
    congr 1
    rw [List.singleton_append, ← List.drop_eq_getElem_cons hk, List.take_append_drop]
  have hl : (flatS (l.take k)).length = k * 2 := by rw [flatS_len, List.length_take]; omega
  rw [e, List.getElem?_append_right (by omega), hl, List.getElem?_append_left (by simp [encS]; omega)]
  congr 1
  omega

/-- A slice of spans, read. -/
def SpsAt (w : World) (v : Value) (l : List Sp) : Prop :=
  ∃ p c, v = .slice p l.length c ∧ c ≤ maxLen ∧ (l.length = 0 ∨ ∃ b off, p = some ⟨b, off, none⟩ ∧ b < w.heap.size ∧ ∀ j x, l[j]? = some x → w.cell? ⟨b, off + j * 2, none⟩ = some (.int .i64 x.1) ∧ w.cell? ⟨b, off + j * 2 + 1, none⟩ = some (.int .i64 x.2))
theorem SpsAt.keep {w w' : World} {v : Value} {l : List Sp} (h : SpsAt w v l) (hb : Below w.heap.size w w') : SpsAt w' v l := by
  obtain ⟨p, c, hv, h2, h3⟩ := h
  refine ⟨p, c, hv, h2, ?_⟩
  rcases h3 with h3 | ⟨b, off, hp, hlt, hc⟩
  · exact .inl h3
  · exact .inr ⟨b, off, hp, Nat.lt_of_lt_of_le hlt hb.size, fun j x hj => ⟨(hb.cell (p := ⟨b, _, none⟩) hlt).trans (hc j x hj).1, (hb.cell (p := ⟨b, _, none⟩) hlt).trans (hc j x hj).2⟩⟩
theorem SpsAt.form {w : World} {v : Value} {l : List Sp} (h : SpsAt w v l) : ∃ p c, v = .slice p l.length c ∧ c ≤ maxLen := by
  obtain ⟨p, c, hv, h2, _⟩ := h
  exact ⟨p, c, hv, h2⟩
theorem SpsAt.at_ {w : World} {p : Option Addr} {n c : Nat} {l : List Sp} (h : SpsAt w (.slice p n c) l) {k : Nat} (hk : k < l.length) :
    ∃ b off x, p = some ⟨b, off, none⟩ ∧ l[k]? = some x ∧ b < w.heap.size ∧ w.cell? ⟨b, off + k * 2, none⟩ = some (.int .i64 x.1) ∧ w.cell? ⟨b, off + k * 2 + 1, none⟩ = some (.int .i64 x.2) := by
  obtain ⟨p', c', hv, h2, h3⟩ := h
  simp only [Value.slice.injEq] at hv
  obtain ⟨rfl, -, -⟩ := hv
  obtain ⟨b, off, rfl, hlt, hc⟩ := h3.resolve_left (by omega)
  exact ⟨b, off, l[k], rfl, List.getElem?_eq_getElem hk, hlt, hc k _ (List.getElem?_eq_getElem hk)⟩
theorem SpsAt.of_own {w : World} {B : Nat} {e : TypeId} {v : Value} {l : List Sp} (ho : w.ownsRow B e 2 v l.length (flatS l)) : SpsAt w v l := by
  have ho2 := ho
  obtain ⟨h1, h2⟩ := ho
  rcases h2 with ⟨rfl, h0⟩ | ⟨g, cap, cur, rfl, _, hg, hc, hm, _⟩
  · exact ⟨none, 0, by rw [h0], Nat.zero_le _, .inl h0⟩
  · refine ⟨_, cap, rfl, hm, ?_⟩
    rcases Nat.eq_zero_or_pos l.length with h0 | hpos
    · exact .inl h0
    · refine .inr ⟨g, 0, rfl, lt_of_block hg, fun j x hj => ?_⟩
      have hjl : j < l.length := (List.getElem?_eq_some_iff.1 hj).1
      have cell : ∀ f, f < 2 → w.cell? ⟨g, 0 + j * 2 + f, none⟩ = (encS x)[f]? := fun f hf => by
        rw [Nat.zero_add]
        exact (ho2.cellAt (j * 2 + f) (by omega)).trans (flatS_get hj hf)
      exact ⟨cell 0 (by decide), cell 1 (by decide)⟩

theorem encS_one (x : Sp) : ∀ u ∈ encS x, u.oneCell' = true := by
  intro u hu
  simp [encS] at hu
  rcases hu with rfl | rfl <;> rfl
theorem infoSp : (Try.prog.info? 43).map (fun i => (i.zero, i.size, i.bytes)) = some (some (.agg #[.int .i64 0, .int .i64 0]), 2, 16) := by kernel_rfl
theorem sp_cell (w : World) (x : Sp) (t : TypeId) : ∀ j u, (encS x)[j]? = some u → (w.alloc (.cells #[.int .i64 x.1, .int .i64 x.2] t)).cell? ((⟨w.heap.size, 0, none⟩ : Addr).add j) = some u := by
  intro j u hu
  rw [Addr.add_lit, obj_cell (obj_new w _)]
  simpa [encS] using hu

theorem cmp_lt (x y : Sp) : ltOf (fun x y : Sp => compareInt x.1 y.1) x y = decide (x.1 < y.1) := by
  unfold ltOf compareInt
  by_cases h1 : x.1 < y.1
  · simp [h1]
  · by_cases h2 : y.1 < x.1 <;> simp [h1, h2]
theorem cmp_swo : SWO (ltOf fun x y : Sp => compareInt x.1 y.1) where
  irrefl x := by rw [cmp_lt]; simp
  trans x y z h1 h2 := by rw [cmp_lt] at *; simp at *; omega
  ntrans x y z h1 h2 := by rw [cmp_lt] at *; simp at *; omega

set_option maxHeartbeats 1000000 in
theorem tcmp (x y : Sp) (W : World) : Calls Try.prog 38 #[.agg #[.int .i64 x.1, .int .i64 x.2], .agg #[.int .i64 y.1, .int .i64 y.2]] W fun e w' => e = .returned (.int .i64 (compareInt x.1 y.1)) ∧ ∃ q os', w' = grow (W.drewN q) os' := by
  have hcon := fun W' => Try.cmp_Compare_int x.1 y.1 W'
  generalize compareInt x.1 y.1 = r at hcon ⊢
  go_enter Try.func38, Try.ntmps38
  go_wp2_with (go_at_call 39; refine (hcon _).mono ?_; rintro e w' ⟨rfl, rfl⟩)
  go_ret
  exact ⟨rfl, 0, _, by rw [alloc_eq_grow, alloc_eq_grow, grow_grow]; rfl⟩

theorem holdsS {w : World} {B g cap : Nat} {l : List Sp} (ho : w.ownsRow B 43 2 (.slice (some ⟨g, 0, none⟩) l.length cap) l.length (flatS l)) : HoldsK encS 2 w g 0 l.toArray := by
  intro j hj
  rw [size_flatK] at hj
  have hjl : j < l.length * 2 := by simpa using hj
  have hd : j / 2 < l.length := by omega
  refine ⟨?_, by rw [Nat.zero_add]; exact ho.frozenAt j⟩
  rw [get_flatK _ _ _ _ hj, Nat.zero_add, ho.cellAt j hjl]
  have hx : l[j / 2]? = some l[j / 2] := List.getElem?_eq_getElem hd
  have := flatS_get hx (f := j % 2) (by omega)
  rw [show j / 2 * 2 + j % 2 = j by omega] at this
  rw [this]
  have e1 : (l.toArray[j / 2]! : Sp) = l[j / 2] := by simp [hd]
  rw [e1]
  rcases (show j % 2 = 0 ∨ j % 2 = 1 by omega) with h | h <;> rw [h] <;> rfl

theorem sortWorld_grown {enc : Sp → List Value} {w : World} {g n : Nat} {d : Array Sp} {os : Array Obj} (hg : g < w.heap.size) : w.grownBy (sortWorldK enc 2 w g 0 n d os) (some g) := by
  refine ⟨rfl, rfl, rfl, ?_, fun k hk hne => ?_⟩
  · exact size_sortWorldK_c enc 2 w g 0 n d os
  · unfold sortWorldK
    have hs : (putRowK enc 2 (Sort.ahead w n) g 0 d).heap.size = w.heap.size := by
      unfold putRowK putRow mapBlock
      show (w.heap.modify g _).size = _
      simp
    rw [heap_grow_old _ _ (by rw [hs]; exact hk)]
    unfold putRowK putRow mapBlock
    show (w.heap.modify g _)[k]? = _
    have hne' : g ≠ k := fun e => hne (by rw [e])
    simp [Array.getElem?_modify, hne']

theorem tsort {w : World} {B g cap : Nat} {l : List Sp} (ho : w.ownsRow B 43 2 (.slice (some ⟨g, 0, none⟩) l.length cap) l.length (flatS l)) (hl : l.length ≤ 1000) (hcap : cap ≤ maxLen) :
    Calls Try.prog 37 #[.slice (some ⟨g, 0, none⟩) l.length cap, .func (.func 38) #[] #[]] w fun e w' =>
      e = .returned (.tuple #[]) ∧ ∃ l' : List Sp, l'.Perm l ∧ l'.Pairwise (fun x y => x.1 ≤ y.1) ∧ SpsAt w' (.slice (some ⟨g, 0, none⟩) l.length cap) l' ∧ w.grownBy w' (some g) := by
  have eg : ∀ args w, (callFunc 38 args).run Try.prog w = .ok (.enter 38 args) w := enters_of Try.func38 (by kernel_rfl) rfl
  have hg : g < w.heap.size := (ho.lt g (by simp [Value.ownBlock])).2
  have hH := holdsS ho
  have hcmp : CmpLays Try.prog 38 #[] encS 2 (fun x y : Sp => compareInt x.1 y.1) g 0 l.toArray.size w := fun _ _ _ _ x y => tcmp x y _
  have hcon := AnyQ.slices_SortFunc Try.laysSort 2 Try.isAgg43 Try.sizeOf43 encS (fun _ => rfl) encS_one (fun x y : Sp => compareInt x.1 y.1) cmp_swo 38 #[] g 0 cap l.toArray w eg hcmp hH hg (by simp; omega)
  have hsz : l.toArray.size = l.length := by simp
  rw [hsz] at hcon
  refine Calls.mono hcon ?_
  rintro e w' ⟨rfl, d', n, os, hp, hs, rfl⟩
  obtain ⟨hps, -, hpp⟩ := hp
  rw [hsz] at hps
  have hx1 : d'.extract 0 l.length = d' := by rw [← hps]; simp
  have hx2 : l.toArray.extract 0 l.length = l.toArray := by rw [← hsz]; simp
  rw [hx1, hx2] at hpp
  have hdl : d'.toList.length = l.length := by simpa using hps
  refine ⟨rfl, d'.toList, by simpa using hpp, ?_, ?_, sortWorld_grown hg⟩
  · rw [List.pairwise_iff_getElem]
    intro i j hi hj hij
    have h := hs i j (Nat.zero_le _) hij (by omega)
    rw [cmp_lt] at h
    have hi' : i < d'.size := by simpa using hi
    have hj' : j < d'.size := by simpa using hj
    rw [getElem!_pos d' i hi', getElem!_pos d' j hj'] at h
    simp at h
    simpa using h
  · have hHs := holdsK_sortWorldK_c encS 2 w g 0 l.toArray d' n os hH hg (by rw [hps, hsz])
    refine ⟨_, cap, by rw [hdl], hcap, .inr ⟨g, 0, rfl, Nat.lt_of_lt_of_le hg (size_sortWorldK_c encS 2 w g 0 n d' os), fun j x hj => ?_⟩⟩
    have hjl : j < d'.size := by
      have := (List.getElem?_eq_some_iff.1 hj).1
      simpa using this
    have hx : d'[j]! = x := by
      rw [getElem!_pos d' j hjl]
      obtain ⟨h1, h2⟩ := List.getElem?_eq_some_iff.1 hj
      simpa using h2
    have h0 := (hHs.cell hjl (c := 0) (by decide)).1
    have h1 := (hHs.cell hjl (c := 1) (by decide)).1
    rw [hx] at h0 h1
    exact ⟨h0, h1⟩
end Go.Proofs.Ytnblkkmandlllaa
