/-
  How the links of a statement's argument lie in memory. Condition: they are read as data.
-/
import Derived.Test.YtofkcjoonjhdpaaDoorLaw2
import Derived.Deep.Slices
import Derived.Deep.Fields
import Derived.ChangeSame
import Derived.Carry
import Derived.Lib.LaidTab
import Derived.Test.YtofkcjoonjhdpaaDoorRows
import Derived.LaidHandle
import Derived.RowKitTokens
import Derived.LaidLaws
namespace Go.Proofs.YtofkcjoonjhdpaaDoor
open Go.RowKit Go.ChangeShapes Go.WideShapes Go.Deep

theorem two_of {α : Type} : ∀ {l : List α}, l.length = 2 → ∃ a b, l = [a, b]
  | [a, b], _ => ⟨a, b, rfl⟩
theorem addr_add (b o j : Nat) : (⟨b, o, none⟩ : Addr).add j = ⟨b, o + j, none⟩ := by unfold Addr.add; split <;> simp_all
section
variable {H : Type} {enc : TypeId × Value → H} {w : World} {base : Nat} {spare : Nat → Bool} {held : Bool}
/-- A list of links that is read: each link's two cells, and the indexes are 64-bit numbers. -/
theorem open_links {fuel : Nat} {v : Value} {x : DataW H × List MemPlace} (h : DataW.trod enc Tryd.prog w base spare held fuel 22 [v] = some x) :
    ∃ l : List (ByteArray × Int), Links w v l ∧ l.length ≤ maxLen ∧ ∀ y ∈ l, (Lit.int .i64 y.2).wf = true := by
  rcases open_slice Tryd.underlying22 h with ⟨h0, _⟩ | ⟨a, len, cap, m, n, D, Pl, hcs, _, hl, hm, hmm, _, hi⟩
  · simp at h0; subst h0
    exact ⟨[], Or.inl ⟨rfl, none, 0, rfl⟩, Nat.zero_le _, fun y hy => absurd hy (by simp)⟩
  · simp at hcs; subst hcs
    have hlm : len ≤ m := by rw [hmm]; split <;> omega
    have hC : Tryd.prog.cellsOf 35 = 2 := by kernel_rfl
    have each : ∀ i, i < len → ∃ y : ByteArray × Int, w.cell? (a.add (i * 2)) = some (.string y.1) ∧ w.cell? (a.add (i * 2 + 1)) = some (.int .i64 y.2) ∧ (Lit.int .i64 y.2).wf = true := by
      intro i hlt
      obtain ⟨cs', hc, ht⟩ := hi i (by omega)
      rw [hC] at hc
      obtain ⟨ys, n', hn', hy, hlen, hyl, hf⟩ := DataW.trod_struct Tryd.underlying35 ht
      obtain ⟨_, _, hat⟩ := World.cells?_some hc
      rw [hC] at hlen
      have hy2 : ys.length = 2 := hyl
      obtain ⟨c0, c1, rfl⟩ := two_of hlen
      obtain ⟨y0, y1, rfl⟩ := two_of hy2
      · · have f0 := hf 0 _ rfl
          have f1 := hf 1 _ rfl
          simp only [List.getElem_toArray, List.getElem_cons_zero, List.getElem_cons_succ] at f0 f1
          rw [show Tryd.prog.cellsOf 9 = 1 by kernel_rfl] at f0
          rw [show Tryd.prog.cellsOf 2 = 1 by kernel_rfl] at f1
          simp only [List.drop_zero, List.drop_succ_cons, List.take_succ_cons, List.take_zero, List.getElem?_cons_zero, List.getElem?_cons_succ] at f0 f1
          obtain ⟨s, hs, _⟩ := DataW.trod_string Tryd.underlying9 f0
          obtain ⟨q, hq, _, hwf⟩ := DataW.trod_int Tryd.underlying2 f1
          have a0 := hat 0 (by decide)
          have a1 := hat 1 (by decide)
          simp at hs hq a0 a1
          subst hs; subst hq
          rw [add_add] at a0 a1
          exact ⟨(s, q), a0, a1, hwf⟩
    have each2 : ∃ g : Nat → ByteArray × Int, ∀ i, i < len → w.cell? (a.add (i * 2)) = some (.string (g i).1) ∧ w.cell? (a.add (i * 2 + 1)) = some (.int .i64 (g i).2) ∧ (Lit.int .i64 (g i).2).wf = true := by
      refine ⟨fun i => if h : i < len then (each i h).choose else (default, 0), fun i hi => ?_⟩
      simp only [dif_pos hi]
      exact (each i hi).choose_spec
    obtain ⟨g, hg⟩ := each2
    refine ⟨(List.range len).map g, ?_, by simp; omega, ?_⟩
    · rcases Nat.eq_zero_or_pos len with rfl | hpos
      · exact Or.inl ⟨rfl, _, _, rfl⟩
      · obtain ⟨b, off, spot⟩ := a
        have hspot : spot = none := by simpa [Addr.add] using World.cell?_spot (hg 0 hpos).1
        subst hspot
        refine Or.inr ⟨by simp; omega, b, off, cap, by simp, fun j hj => ?_⟩
        have hj' : j < len := by simpa using hj
        have := hg j hj'
        simp only [List.getElem_map, List.getElem_range]
        refine ⟨?_, ?_⟩
        · rw [← addr_add]; exact this.1
        · rw [Nat.add_assoc, ← addr_add]; exact this.2.1
    · intro y hy
      obtain ⟨i, hi, rfl⟩ := List.mem_map.1 hy
      exact (hg i (List.mem_range.1 hi)).2.2
end

/-! What is listed of the library's variables, as a walk wants it. -/
theorem laid_tail {P : Program} {x : String × DataW Unit} {rest : List (String × DataW Unit)} {W : World} (h : laidMet P (x :: rest) W) : laidMet P rest W := by
  obtain ⟨ps, ⟨g', t', cs, fuel, p, q, hg', ht', hvar, hd, hq, he⟩, hn, hall⟩ := h
  subst he
  exact ⟨q, hq, (List.nodup_append.1 hn).2.1, fun b off hm => hall b off (List.mem_append_right _ hm)⟩

theorem et : Tryd.prog.globalNamed "errors.errorType" = some 0 := by kernel_rfl
theorem rt : (Tryd.prog.cutTypes.find? (·.1 == "internal/reflectlite.rtype")).map (·.2) = some 80 := by kernel_rfl
theorem oneRow : ((List.range 143).filter fun t => Tryd.prog.rowNamed t [101, 114, 114, 111, 114]) = [26] := by kernel_rfl
theorem tsize : Tryd.prog.types.size = 143 := by kernel_rfl
theorem gPow : Tryd.prog.globalNamed "internal/strconv.uint64pow10" = some 1 := by kernel_rfl
theorem gPowType : (Tryd.prog.globals[1]?).map (·.type) = some 106 := by kernel_rfl
/-- The laid variables. -/
def laidAll : List (String × DataW Unit) := [("math/bits.deBruijn32tab", Rows.laid_math_bits_deBruijn32tab), ("math/bits.deBruijn64tab", Rows.laid_math_bits_deBruijn64tab), ("internal/strconv.uint64pow10", Rows.laid_internal_strconv_uint64pow10), ("errors.errorType", Rows.laid_errors_errorType)]
theorem env_of_laid {W : World} (h : laidMetH Tryd.prog laidAll W) : Glob W ∧ Tab W := by
  have h' : laidMet Tryd.prog [("math/bits.deBruijn32tab", Rows.laid_math_bits_deBruijn32tab), ("math/bits.deBruijn64tab", Rows.laid_math_bits_deBruijn64tab), ("internal/strconv.uint64pow10", Rows.laid_internal_strconv_uint64pow10)] W ∧ handlesMet Tryd.prog [("errors.errorType", Rows.laid_errors_errorType)] W := h
  refine ⟨?_, ?_⟩
  · obtain ⟨name, u, ty, e1, e2, e3, e4, e5⟩ := h'.2 _ (List.mem_singleton.2 rfl)
    have en : name = [101, 114, 114, 111, 114] := (Option.some.inj e1).symm
    subst en
    obtain rfl := Option.some.inj (rt.symm.trans e2)
    have hm : ty ∈ (List.range 143).filter fun t => Tryd.prog.rowNamed t [101, 114, 114, 111, 114] := List.mem_filter.2 ⟨List.mem_range.2 (by rw [← tsize]; exact e3), e4⟩
    rw [oneRow] at hm
    obtain rfl := List.mem_singleton.1 hm
    have hh : typeHandle Tryd.prog 26 = .pointer (some ⟨4, 26, none⟩) := by kernel_rfl
    rw [hh] at e5
    have := World.var?_cell et e5 0
    simpa [Glob] using this
  · exact Lib.tabIs_of_head (rest := []) (k := .u64) (zs := Lib.pow10Tab) gPow gPowType Tryd.underlying106 Tryd.underlying99 (by kernel_rfl) (by kernel_rfl) (laid_tail (laid_tail h'.1))

/-- A call that only makes new memory leaves what was read as it was read. -/
theorem shut_same {H : Type} {enc : TypeId × Value → H} {P : Program} {f : Func} {s : ChangeSpec} {apart fresh handsOn : Bool} {W W' : World} {args : Array Value} {v : Value} {ds gs : List (DataW H)} {before : List MemPlace}
    (hb : Below W.heap.size W W') (hW : DataW.Whole enc P f.params.toList s.vars apart W args.toList ds gs before)
    (hres : ∀ (b : Nat) (sp : Nat → Bool) (hd : Bool), DataW.TrodAll enc P W' b sp hd f.resultTypes.toList (v.resultList f.resultTypes.size) (s.fn H (ds ++ gs)).results [])
    (hargs : DataW.TrodAll enc P W' 0 (fun b => decide (b < W.heap.size)) true f.params.toList args.toList (s.fn H (ds ++ gs)).args before)
    (hvars : DataW.TrodVars enc P W' (fun b => decide (b < W.heap.size)) s.vars (s.fn H (ds ++ gs)).vars []) :
    s.post enc P f apart fresh handsOn false W args v W' :=
  ⟨ds, gs, before, [], before, [], hW, hres _ _ _, hargs, hvars, World.keptBut_mono (fun p hp => ⟨hp, Or.inr (Or.inl hp)⟩) (hb.frame (· ∈ before)), fun h => absurd h (by decide)⟩

/-- The cells of plain data that is a row of integers. -/
def dataCells : DataW Unit → Array Value
  | .agg l => (l.map fun | .lit (.int k n) => Value.int k n | _ => .nilIface).toArray
  | _ => #[]
/-- A world in which the listed variables hold what is listed. -/
noncomputable def laidWorld (os : Os) : World :=
  let w0 := World.holding Tryd.prog os ⟨#[], #[], []⟩
  let put (h : Array Obj) (g : Nat) (cs : Array Value) : Array Obj := h.modify g fun
      | .cells _ t frozen => .cells cs t frozen
      | o => o
  { w0 with heap := put (put (put (put w0.heap 0 #[.iface 80 (.agg #[.pointer (some ⟨4, 26, none⟩)])]) 1 (dataCells Rows.laid_internal_strconv_uint64pow10)) 2 (dataCells Rows.laid_math_bits_deBruijn32tab)) 3 (dataCells Rows.laid_math_bits_deBruijn64tab) }
end Go.Proofs.YtofkcjoonjhdpaaDoor
