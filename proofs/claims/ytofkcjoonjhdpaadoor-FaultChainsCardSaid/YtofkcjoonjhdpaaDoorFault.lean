/-
  fault.Code, and the innermost fault of an error: contracts, by the list of the faults that stand around its number. Condition: no more than 1000 of them; the library's own variable for the type error holds it.
-/
import Derived.Test.YtofkcjoonjhdpaaDoorEnds
import Derived.BigQuiet
import Derived.Deep.QuietTactic
namespace Go.Proofs.YtofkcjoonjhdpaaDoor
open Go.RowKit Go.Extern.Stop Go.Stop Go.Extern

theorem code_nil {W : World} :
    Calls Tryd.prog 8 #[.nilIface] W fun e w' => e = .returned (.int .i64 0) ∧ Below W.heap.size W w' := by
  go_enter Tryd.func8, Tryd.ntmps8
  go_wp2_with (go_at_call 17; refine none_nil.mono ?_; rintro e w' ⟨rfl, rfl⟩)
  go_ret
  exact ⟨rfl, Below.refl _ _⟩

set_option maxHeartbeats 400000 in
theorem code_chain {W : World} (E : Value) (d : Nat) (n : Int) (hc : Chain W E d n) (hd : d ≤ 1000) (hg : Glob W) :
    Calls Tryd.prog 8 #[E] W fun e w' => e = .returned (.int .i64 n) ∧ Below W.heap.size W w' := by
  have HC := Lib.hid hc
  obtain ⟨u, v, rfl⟩ := hc.iface
  clear hc
  have hg1 : Glob (W.alloc (.cells #[.int .i64 0] 30)) := up_cell hg
  go_enter Tryd.func8, Tryd.ntmps8
  go_wp2_with (first
    | (go_at_call 17; refine (none_chain _ d n HC.out).mono ?_; rintro e w' ⟨rfl, rfl⟩)
    | (go_at_call 18; refine (ends_chain _ d n (Chain.up HC.out) hd).mono ?_; rintro e w1 ⟨rfl, hb1⟩)
    | (go_at_call 19; refine (find_num _ d n ((Chain.up HC.out).keep hb1) (hg1.keep hb1) _ (.int .i64 0) (keepc hb1 (new_cell rfl)) (keepf hb1 (new_cell rfl) (new_frozen rfl))).mono ?_; rintro e w2 ⟨rfl, hp2⟩; have hc2 := hp2.2.2.1))
  go_ret
  exact ⟨rfl, put_from hp2 (bthen (balloc (Below.refl _ _) _) hb1) (Nat.le_refl _)⟩

/-- An error, by the list of what was done, and where, the outermost first. -/
inductive ChainL (W : World) : Value → List (ByteArray × Int) → Int → Prop
  | num (n : Int) : ChainL W (.iface 30 (.int .i64 n)) [] n
  | fault (b : Nat) (op : ByteArray) (seq : Int) (E : Value) (l : List (ByteArray × Int)) (n : Int) : W.heap[b]? = some (.cells #[.string op, .int .i64 seq, E] 40 (0, 0)) → ChainL W E l n → ChainL W (.iface 36 (.pointer (some ⟨b, 0, none⟩))) ((op, seq) :: l) n
theorem ChainL.chain {W : World} {E : Value} {l : List (ByteArray × Int)} {n : Int} (h : ChainL W E l n) : Chain W E l.length n := by
  induction h with
  | num n => exact .num n
  | fault b op seq E l n h0 _ ih => exact .fault b op seq E l.length n h0 ih
theorem ChainL.keep {W W' : World} (hb : Below W.heap.size W W') {E : Value} {l : List (ByteArray × Int)} {n : Int} (h : ChainL W E l n) : ChainL W' E l n := by
  induction h with
  | num n => exact .num n
  | fault b op seq E l n h0 _ ih => exact .fault b op seq E l n ((hb.block b (heap_lt h0)).trans h0) ih

/-- What holds at each round's head of the search for the innermost fault. -/
def InnRel (W : World) (l : List (ByteArray × Int)) (n : Int) (E L nn : Value) (wl : World) : Prop :=
  ∃ (l0 l' : List (ByteArray × Int)) (fv : Value), Below W.heap.size W wl ∧ W.heap.size < wl.heap.size ∧ wl.cell? ⟨W.heap.size, 0, none⟩ = some fv ∧ wl.frozen? ⟨W.heap.size, 0, none⟩ = false ∧ l = l0 ++ l' ∧ ChainL W E l' n ∧ nn = .int .i64 l0.length ∧
    ((l0 = [] ∧ L = .pointer none) ∨ ∃ p op seq b, l0 = p ++ [(op, seq)] ∧ L = .pointer (some ⟨b, 0, none⟩) ∧ W.heap[b]? = some (.cells #[.string op, .int .i64 seq, E] 40 (0, 0)))
/-- What is found: nothing, or the fault that stands right around the number. -/
def Found (W : World) (l : List (ByteArray × Int)) (n : Int) (L : Value) : Prop :=
  (l = [] ∧ L = .pointer none) ∨ ∃ p op seq b, l = p ++ [(op, seq)] ∧ L = .pointer (some ⟨b, 0, none⟩) ∧ W.heap[b]? = some (.cells #[.string op, .int .i64 seq, .iface 30 (.int .i64 n)] 40 (0, 0))
def InnPost (W : World) (l : List (ByteArray × Int)) (n : Int) (e : Ending) (w' : World) : Prop :=
  ∃ L, e = .returned (.tuple #[L, .int .i64 l.length]) ∧ Found w' l n L ∧ Below W.heap.size W w'

theorem drewN_below {B : Nat} {a w : World} (n : Nat) (h : Below B a w) : Below B a (w.drewN n) := ⟨h.os, h.tape, h.output, h.size, h.block⟩
theorem Found.keep {W W' : World} (hb : Below W.heap.size W W') {l : List (ByteArray × Int)} {n : Int} {L : Value} (h : Found W l n L) : Found W' l n L := by
  rcases h with h | ⟨p, op, seq, b, h1, h2, h3⟩
  · exact Or.inl h
  · exact Or.inr ⟨p, op, seq, b, h1, h2, (hb.block b (heap_lt h3)).trans h3⟩

set_option maxRecDepth 100000 in
set_option maxHeartbeats 1000000 in
theorem innermost_list {W : World} (E : Value) (l : List (ByteArray × Int)) (n : Int) (hc : ChainL W E l n) (hd : l.length ≤ 1000) (hg : Glob W) :
    Calls Tryd.prog 16 #[E] W (InnPost W l n) := by
  have HC := Lib.hid hc
  have HCC := Lib.hid hc.chain
  obtain ⟨u, v, rfl⟩ := hc.chain.iface
  have HG := Lib.hid hg
  clear hc hg
  go_enter Tryd.func16, Tryd.ntmps16
  go_wp2_with (go_at_call 18; refine (ends_chain _ l.length n HCC.out hd).mono ?_; rintro e w1 ⟨rfl, hb1⟩)
  have HC1 := Lib.hid (HC.out.keep hb1)
  have HG1 := Lib.hid (HG.out.keep hb1)
  go_loopw [0, 4, 6] (fun E' L nn wl => InnRel w1 l n E' L nn wl) (fun E' _ _ _ => endsLen w1 E')
  case atStart => exact ⟨[], l, _, balloc (Below.refl _ _) _, by simp, new_cell rfl, new_frozen rfl, rfl, HC1.out, rfl, Or.inl ⟨rfl, rfl⟩⟩
  case round =>
    obtain ⟨l0, l', fv, hb, hz, hcB, hfB, hl, hce, rfl, hL⟩ := hrel
    have HLL := Lib.hid hl
    clear hl
    cases hce with
    | num =>
      have HLx := Lib.hid hL
      clear hL
      go_wp2_with (go_at_call 32; refine (find_nofault n (HG1.out.keep hb) _ fv hcB hfB).mono ?_; rintro e w2 ⟨rfl, hb2⟩)
      refine bodyPost_ret (v := .tuple #[u4, .int .i64 l0.length]) (by simp [results, Tryd.results16, go_sem]) rfl ?_
      have hl0 : l = l0 := by have := HLL.out; simpa using this
      subst hl0
      refine ⟨u4, rfl, ?_, bthen hb1 (bthen hb hb2)⟩
      rcases HLx.out with ⟨h1, h2⟩ | ⟨p, op, seq, b, h1, h2, h3⟩
      · exact Or.inl ⟨h1, h2⟩
      · have h4 := (hb.block b (heap_lt h3)).trans h3
        exact Or.inr ⟨p, op, seq, b, h1, h2, (hb2.block b (heap_lt h4)).trans h4⟩
    | fault b op seq E1 l1 _ h0 hc1 =>
      have HL := Lib.hid (endsLen_chain hc1.chain)
      have HL0 := Lib.hid (endsLen_chain (ChainL.fault b op seq E1 l1 n h0 hc1).chain)
      have H0 := Lib.hid h0
      have HC2 := Lib.hid hc1
      have hbB : b ≠ w1.heap.size := Nat.ne_of_lt (heap_lt h0)
      have h0l := Lib.hid ((hb.block b (heap_lt h0)).trans h0)
      have hlen : l0.length ≤ 1000 := by
        have := congrArg List.length HLL.out
        simp at this
        omega
      obtain ⟨u1, v1, rfl⟩ := hc1.chain.iface
      clear h0 hc1 hL
      go_wp2_with (go_at_call 32; refine (find_fault ⟨b, 0, none⟩ (HG1.out.keep hb) _ fv hcB hfB).mono ?_; rintro e w2 ⟨rfl, hp2⟩; have hcB2 := hp2.2.2.1; have h2b : w2.cell? ⟨b, 2, none⟩ = some (.iface u1 v1) := heap_cell (put_heap hp2 hbB h0l.out) 2)
      go_quiet (fail)
      go_wp2
      have hb2 : Below w1.heap.size w1 w2 := put_from hp2 hb (Nat.le_refl _)
      have hf2 := hp2.2.2.2
      refine ⟨⟨l0 ++ [(op, seq)], l1, _, drewN_below nq hb2, ?_, (show _ = some (.pointer (some ⟨b, 0, none⟩)) from ?_), ?_, ?_, HC2.out, ?_, Or.inr ⟨l0, op, seq, b, rfl, rfl, H0.out⟩⟩, ?_⟩
      · have := hp2.1.size
        show w1.heap.size < w2.heap.size
        omega
      · go_simp
      · go_simp
      · rw [HLL.out]; simp
      · simp
      · rw [HL.out, HL0.out]; simp

theorem deep_list {W : World} (E : Value) (l : List (ByteArray × Int)) (n : Int) (hc : ChainL W E l n) (hd : l.length ≤ 1000) (hg : Glob W) :
    Calls Tryd.prog 9 #[E] W fun e w' => e = .returned (.int .i64 l.length) ∧ Below W.heap.size W w' := by
  have HC := Lib.hid hc
  have HG := Lib.hid hg
  obtain ⟨u, v, rfl⟩ := hc.chain.iface
  clear hc hg
  go_enter Tryd.func9, Tryd.ntmps9
  go_wp2_with (go_at_call 16; refine (innermost_list _ l n HC.out hd HG.out).mono ?_; rintro e w1 ⟨L, rfl, hF, hb1⟩; have HF := Lib.hid hF; clear hF)
  go_ret
  exact ⟨rfl, hb1⟩

/-- What At answers. -/
def AtPost (W : World) (l : List (ByteArray × Int)) (e : Ending) (w' : World) : Prop :=
  Below W.heap.size W w' ∧ ((l = [] ∧ e = .returned (.tuple #[.string ⟨#[]⟩, .int .i64 0, .bool false])) ∨ ∃ p op seq, l = p ++ [(op, seq)] ∧ e = .returned (.tuple #[.string op, .int .i64 seq, .bool true]))

set_option maxHeartbeats 400000 in
theorem at_list {W : World} (E : Value) (l : List (ByteArray × Int)) (n : Int) (hc : ChainL W E l n) (hd : l.length ≤ 1000) (hg : Glob W) :
    Calls Tryd.prog 7 #[E] W (AtPost W l) := by
  have HC := Lib.hid hc
  have HG := Lib.hid hg
  obtain ⟨u, v, rfl⟩ := hc.chain.iface
  clear hc hg
  go_enter Tryd.func7, Tryd.ntmps7
  go_wp2_with fail
  refine (innermost_list _ l n HC.out hd HG.out).mono ?_
  rintro e w1 ⟨L, rfl, hF, hb1⟩
  rcases hF with ⟨h1, rfl⟩ | ⟨p, op, seq, b, h1, rfl, h3⟩
  · have H1 := Lib.hid h1
    clear h1
    go_wp2
    go_ret3
    exact ⟨hb1, Or.inl ⟨H1.out, rfl⟩⟩
  · have H1 := Lib.hid h1
    have h4 : w1.cell? ⟨b, 0, none⟩ = some (.string op) := heap_cell h3 0
    have h5 : w1.cell? ⟨b, 1, none⟩ = some (.int .i64 seq) := heap_cell h3 1
    clear h1 h3
    go_wp2
    go_quiet (fail)
    go_wp2
    go_ret3
    exact ⟨drewN_below nq hb1, Or.inr ⟨p, op, seq, H1.out, rfl⟩⟩
end Go.Proofs.YtofkcjoonjhdpaaDoor
