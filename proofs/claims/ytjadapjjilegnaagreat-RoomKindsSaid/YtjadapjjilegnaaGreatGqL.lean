/-
  Package gate's loads and Least by contract, of a group that lies anywhere in a block: what all of its cells have, each loaded once. Conditions: at most 32 cells, numbers from nought; fewer than 2^61 steps.
-/
import Derived.Test.YtjadapjjilegnaaGreatMin
namespace Go.Proofs.YtjadapjjilegnaaGreat
open Go.RowKit

/-- What each of the numbers' cells has. -/
def valsOf (xs : List Int) (ids : List Int) : List Int := ids.map fun i => xs.getD i.toNat 0

theorem load_k (i : Nat) (W : World) (b : Nat) (v : Value) (xs : List Int) (st x : Int) (h : Ar W b v xs st) (hx : xs[i]? = some x) (h0 : 0 ≤ st) (h1 : st < 4611686018427387904) :
    Calls Tryz.prog 35 #[.pointer (some ⟨b, 0, none⟩), .int .i64 i] W fun e w' => e = .returned (.tuple #[.int .i64 x, .nilIface]) ∧ Ar w' b v xs (st + 1) ∧ Frm (fun k => k = b) W w' := by
  obtain ⟨g, hs⟩ := step_way ⟨#[108, 111, 97, 100]⟩ i W b v xs st x h hx h0 h1
  have HS := Lib.hid hs
  clear hs hx h
  go_enter Tryz.func35, Tryz.ntmps35
  go_wp2_with (go_at_call 94; refine HS.out.mono ?_; rintro e w1 ⟨rfl, hw⟩; have hc := hw.1; have HW := Lib.hid hw; clear hw)
  go_ret2
  exact ⟨rfl, HW.out.2.2.1, HW.out.2.2.2.1⟩

/-- Room for so many numbers and one. -/
def mk0 (n : Nat) : Array Value := madeCells (Value.int .i64 0).cells ((n + 1) * 1)
theorem mk0_size (n : Nat) : (mk0 n).size = n + 1 := by simp [mk0, size_madeCells]
theorem make_nums (n : Nat) (hn : n ≤ 32) (w : World) :
    (Instr.makeSlice 117 (.int .i64 0) (.int .i64 ((n : Int) + 1))).run Tryz.prog w = .ok (.slice (some ⟨w.heap.size, 0, none⟩) 0 (n + 1)) (w.alloc (.cells (mk0 n) 2)) := by
  obtain ⟨i0, hi, hz0, hz1, hz2⟩ := info_parts infoI64
  have := run_make (P := Tryz.prog) w 117 2 i0 _ Tryz.underlying117 hi hz0 .i64 .i64 0 ((n : Int) + 1) (by omega) (by omega) (by rw [hz2]; omega) (by omega)
  rw [this]
  have e : ((n : Int) + 1).toNat = n + 1 := by omega
  rw [e, hz1]
  rfl

theorem row_up {w : World} {B B' : Nat} {e : TypeId} {size : Nat} {v : Value} {n : Nat} {xs : List Value} (h : w.ownsRow B e size v n xs) (hb : ∀ g, v.ownBlock = some g → B' ≤ g) : w.ownsRow B' e size v n xs :=
  ⟨h.1, h.2.imp id fun ⟨g, cap, cur, hv, _, r⟩ => ⟨g, cap, cur, hv, hb g (by rw [hv]; rfl), r⟩⟩

/-- Some of the loads are done. -/
structure LS (W w : World) (b : Nat) (v : Value) (xs : List Int) (st : Int) (ids : List Int) (k : Nat) (lv : Value) : Prop where
  row : w.ownsRow W.heap.size 2 1 lv k ((valsOf xs (ids.take k)).map (Value.int .i64))
  ar : Ar w b v xs (st + k)
  frm : Frm (fun k => k = b) W w
  blk : ∃ r, lv.ownBlock = some r

theorem LS.load {W w w' : World} {b : Nat} {v : Value} {xs : List Int} {st : Int} {ids : List Int} {k : Nat} {lv : Value} (h : LS W w b v xs st ids k lv) (ha : Ar w' b v xs (st + k + 1)) (hf : Frm (fun k => k = b) w w') :
    w'.ownsRow W.heap.size 2 1 lv k ((valsOf xs (ids.take k)).map (Value.int .i64)) ∧ Ar w' b v xs (st + ((k + 1 : Nat) : Int)) ∧ Frm (fun k => k = b) W w' := by
  refine ⟨hf.row h.row ?_, by rw [show st + ((k + 1 : Nat) : Int) = st + k + 1 by omega]; exact ha, h.frm.trans hf⟩
  rintro g hg rfl
  exact row_ne h.row h.ar.1 (by decide) hg

theorem LS.app {W w w' : World} {b : Nat} {v : Value} {xs : List Int} {st : Int} {ids : List Int} {k : Nat} {lv lv' : Value} {o : Obj} (hlt : b < W.heap.size) (hvlt : ∀ g, v.ownBlock = some g → g < W.heap.size)
    (h : w.ownsRow W.heap.size 2 1 lv k ((valsOf xs (ids.take k)).map (Value.int .i64)) ∧ Ar w b v xs (st + ((k + 1 : Nat) : Int)) ∧ Frm (fun k => k = b) W w) (hk : k < ids.length)
    (hown : w'.ownsRow 0 2 1 lv' (k + 1) ((valsOf xs (ids.take k)).map (Value.int .i64) ++ [Value.int .i64 (xs.getD (ids.getD k 0).toNat 0)])) (hf : Frm (fun k => lv.ownBlock = some k) (w.alloc o) w') (hv : lv'.ownBlock = lv.ownBlock ∨ ∀ g, lv'.ownBlock = some g → (w.alloc o).heap.size ≤ g) :
    LS W w' b v xs st ids (k + 1) lv' := by
  obtain ⟨h1, h2, h3⟩ := h
  have hlow : ∀ g, lv.ownBlock = some g → W.heap.size ≤ g := fun g hg => (h1.lt g hg).1
  have hup : ∀ g, lv'.ownBlock = some g → W.heap.size ≤ g := by
    intro g hg
    rcases hv with hv | hv
    · exact hlow g (hv ▸ hg)
    · have := hv g hg
      have := h3.size
      simp at *
      omega
  obtain ⟨r, cap, hs, _⟩ := row_some hown (by omega)
  refine ⟨?_, (h2.keepB ((Below.refl _ _).alloc (Nat.le_refl _) _)).keep hf ?_ ?_, (h3.alloc o).then hf ?_, r, by rw [hs]; rfl⟩
  · have := row_up hown hup
    rw [take_snoc hk]
    simpa [valsOf] using this
  · intro e
    have := hlow _ e
    omega
  · intro g hg e
    have := hlow _ e
    have := hvlt g hg
    omega
  · intro k hk e
    have := hlow _ e
    omega

theorem LS.place {W w : World} {b : Nat} {v : Value} {xs : List Int} {st : Int} {ids : List Int} {k : Nat} {p : Option Addr} {n c : Nat} (h : LS W w b v xs st ids k (.slice p n c)) : ∃ r, p = some ⟨r, 0, none⟩ := by
  obtain ⟨r, hr⟩ := h.blk
  rcases h.row.2 with ⟨e, _⟩ | ⟨g, cap, cur, e, _⟩
  · rw [e] at hr; simp [Value.ownBlock] at hr
  · simp at e
    exact ⟨g, e.1⟩
theorem LS.start {W wr w2 : World} {b : Nat} {v : Value} {xs : List Int} {st : Int} {ids : List Int} {n : Nat} (hn : n ≤ 32) (hb : Below W.heap.size W wr) (ha : Ar W b v xs st) (hb2 : Below (wr.alloc (.cells (mk0 n) 2)).heap.size (wr.alloc (.cells (mk0 n) 2)) w2) :
    LS W w2 b v xs st ids 0 (.slice (some ⟨wr.heap.size, 0, none⟩) 0 (n + 1)) := by
  have hb3 : Below W.heap.size W w2 := bthen (balloc hb _) hb2
  refine ⟨?_, by simpa using ha.keepB hb3, Frm.of_below hb3 _, _, rfl⟩
  exact (Frm.of_below hb2 fun _ => False).row (World.ownsRow_made wr (mk0 n) (n + 1) hb.size (by simp only [maxLen]; omega) (by rw [mk0_size]; omega)) fun _ _ => id

/-- Behind Least: the arena's steps are counted, nothing else that was there has turned. -/
def Loaded (W w : World) (b : Nat) (v : Value) (xs : List Int) (st : Int) : Prop := Ar w b v xs st ∧ Frm (fun k => k = b) W w
theorem loaded_app {W w w' : World} {b r n c : Nat} {v : Value} {xs : List Int} {st : Int} {ys : List Value} {o : Obj} (ha : Ar W b v xs st) {st' : Int} (hr : w.ownsRow W.heap.size 2 1 (.slice (some ⟨r, 0, none⟩) n c) n ys) (h1 : Ar w b v xs st') (h2 : Frm (fun k => k = b) W w)
    (hf : Frm (fun k => (Value.slice (some ⟨r, 0, none⟩) n c).ownBlock = some k) (w.alloc o) w') : Loaded W w' b v xs st' := by
  have hlow := (hr.lt r rfl).1
  refine ⟨(h1.keepB ((Below.refl _ _).alloc (Nat.le_refl _) _)).keep hf ?_ ?_, (h2.alloc o).then hf ?_⟩
  · intro e
    simp [Value.ownBlock] at e
    have := ha.lt
    omega
  · intro g hg e
    simp [Value.ownBlock] at e
    have := row_lt ha.2 hg
    omega
  · intro k hk e
    simp [Value.ownBlock] at e
    omega



end Go.Proofs.YtjadapjjilegnaaGreat
