/-
  Tick and Drop of package clock by contract. Conditions: the clock's row is its own; at most 2^20 timers; for Tick a step that may be.
-/
import Derived.Test.YtpnglcafjofmnaaTake2
namespace Go.Proofs.Ytpnglcafjofmnaa
open Go.RowKit

theorem take_none (W : World) (b : Nat) (now : Int) (F cp : Nat) (p : Int × Int → Bool) (h : Ck W b (.slice none 0 0) [] now) :
    Calls Try.prog 62 #[.pointer (some ⟨b, 0, none⟩), .func (.func F) #[] #[.pointer (some ⟨cp, 0, none⟩)]] W fun e w' => TakeOk W w' b (.slice none 0 0) [] p now e := by
  have c1 := h.c1
  have f1 := h.f 1
  have HC := Lib.hid h
  clear h
  go_enter Try.func62, Try.ntmps62
  go_wp2
  refine wp_loop_rounds 1 ?_
  rw [rounds_succ]
  go_wp2
  go_ret
  refine ⟨_, _, rfl, World.ownsRow_nil _ _ _ _, by simp [Value.ownBlock], ⟨obj_setCell _ HC.out.1, World.ownsRow_nil _ _ _ _⟩, rfl, (Frm.refl (fun k => k = b ∨ (Value.slice none 0 0).ownBlock = some k) W).setCell (p := ⟨b, 1, none⟩) (.inl rfl) _⟩

theorem take_any (W : World) (b : Nat) (v : Value) (ts : List (Int × Int)) (now : Int) (F cp : Nat) (p : Int × Int → Bool) (h : Ck W b v ts now) (hn : (ts.length : Int) ≤ 1048576)
    (he : ∀ (x y : Int) (w : World), (callFunc F #[.agg #[.int .i64 x, .int .i64 y], .pointer (some ⟨cp, 0, none⟩)]).run Try.prog w = .ok (.enter F #[.agg #[.int .i64 x, .int .i64 y], .pointer (some ⟨cp, 0, none⟩)]) w)
    (hcl : ∀ W' : World, Frm (fun q => v.ownBlock = some q) W W' → ∀ t : Int × Int, Calls Try.prog F #[.agg #[.int .i64 t.1, .int .i64 t.2], .pointer (some ⟨cp, 0, none⟩)] W' fun e w' => e = .returned (.bool (p t)) ∧ Below W'.heap.size W' w') :
    Calls Try.prog 62 #[.pointer (some ⟨b, 0, none⟩), .func (.func F) #[] #[.pointer (some ⟨cp, 0, none⟩)]] W fun e w' => TakeOk W w' b v ts p now e := by
  rcases h.2.2 with ⟨rfl, h0⟩ | ⟨g, cap, cur, rfl, _, _, hc, hcm, _, _⟩
  · obtain rfl : ts = [] := List.eq_nil_of_length_eq_zero h0
    exact take_none W b now F cp p h
  · exact take_some W b g cap ts now F cp p h hc hcm hn he fun W' hf t => hcl W' (hf.mono fun k _ e => by simp [Value.ownBlock, e]) t

/-- What Tick leaves. -/
def TickOk (W w' : World) (b : Nat) (v : Value) (ts : List (Int × Int)) (now : Int) (e : Ending) : Prop :=
  ∃ r v', e = .returned (.tuple #[r, .nilIface]) ∧ w'.ownsRow 0 3 1 r (whoL ts (fun t => decide (t.1 ≤ now)) ts.length).length ((whoL ts (fun t => decide (t.1 ≤ now)) ts.length).map (Value.int .i64)) ∧ (∀ q, r.ownBlock = some q → W.heap.size ≤ q) ∧
    Ck w' b v' (keptL ts (fun t => decide (t.1 ≤ now)) ts.length) now ∧ v'.ownBlock = v.ownBlock ∧ Frm (fun k => k = b ∨ v.ownBlock = some k) W w'

theorem tick_some (W : World) (b : Nat) (v : Value) (ts : List (Int × Int)) (now d : Int) (h : Ck W b v ts now) (hn : (ts.length : Int) ≤ 1048576) (hd : 1 ≤ d) (h0 : 0 ≤ now) (hm : now + d ≤ 1099511627776) :
    Calls Try.prog 28 #[.pointer (some ⟨b, 0, none⟩), .int .i64 d] W fun e w' => TickOk W w' b v ts (now + d) e := by
  have hmf : ∀ (fn : Fn) (first cap : Array Value) (w : World), (Instr.makeFunc fn first cap).run Try.prog w = .ok (.func fn first cap) w := fun _ _ _ _ => rfl
  have h1 := h.keepB ((Below.refl _ W).alloc (Nat.le_refl _) (.cells #[.pointer (some ⟨b, 0, none⟩)] 75))
  have hcp := obj_new W (.cells #[.pointer (some ⟨b, 0, none⟩)] 75)
  have hF1 := (Frm.refl (fun k => k = b ∨ v.ownBlock = some k) W).alloc (.cells #[.pointer (some ⟨b, 0, none⟩)] 75)
  have c0 := h1.c0
  have f0 := h1.f 0
  have p0 : (W.alloc (.cells #[.pointer (some ⟨b, 0, none⟩)] 75)).cell? ⟨W.heap.size, 0, none⟩ = some (.pointer (some ⟨b, 0, none⟩)) := (obj_cell hcp 0).trans rfl
  have hbp : W.heap.size ≠ b := obj_ne hcp h1.1 (by decide)
  have HCP := Lib.hid hcp
  have H1 := Lib.hid h1
  have HF1 := Lib.hid hF1
  clear h hcp h1 hF1
  go_enter Try.func28, Try.ntmps28
  go_wp2_with fail
  have h2 : Ck ((W.alloc (.cells #[.pointer (some ⟨b, 0, none⟩)] 75)).setCell ⟨b, 0, none⟩ (.int .i64 (now + d))) b v ts (now + d) := by
    have hf : Frm (fun k => k = b) (W.alloc (.cells #[.pointer (some ⟨b, 0, none⟩)] 75)) ((W.alloc (.cells #[.pointer (some ⟨b, 0, none⟩)] 75)).setCell ⟨b, 0, none⟩ (.int .i64 (now + d))) := (Frm.refl (fun k => k = b) _).setCell (p := ⟨b, 0, none⟩) rfl _
    exact ⟨obj_setCell _ H1.out.1, hf.row H1.out.2 fun g hg e => H1.out.ne (by rw [hg, e])⟩
  have hF2 := HF1.out.setCell (p := ⟨b, 0, none⟩) (.inl rfl) (.int .i64 (now + d))
  have hcp2 : ((W.alloc (.cells #[.pointer (some ⟨b, 0, none⟩)] 75)).setCell ⟨b, 0, none⟩ (.int .i64 (now + d))).heap[W.heap.size]? = some (.cells #[.pointer (some ⟨b, 0, none⟩)] 75 (0, 0)) := (Below.heap_setCell _ _ _ _ hbp).trans HCP.out
  refine (take_any _ b v ts (now + d) 64 W.heap.size (fun t => decide (t.1 ≤ now + d)) h2 hn (fun _ _ _ => by kernel_rfl) ?_).mono ?_
  · intro W' hf t
    refine clo_tick W' t W.heap.size b (now + d) ?_ ?_
    · exact (obj_cell (hf.obj hcp2 fun e => row_ne h2.2 hcp2 (by decide) e) 0).trans rfl
    · exact (obj_cell (hf.obj h2.1 h2.ne) 0).trans rfl
  rintro e w3 ⟨r, v', rfl, ho, hr, hck, hv, hf⟩
  have HT : Hid (TickOk W w3 b v ts (now + d) (.returned (.tuple #[r, .nilIface]))) := ⟨r, v', rfl, ho, fun q hq => Nat.le_trans hF2.size (hr q hq), hck, hv, hF2.then hf fun _ _ h => h⟩
  clear ho hr hck hv hf hF2 hcp2 h2
  go_wp2
  go_ret2
  exact HT.out
end Go.Proofs.Ytpnglcafjofmnaa
