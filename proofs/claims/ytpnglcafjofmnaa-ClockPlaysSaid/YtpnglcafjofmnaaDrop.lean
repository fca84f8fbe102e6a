/-
  Drop and Next of package clock, and Tick's errors, by contract. Conditions: the clock's row is its own.
-/
import Derived.Test.YtpnglcafjofmnaaSet3
namespace Go.Proofs.Ytpnglcafjofmnaa
open Go.RowKit

/-- What Drop leaves. -/
def DropOk (W w' : World) (b : Nat) (v : Value) (ts : List (Int × Int)) (who now : Int) (e : Ending) : Prop :=
  ∃ v', e = .returned (.int .i64 (whoL ts (fun t => t.2 == who) ts.length).length) ∧
    Ck w' b v' (keptL ts (fun t => t.2 == who) ts.length) now ∧ v'.ownBlock = v.ownBlock ∧ Frm (fun k => k = b ∨ v.ownBlock = some k) W w'

theorem drop_some (W : World) (b : Nat) (v : Value) (ts : List (Int × Int)) (now who : Int) (h : Ck W b v ts now) (hn : (ts.length : Int) ≤ 1048576) :
    Calls Try.prog 26 #[.pointer (some ⟨b, 0, none⟩), .int .i64 who] W fun e w' => DropOk W w' b v ts who now e := by
  have hmf : ∀ (fn : Fn) (first cap : Array Value) (w : World), (Instr.makeFunc fn first cap).run Try.prog w = .ok (.func fn first cap) w := fun _ _ _ _ => rfl
  have h1 := h.keepB ((Below.refl _ W).alloc (Nat.le_refl _) (.cells #[.int .i64 who] 3))
  have hcp := obj_new W (.cells #[.int .i64 who] 3)
  have hF1 := (Frm.refl (fun k => k = b ∨ v.ownBlock = some k) W).alloc (.cells #[.int .i64 who] 3)
  have HCP := Lib.hid hcp
  have H1 := Lib.hid h1
  have HF1 := Lib.hid hF1
  clear h hcp h1 hF1
  go_enter Try.func26, Try.ntmps26
  go_wp2_with fail
  refine (take_any _ b v ts now 63 W.heap.size (fun t => t.2 == who) H1.out hn (fun _ _ _ => by kernel_rfl) ?_).mono ?_
  · intro W' hf t
    refine clo_drop W' t W.heap.size who ?_
    exact (obj_cell (hf.obj HCP.out fun e => row_ne H1.out.2 HCP.out (by decide) e) 0).trans rfl
  rintro e w3 ⟨r, v', rfl, ho, hr, hck, hv, hf⟩
  obtain ⟨rp, rc, rfl, hrc⟩ := row_form ho
  have HT : Hid (DropOk W w3 b v ts who now (.returned (.int .i64 (whoL ts (fun t => t.2 == who) ts.length).length))) := ⟨v', rfl, hck, hv, HF1.out.then hf fun _ _ h => h⟩
  clear ho hr hck hv hf hrc
  go_wp2
  go_ret
  exact HT.out

theorem next_none (W : World) (b : Nat) (v : Value) (now : Int) (h : Ck W b v [] now) :
    Calls Try.prog 29 #[.pointer (some ⟨b, 0, none⟩)] W fun e w' => e = .returned (.tuple #[.int .i64 0, .bool false]) ∧ W = w' := by
  have c1 := h.c1
  obtain ⟨p, c, rfl, hc⟩ := row_form h.2
  clear h hc
  go_enter Try.func29, Try.ntmps29
  go_wp2
  go_ret2
  exact ⟨rfl, rfl⟩

theorem next_some (W : World) (b : Nat) (v : Value) (t : Int × Int) (ts : List (Int × Int)) (now : Int) (h : Ck W b v (t :: ts) now) :
    Calls Try.prog 29 #[.pointer (some ⟨b, 0, none⟩)] W fun e w' => e = .returned (.tuple #[.int .i64 t.1, .bool true]) ∧ W = w' := by
  have c1 := h.c1
  rcases h.2.2 with ⟨_, h0⟩ | ⟨g, cap, cur, rfl, _, hg, _, _, hcs, htake⟩
  · simp at h0
  have cc : W.cell? ⟨g, 0, none⟩ = some (.int .i64 t.1) := by
    rw [obj_cell hg]
    have := congrArg (fun l => l[0]?) htake
    rw [List.getElem?_take_of_lt (by simp), Array.getElem?_toList] at this
    exact this.trans rfl
  clear h hg hcs htake
  have hl : ((t :: ts).length : Int) = (ts.length : Int) + 1 := by simp
  have hz : decide ((ts.length : Int) + 1 = 0) = false := by rw [decide_eq_false_iff_not]; omega
  go_enter Try.func29, Try.ntmps29
  go_wp2
  go_ret2
  exact ⟨rfl, rfl⟩
end Go.Proofs.Ytpnglcafjofmnaa
