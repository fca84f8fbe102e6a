/-
  The example that each statement of layer 1 asks, and how they make their errors: contracts. Condition: there are no more than 50 links, with texts no longer than 100 letters; the library's own two variables hold what they hold from the start.
-/
import Derived.Test.YtofkcjoonjhdpaaDoorError
namespace Go.Proofs.YtofkcjoonjhdpaaDoor
open Go.RowKit Go.Extern.Stop Go.Stop Go.Extern

theorem awake_text : (⟨(textL [(⟨#[99, 108, 97, 105, 109]⟩, 3)] 10).toArray⟩ : ByteArray) = ⟨#[99, 108, 97, 105, 109, 32, 51, 58, 32, 102, 117, 108, 108]⟩ := by
  have h3 : Lib.itoa 3 = [51] := by unfold Lib.itoa Lib.decDigits; rfl
  simp [textL, placeL, h3, nm]

set_option maxRecDepth 100000 in
set_option maxHeartbeats 1000000 in
theorem awake1 {W : World} (hg : Glob W) (ht : Tab W) :
    Calls Tryd.prog 5 #[] W fun e w' => e = .returned (.bool true) ∧ Below W.heap.size W w' := by
  have HG := Lib.hid hg
  have HT := Lib.hid ht
  clear hg ht
  go_enter Tryd.func5, Tryd.ntmps5
  go_wp2_with fail
  refine (wrap_iface _ _ _ _).mono ?_
  rintro e w1 ⟨rfl, hw1⟩
  have hx1 : Below W.heap.size W w1 := hw1 ▸ balloc (Below.refl _ _) _
  have hc1 : ChainL w1 (.iface 36 (.pointer (some ⟨W.heap.size, 0, none⟩))) [(⟨#[99, 108, 97, 105, 109]⟩, 3)] 10 := by
    rw [← hw1]
    exact .fault _ _ _ _ [] 10 (heap_at _ _ _ rfl) (.num 10)
  have HC1 := Lib.hid hc1
  clear hw1 hc1
  go_wp2_with fail
  refine (As_fault ⟨W.heap.size, 0, none⟩ w1.heap.size (.pointer none) (up_cell (HG.out.keep hx1)) (new_cell rfl) (new_frozen rfl)).mono ?_
  rintro e w2 ⟨rfl, w2', hb2, hw2⟩
  have hp2 : Put (w1.alloc (.cells #[.pointer none] 36)) w1.heap.size (.pointer (some ⟨W.heap.size, 0, none⟩)) w2 := hw2 ▸ put_set hb2 (new_cell rfl) (new_frozen rfl) _
  have hb12 : Below w1.heap.size w1 w2 := put_from hp2 (balloc (Below.refl _ _) _) (Nat.le_refl _)
  have hc2 := hp2.2.2.1
  have hx2 := bthen hx1 hb12
  clear hw2 hb2
  go_wp2_with fail
  refine (error_list W.heap.size _ 10 (HC1.out.keep hb12) (by intro x hx; simp at hx; subst hx; exact ⟨by decide, by decide, by decide⟩) (by decide) (by decide) (by decide) (HG.out.keep hx2) (HT.out.keep hx2)).mono ?_
  rw [awake_text]
  rintro e w3 ⟨rfl, hb3⟩
  have hx3 := bthen hx2 hb3
  go_wp2_with fail
  refine (code_chain _ 1 10 ((HC1.out.keep hb12).keep hb3).chain (by decide) (HG.out.keep hx3)).mono ?_
  rintro e w4 ⟨rfl, hb4⟩
  go_wp2
  go_ret
  exact ⟨rfl, bthen hx3 hb4⟩
end Go.Proofs.YtofkcjoonjhdpaaDoor
