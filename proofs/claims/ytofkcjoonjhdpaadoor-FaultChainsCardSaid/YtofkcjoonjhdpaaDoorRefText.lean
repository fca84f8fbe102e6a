/-
  A number's digits and a chain's text by the document's answer: contracts. Condition: the number has one of the names 1 to 18; there are no more than 60 links, with texts no longer than 100 letters and 64-bit indexes.
-/
import Derived.Test.YtofkcjoonjhdpaaDoorDigits
import Derived.Deep.RegionHeld3
namespace Go.Proofs.YtofkcjoonjhdpaaDoor
open Go.RowKit Go.Extern.Stop Go.Stop Go.Extern

theorem digits_any {W : World} (n : Int) (h : -9223372036854775808 ≤ n ∧ n ≤ 9223372036854775807) :
    Calls Tryd.prog 30 #[.int .i64 n] W fun e w' => e = .returned (.string ⟨(Lib.itoa n).toArray⟩) ∧ Below W.heap.size W w' := by
  by_cases hn : n < 0
  · have h1 := digits_neg (W := W) n.natAbs (by omega) (by omega)
    rw [show (-(n.natAbs : Int)) = n by omega] at h1
    rw [show Lib.itoa n = 45 :: Lib.decDigits n.natAbs by unfold Lib.itoa; rw [if_pos hn]]
    exact h1
  · have h1 := digits_pos (W := W) n.toNat (by omega)
    rw [show ((n.toNat : Nat) : Int) = n by omega] at h1
    rw [show Lib.itoa n = Lib.decDigits n.toNat by unfold Lib.itoa; rw [if_neg hn]]
    exact h1

theorem pref_step (l : List (ByteArray × Int)) {k : Nat} (h : k < l.length) : prefL (l.take (k + 1)) = prefL (l.take k) ++ (placeL l[k].1 l[k].2 ++ [58, 32]) := by
  rw [List.take_succ_eq_append_getElem h, prefL_append]
  simp [prefL]
theorem take_small {l : List (ByteArray × Int)} (h : Small l) (k : Nat) : Small (l.take k) := fun x hx => h x (List.mem_of_mem_take hx)
def TRel (W : World) (l : List (ByteArray × Int)) (s i : Value) (wl : World) : Prop :=
  ∃ k : Nat, k ≤ l.length ∧ i = .int .i64 k ∧ s = .string ⟨(prefL (l.take k)).toArray⟩ ∧ Below W.heap.size W wl
theorem held3x {w a b : World} {c o p : Nat} {x y : Value} (hb : Below a.heap.size a b) (h : a.cell? ⟨c, o, none⟩ = some x ∧ a.cell? ⟨c, p, none⟩ = some y ∧ Below w.heap.size w a) :
    b.cell? ⟨c, o, none⟩ = some x ∧ b.cell? ⟨c, p, none⟩ = some y ∧ Below w.heap.size w b := ⟨keepc hb h.1, keepc hb h.2.1, bthen h.2.2 hb⟩

set_option maxRecDepth 100000 in
set_option maxHeartbeats 2000000 in
theorem text_some {W : World} (b off cap : Nat) (l : List (ByteArray × Int)) (n : Int) (hc : LinkCells W b off l) (hs : Small l) (hl : l.length ≤ 60) (h1 : 1 ≤ n) (h2 : n ≤ 18) :
    Calls Tryd.prog 13 #[.slice (some ⟨b, off, none⟩) l.length cap, .int .i64 n] W fun e w' => e = .returned (.string ⟨(textL l n).toArray⟩) ∧ Below W.heap.size W w' := by
  have HC := Lib.hid hc
  have HS := Lib.hid hs
  clear hc hs
  go_enter Tryd.func13, Tryd.ntmps13
  go_wp2
  go_loopw [5, 6] (fun s i wl => TRel W l s i wl) (fun _ i _ => l.length - (intOf i).toNat)
  case atStart => exact ⟨0, Nat.zero_le _, rfl, rfl, Below.refl _ _⟩
  case round =>
    obtain ⟨k, hk, rfl, rfl, hb⟩ := hrel
    have hpl := prefL_len (l.take k) (take_small HS.out k)
    rw [List.length_take] at hpl
    have hpl2 : (prefL (l.take k)).length ≤ 7500 := by omega
    clear hpl
    by_cases hlt : k < l.length
    · have hc0 := keepc hb (HC.out k hlt).1
      have hc1 := keepc hb (HC.out k hlt).2
      have hsm := HS.out l[k] (List.getElem_mem hlt)
      have HST := Lib.hid (pref_step l hlt)
      generalize hx : l[k] = x at hc0 hc1 hsm
      have HX := Lib.hid hx
      obtain ⟨hop, hsq⟩ := hsm
      have HSQ := Lib.hid hsq
      have hil := itoa_len x.2 hsq
      have hsvs : (⟨(prefL (l.take k)).toArray⟩ : ByteArray).size ≤ 7500 := by rw [size_toArray]; exact hpl2
      have hres : (⟨(prefL (l.take k)).toArray⟩ : ByteArray) ++ x.1 ++ ⟨#[32]⟩ ++ ⟨(Lib.itoa x.2).toArray⟩ ++ ⟨#[58, 32]⟩ = ⟨(prefL (l.take (k + 1))).toArray⟩ := by
        rw [HST.out, hx]
        apply ByteArray.ext
        simp [placeL]
      generalize (⟨(prefL (l.take k)).toArray⟩ : ByteArray) = sv at hsvs hres
      have HR := Lib.hid hres
      have k1 : ∀ w : World, (Op.stringOp .add sv x.1).run Tryd.prog w = .ok (.string (sv ++ x.1)) w := fun w => run_string_add_sum w _ _ (by omega)
      have k2 : ∀ w : World, (Op.stringOp .add (sv ++ x.1) ⟨#[32]⟩).run Tryd.prog w = .ok (.string (sv ++ x.1 ++ ⟨#[32]⟩)) w := fun w => run_string_add_sum w _ _ (by rw [ByteArray.size_append, show (⟨#[32]⟩ : ByteArray).size = 1 from rfl]; omega)
      have k3 : ∀ w : World, (Op.stringOp .add (sv ++ x.1 ++ ⟨#[32]⟩) ⟨(Lib.itoa x.2).toArray⟩).run Tryd.prog w = .ok (.string (sv ++ x.1 ++ ⟨#[32]⟩ ++ ⟨(Lib.itoa x.2).toArray⟩)) w := fun w => run_string_add_sum w _ _ (by rw [ByteArray.size_append, ByteArray.size_append, show (⟨#[32]⟩ : ByteArray).size = 1 from rfl, size_toArray (Lib.itoa x.2)]; omega)
      have k4 : ∀ w : World, (Op.stringOp .add (sv ++ x.1 ++ ⟨#[32]⟩ ++ ⟨(Lib.itoa x.2).toArray⟩) ⟨#[58, 32]⟩).run Tryd.prog w = .ok (.string (sv ++ x.1 ++ ⟨#[32]⟩ ++ ⟨(Lib.itoa x.2).toArray⟩ ++ ⟨#[58, 32]⟩)) w := fun w => run_string_add_sum w _ _ (by rw [ByteArray.size_append, ByteArray.size_append, ByteArray.size_append, show (⟨#[32]⟩ : ByteArray).size = 1 from rfl, show (⟨#[58, 32]⟩ : ByteArray).size = 2 from rfl, size_toArray (Lib.itoa x.2)]; omega)
      clear hres hx hil hsq hpl2
      go_wp2
      go_region_held3 (fun w' => w'.cell? ⟨b, off + k * 2, none⟩ = some (.string x.1) ∧ w'.cell? ⟨b, off + k * 2 + 1, none⟩ = some (.int .i64 x.2) ∧ Below W.heap.size W w') (first
        | exact ⟨by assumption, by assumption, by assumption⟩
        | exact ⟨by go_simp, by go_simp, Below.drew (by assumption)⟩
        | exact held3x (by assumption) (by assumption)) (first
        | (go_at_call 30; refine (digits_any x.2 HSQ.out).mono ?_; rintro e w3 ⟨rfl, hb3⟩))
      go_wp2
      refine ⟨⟨k + 1, by omega, by go_num, by rw [← HR.out], And.right (And.right (by assumption))⟩, by simp [intOf]; omega⟩
    · have HTE : Hid ((⟨(prefL (l.take k)).toArray⟩ : ByteArray) ++ ⟨(nm n).toArray⟩ = ⟨(textL l n).toArray⟩) := by
        refine Lib.hid ?_
        rw [textL_eq, List.take_of_length_le (by omega)]
        apply ByteArray.ext
        simp
      have hsvs : (⟨(prefL (l.take k)).toArray⟩ : ByteArray).size ≤ 7500 := by rw [size_toArray]; exact hpl2
      have hnl := nm_len n
      have hnz : (⟨(nm n).toArray⟩ : ByteArray).size ≤ 20 := by rw [size_toArray]; exact hnl
      generalize (⟨(prefL (l.take k)).toArray⟩ : ByteArray) = sv at hsvs HTE
      have k1 : ∀ w : World, (Op.stringOp .add sv ⟨(nm n).toArray⟩).run Tryd.prog w = .ok (.string (sv ++ ⟨(nm n).toArray⟩)) w := fun w => run_string_add_sum w _ _ (by omega)
      clear hpl2 hnl
      go_wp2_with (go_at_call 31; refine (ref_name n h1 h2).mono ?_; rintro e w3 ⟨rfl, hb3⟩)
      go_ret
      exact ⟨by rw [← HTE.out]; rfl, bthen hb hb3⟩
end Go.Proofs.YtofkcjoonjhdpaaDoor
