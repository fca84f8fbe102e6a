/-
  An error as a text: a fault's own part, a number's name, and all of it: contracts. Condition: the number has one of the names 1 to 18; the texts are no longer than 100 letters, the indexes are 64-bit numbers; the library's own two variables hold what they hold from the start.
-/
import Derived.Test.YtofkcjoonjhdpaaDoorBuild
import Derived.Test.YtofkcjoonjhdpaaDoorErrno
import Derived.Deep.RegionHeld3
import Derived.Lib.SmallJoins
namespace Go.Proofs.YtofkcjoonjhdpaaDoor
open Go.RowKit Go.Extern.Stop Go.Stop Go.Extern Go.Sort

/-- The library's two variables. -/
def Tab (W : World) : Prop := Lib.TabIs Tryd.prog W "internal/strconv.uint64pow10" .u64 Lib.pow10Tab
theorem Tab.keep {W W' : World} (hb : Below W.heap.size W W') (h : Tab W) : Tab W' :=
  Go.Joins.tab_stays (g := 1) (by kernel_rfl) h hb (Nat.le_refl _)
theorem Tab.drew {W : World} (h : Tab W) : Tab W.drew := h

theorem grow_below (w : World) (os : Array Obj) : Below w.heap.size w (grow w os) :=
  ⟨rfl, rfl, rfl, by simp [grow], fun k hk => by simp only [grow]; rw [Array.getElem?_append_left hk]⟩
theorem fmt_any (n : Int) (h : -9223372036854775808 ≤ n ∧ n ≤ 9223372036854775807) (w : World) (ht : Tab w) :
    Calls Tryd.prog 41 #[.int .i64 n, .int .i64 10] w fun e w' => e = .returned (.string ⟨(Lib.itoa n).toArray⟩) ∧ Below w.heap.size w w' :=
  (Tryd.strconv_FormatInt_10 n h.1 h.2 w ht).mono fun e w' ⟨he, k, os, hw⟩ => ⟨he, by
    rw [hw]
    exact (drewN_below k (Below.refl _ w)).trans ((grow_below (w.drewN k) os).mono (Nat.le_refl _))⟩

theorem decDigits_len : ∀ (f u : Nat), u < 10 ^ f → (Lib.decDigits u).length ≤ f + 1
  | 0, u, h => by unfold Lib.decDigits; simp at h; subst h; simp
  | f + 1, u, h => by
    unfold Lib.decDigits
    split
    · simp
    · have := decDigits_len f (u / 10) (by rw [Nat.pow_succ] at h; omega)
      simp; omega
theorem itoa_len (n : Int) (h : -9223372036854775808 ≤ n ∧ n ≤ 9223372036854775807) : (Lib.itoa n).length ≤ 22 := by
  unfold Lib.itoa
  have := decDigits_len 20 n.natAbs (by omega)
  have := decDigits_len 20 n.toNat (by omega)
  split <;> simp <;> omega

theorem size_toArray (l : List UInt8) : (⟨l.toArray⟩ : ByteArray).size = l.length := by simp [ByteArray.size]
/-- A fault's own part. -/
def placeL (op : ByteArray) (seq : Int) : List UInt8 := op.data.toList ++ [32] ++ Lib.itoa seq

theorem held4 {w a b : World} {c : Nat} {x y : Value} (hb : Below a.heap.size a b) (h : a.cell? ⟨c, 0, none⟩ = some x ∧ a.cell? ⟨c, 1, none⟩ = some y ∧ Below w.heap.size w a ∧ Tab a) :
    b.cell? ⟨c, 0, none⟩ = some x ∧ b.cell? ⟨c, 1, none⟩ = some y ∧ Below w.heap.size w b ∧ Tab b := ⟨keepc hb h.1, keepc hb h.2.1, bthen h.2.2.1 hb, h.2.2.2.keep hb⟩

set_option maxHeartbeats 1000000 in
theorem place_any {W : World} (b : Nat) (op : ByteArray) (seq : Int) (hop : op.size ≤ 100) (hs : -9223372036854775808 ≤ seq ∧ seq ≤ 9223372036854775807) (h0 : W.cell? ⟨b, 0, none⟩ = some (.string op)) (h1 : W.cell? ⟨b, 1, none⟩ = some (.int .i64 seq)) (ht : Tab W) :
    Calls Tryd.prog 25 #[.pointer (some ⟨b, 0, none⟩)] W fun e w' => e = .returned (.string ⟨(placeL op seq).toArray⟩) ∧ Below W.heap.size W w' := by
  have hr : Below W.heap.size W W := Below.refl _ _
  have HT := Lib.hid ht
  have hil := itoa_len seq hs
  have hc1 : ∀ w : World, (Op.stringOp .add op ⟨#[32]⟩).run Tryd.prog w = .ok (.string (op ++ ⟨#[32]⟩)) w := fun w => run_string_add_sum w _ _ (by rw [show (⟨#[32]⟩ : ByteArray).size = 1 from rfl]; omega)
  have hc2 : ∀ w : World, (Op.stringOp .add (op ++ ⟨#[32]⟩) ⟨(Lib.itoa seq).toArray⟩).run Tryd.prog w = .ok (.string (op ++ ⟨#[32]⟩ ++ ⟨(Lib.itoa seq).toArray⟩)) w := fun w => run_string_add_sum w _ _ (by rw [ByteArray.size_append, show (⟨#[32]⟩ : ByteArray).size = 1 from rfl, size_toArray (Lib.itoa seq)]; omega)
  have hres : op ++ ⟨#[32]⟩ ++ ⟨(Lib.itoa seq).toArray⟩ = (⟨(placeL op seq).toArray⟩ : ByteArray) := by
    apply ByteArray.ext
    simp [placeL]
  have HR := Lib.hid hres
  clear ht hres hil
  go_enter Tryd.func25, Tryd.ntmps25
  go_wp2
  have ht := HT.out
  go_region_held3 (fun w' => w'.cell? ⟨b, 0, none⟩ = some (.string op) ∧ w'.cell? ⟨b, 1, none⟩ = some (.int .i64 seq) ∧ Below W.heap.size W w' ∧ Tab w') (first
    | exact ⟨by assumption, by assumption, by assumption, by assumption⟩
    | exact ⟨by go_simp, by go_simp, Below.drew (by assumption), Tab.drew (by assumption)⟩
    | exact held4 (by assumption) (by assumption)) (first
    | (go_at_call 41; refine (fmt_any seq hs _ (And.right (And.right (And.right (by assumption))))).mono ?_; rintro e w3 ⟨rfl, hb3⟩))
  go_wp2
  go_ret
  exact ⟨by rw [← HR.out]; rfl, And.left (And.right (And.right (by assumption)))⟩

theorem clo_text {W : World} (n : Int) (h1 : 1 ≤ n) (h2 : n ≤ 18) (pe ps : Nat) (x : Value) (he : W.cell? ⟨pe, 0, none⟩ = some (.iface 30 (.int .i64 n))) (hs : W.cell? ⟨ps, 0, none⟩ = some x) (hf : W.frozen? ⟨ps, 0, none⟩ = false) :
    Calls Tryd.prog 43 #[.pointer (some ⟨pe, 0, none⟩), .pointer (some ⟨ps, 0, none⟩)] W fun e w' => e = .returned (.tuple #[]) ∧ ∃ w1, Below W.heap.size W w1 ∧ w' = w1.setCell ⟨ps, 0, none⟩ (.string ⟨(nm n).toArray⟩) := by
  go_enter Tryd.func43, Tryd.ntmps43
  go_wp2_with (go_at_call 79; refine (errno_text n h1 h2).mono ?_; rintro e w1 ⟨rfl, hb⟩; have hs1 := keepc hb hs; have hf1 := keepf hb hs hf)
  go_returns
  exact ⟨rfl, w1, hb, rfl⟩

theorem text_num {W : World} (n : Int) (h1 : 1 ≤ n) (h2 : n ≤ 18) :
    Calls Tryd.prog 29 #[.iface 30 (.int .i64 n)] W fun e w' => e = .returned (.string ⟨(nm n).toArray⟩) ∧ Below W.heap.size W w' := by
  have hmf : ∀ (fn : Fn) (first cap : Array Value) (w : World), (Instr.makeFunc fn first cap).run Tryd.prog w = .ok (.func fn first cap) w := fun _ _ _ _ => rfl
  go_enter Tryd.func29, Tryd.ntmps29
  go_wp2_with (go_at_call 35; refine (calm_any 43 _ (fun w' => ∃ w1, Below ((W.alloc (.cells #[.iface 30 (.int .i64 n)] 26)).alloc (.cells #[.string ⟨#[111, 116, 104, 101, 114]⟩] 9)).heap.size ((W.alloc (.cells #[.iface 30 (.int .i64 n)] 26)).alloc (.cells #[.string ⟨#[111, 116, 104, 101, 114]⟩] 9)) w1 ∧ w' = w1.setCell ⟨W.heap.size + 1, 0, none⟩ (.string ⟨(nm n).toArray⟩)) _ (fun _ => by kernel_rfl) (clo_text n h1 h2 _ _ _ (up_cell (new_cell rfl)) (new_cell (by simp)) (new_frozen (by simp)))).mono ?_; rintro e w' ⟨rfl, w1, hb, rfl⟩; have hs1 := World.cell?_setCell_same _ _ (.string ⟨(nm n).toArray⟩) (keepc hb (new_cell (w := W.alloc (.cells #[.iface 30 (.int .i64 n)] 26)) (v := .string ⟨#[111, 116, 104, 101, 114]⟩) (t := 9) (n := W.heap.size + 1) (by simp))))
  go_ret
  exact ⟨rfl, (bthen (balloc (balloc (Below.refl _ _) _) _) hb).setCell (by simp) _⟩

theorem outer_num {W : World} (n : Int) (hg : Glob W) :
    Calls Tryd.prog 28 #[.iface 30 (.int .i64 n)] W fun e w' => e = .returned (.pointer none) ∧ Below W.heap.size W w' := by
  go_enter Tryd.func28, Tryd.ntmps28
  go_wp2_with (go_at_call 32; refine (find_nofault n (up_cell hg) _ (.pointer none) (new_cell rfl) (new_frozen rfl)).mono ?_; rintro e w2 ⟨rfl, hb2⟩)
  go_ret
  exact ⟨rfl, bthen (balloc (Below.refl _ _) _) hb2⟩

theorem outer_fault {W : World} (b : Nat) (hg : Glob W) :
    Calls Tryd.prog 28 #[.iface 36 (.pointer (some ⟨b, 0, none⟩))] W fun e w' => e = .returned (.pointer (some ⟨b, 0, none⟩)) ∧ Below W.heap.size W w' := by
  obtain ⟨i, hi, hcmp⟩ := Option.map_eq_some_iff.1 (show (Tryd.prog.info? 36).map (·.comparable) = some true by kernel_rfl)
  obtain ⟨j, hj, _⟩ := Option.map_eq_some_iff.1 (show (Tryd.prog.info? 40).map (·.size) = some 3 by kernel_rfl)
  have heq : ∀ w : World, (binOp .neq 26 (.iface 36 (.pointer (some ⟨b, 0, none⟩))) (.iface 36 (.pointer (some ⟨b, 0, none⟩)))).run Tryd.prog w = .ok (.bool false) w := by
    intro w
    have h := run_eql_iface_ptr_same (P := Tryd.prog) w ⟨b, 0, none⟩ Tryd.underlying26 Tryd.underlying36 hi hcmp hj
    simp only [binOp] at h ⊢
    simp only [Sem.run_bind] at h ⊢
    cases hq : (Op.equal 26 (Value.iface 36 (Value.pointer (some ⟨b, 0, none⟩))) (Value.iface 36 (Value.pointer (some ⟨b, 0, none⟩)))).run Tryd.prog w with
    | ok v w2 => rw [hq] at h; simp [Result.andThen] at h; obtain ⟨rfl, rfl⟩ := h; simp [Result.andThen]
    | halt x w2 => rw [hq] at h; simp [Result.andThen] at h
  clear hi hj
  go_enter Tryd.func28, Tryd.ntmps28
  go_wp2_with (go_at_call 32; refine (find_fault ⟨b, 0, none⟩ (up_cell hg) _ (.pointer none) (new_cell rfl) (new_frozen rfl)).mono ?_; rintro e w2 ⟨rfl, hp2⟩; have hc2 := hp2.2.2.1)
  go_ret
  exact ⟨rfl, put_from hp2 (balloc (Below.refl _ _) _) (Nat.le_refl _)⟩
end Go.Proofs.YtofkcjoonjhdpaaDoor
