/-
  The links that come in, whether they are small, and the error that is made of them: contracts. Condition: the links lie in memory as a list.
-/
import Derived.Test.YtofkcjoonjhdpaaDoorLaw1
namespace Go.Proofs.YtofkcjoonjhdpaaDoor
open Go.RowKit Go.Extern.Stop Go.Stop Go.Extern

/-- The cells of a list of links. -/
def LinkCells (W : World) (b off : Nat) (l : List (ByteArray × Int)) : Prop :=
  ∀ j, (h : j < l.length) → W.cell? ⟨b, off + j * 2, none⟩ = some (.string l[j].1) ∧ W.cell? ⟨b, off + j * 2 + 1, none⟩ = some (.int .i64 l[j].2)
/-- A value that is a list of links. -/
def Links (W : World) (v : Value) (l : List (ByteArray × Int)) : Prop :=
  (l = [] ∧ ∃ a cap, v = .slice a 0 cap) ∨ (l ≠ [] ∧ ∃ b off cap, v = .slice (some ⟨b, off, none⟩) l.length cap ∧ LinkCells W b off l)
def smallB (l : List (ByteArray × Int)) : Bool := decide (l.length ≤ 50) && l.all fun x => decide (x.1.size ≤ 100)
def SmRel (W : World) (l : List (ByteArray × Int)) (i : Value) (wl : World) : Prop :=
  ∃ k : Nat, k ≤ l.length ∧ i = .int .i64 k ∧ Below W.heap.size W wl ∧ ∀ j, (h : j < l.length) → j < k → l[j].1.size ≤ 100
theorem all_small {l : List (ByteArray × Int)} (h : ∀ j, (hj : j < l.length) → l[j].1.size ≤ 100) : (l.all fun x => decide (x.1.size ≤ 100)) = true := by
  rw [List.all_eq_true]
  intro x hx
  obtain ⟨j, hj, rfl⟩ := List.getElem_of_mem hx
  simpa using h j hj

set_option maxHeartbeats 1000000 in
theorem small_any {W : World} (v : Value) (l : List (ByteArray × Int)) (h : Links W v l) (hm : l.length ≤ 9223372036854775807) :
    Calls Tryd.prog 4 #[v] W fun e w' => e = .returned (.bool (smallB l)) ∧ Below W.heap.size W w' := by
  rcases h with ⟨rfl, a, cap, rfl⟩ | ⟨hne, b, off, cap, rfl, hc⟩
  · go_enter Tryd.func4, Tryd.ntmps4
    go_wp2
    refine wp_loop_rounds 1 ?_
    rw [rounds_succ]
    go_wp2
    go_ret
    exact ⟨rfl, Below.refl _ _⟩
  · have HC := Lib.hid hc
    clear hc
    by_cases h50 : l.length ≤ 50
    · go_enter Tryd.func4, Tryd.ntmps4
      go_wp2
      go_loopw [10] (fun i wl => SmRel W l i wl) (fun i _ => l.length - (intOf i).toNat)
      case atStart => exact ⟨0, Nat.zero_le _, rfl, Below.refl _ _, fun j h hj => absurd hj (Nat.not_lt_zero _)⟩
      case round =>
        obtain ⟨k, hk, rfl, hb, hno⟩ := hrel
        have HNO := Lib.hid hno
        clear hno
        by_cases hlt : k < l.length
        · have hc0 := keepc hb (HC.out k hlt).1
          have hc1 := keepc hb (HC.out k hlt).2
          by_cases hs : l[k].1.size ≤ 100
          · go_wp2
            refine ⟨⟨k + 1, by omega, by go_num, balloc hb _, fun j hj hjk => ?_⟩, by simp [intOf]; omega⟩
            rcases Nat.lt_or_eq_of_le (Nat.lt_succ_iff.1 hjk) with h | h
            · exact HNO.out j hj h
            · subst h; exact hs
          · go_wp2
            go_ret
            have : smallB l = false := by
              unfold smallB
              rw [Bool.and_eq_false_iff]
              right
              rw [List.all_eq_false]
              exact ⟨l[k], List.getElem_mem hlt, by simpa using hs⟩
            exact ⟨by rw [this]; rfl, balloc hb _⟩
        · go_wp2
          go_ret
          have : smallB l = true := by
            unfold smallB
            rw [all_small fun j hj => HNO.out j hj (by omega)]
            simpa using h50
          exact ⟨by rw [this]; rfl, hb⟩
    · go_enter Tryd.func4, Tryd.ntmps4
      go_wp2
      go_ret
      have : smallB l = false := by
        unfold smallB
        rw [Bool.and_eq_false_iff]
        left
        simpa using h50
      exact ⟨by rw [this]; rfl, Below.refl _ _⟩

def ChRel (W : World) (l : List (ByteArray × Int)) (n : Int) (E i : Value) (wl : World) : Prop :=
  ∃ k : Nat, k ≤ l.length ∧ i = .int .i64 ((k : Int) - 1) ∧ Below W.heap.size W wl ∧ ChainL wl E (l.drop k) n

set_option maxHeartbeats 1000000 in
theorem chain_any {W : World} (v : Value) (l : List (ByteArray × Int)) (n : Int) (h : Links W v l) (hm : l.length ≤ 50) :
    Calls Tryd.prog 6 #[v, .int .i64 n] W fun e w' => ∃ E, e = .returned E ∧ ChainL w' E l n ∧ Below W.heap.size W w' := by
  rcases h with ⟨rfl, a, cap, rfl⟩ | ⟨hne, b, off, cap, rfl, hc⟩
  · go_enter Tryd.func6, Tryd.ntmps6
    go_wp2
    refine wp_loop_rounds 1 ?_
    rw [rounds_succ]
    go_wp2
    go_ret
    exact ⟨_, rfl, .num n, Below.refl _ _⟩
  · have HC := Lib.hid hc
    clear hc
    go_enter Tryd.func6, Tryd.ntmps6
    go_wp2
    go_loopw [5, 6] (fun E i wl => ChRel W l n E i wl) (fun _ i _ => (intOf i + 1).toNat)
    case atStart => exact ⟨l.length, Nat.le_refl _, rfl, Below.refl _ _, by rw [List.drop_length]; exact .num n⟩
    case round =>
      obtain ⟨k, hk, rfl, hb, hch⟩ := hrel
      have HCH := Lib.hid hch
      obtain ⟨u1, v1, rfl⟩ := hch.chain.iface
      clear hch
      rcases Nat.eq_zero_or_pos k with rfl | hpos
      · go_wp2
        go_ret
        exact ⟨_, rfl, HCH.out, hb⟩
      · obtain ⟨j, rfl⟩ : ∃ j, k = j + 1 := ⟨k - 1, by omega⟩
        have hj : j < l.length := by omega
        have hc0 := keepc hb (HC.out j hj).1
        have hc1 := keepc hb (HC.out j hj).2
        have hd : List.drop j l = l[j] :: List.drop (j + 1) l := List.drop_eq_getElem_cons hj
        have HD := Lib.hid hd
        have hjz : (0 : Int) ≤ j := by omega
        have hjl : (j : Int) ≤ l.length := by omega
        rw [show (((j + 1 : Nat) : Int) - 1) = (j : Int) by omega]
        generalize hx : l[j] = x at hc0 hc1
        have HX := Lib.hid hx
        clear hd hx
        go_wp2
        go_region_held3 (fun w' => w'.cell? ⟨b, off + j * 2, none⟩ = some (.string x.1) ∧ w'.cell? ⟨b, off + j * 2 + 1, none⟩ = some (.int .i64 x.2)) (first
          | exact ⟨by assumption, by assumption⟩
          | exact ⟨up_cell (And.left (by assumption)), up_cell (And.right (by assumption))⟩
          | exact ⟨by go_simp, by go_simp⟩) (first
          | (go_at_call 15; refine (wrap_iface _ _ _ _).mono ?_; rintro e w' ⟨rfl, rfl⟩))
        go_wp2
        refine ⟨⟨j, by omega, rfl, (balloc hb _).drew, ?_⟩, by simp [intOf]⟩
        rw [HD.out, HX.out]
        exact .fault _ x.1 x.2 _ _ n (heap_at wr _ _ rfl) (HCH.out.keep (balloc (Below.refl _ _) _).drew)

/-- A list of links in memory stays one. -/
theorem Links.keep {W W' : World} (hb : Below W.heap.size W W') {v : Value} {l : List (ByteArray × Int)} (h : Links W v l) : Links W' v l := by
  rcases h with h | ⟨hne, b, off, cap, hv, hc⟩
  · exact Or.inl h
  · exact Or.inr ⟨hne, b, off, cap, hv, fun j hj => ⟨keepc hb (hc j hj).1, keepc hb (hc j hj).2⟩⟩
theorem Links.slice {W : World} {v : Value} {l : List (ByteArray × Int)} (h : Links W v l) : ∃ a cap, v = .slice a l.length cap := by
  rcases h with ⟨rfl, a, cap, rfl⟩ | ⟨_, b, off, cap, rfl, _⟩
  · exact ⟨a, cap, rfl⟩
  · exact ⟨_, cap, rfl⟩

theorem at_nil {W : World} (E : Value) (l : List (ByteArray × Int)) (n : Int) (hc : ChainL W E l n) (hd : l.length ≤ 1000) (hg : Glob W) (hl : l = []) :
    Calls Tryd.prog 7 #[E] W fun e w' => e = .returned (.tuple #[.string ⟨#[]⟩, .int .i64 0, .bool false]) ∧ Below W.heap.size W w' :=
  (at_list E l n hc hd hg).mono fun e w' h => by
    obtain ⟨hb, h | ⟨p, op, seq, h, _⟩⟩ := h
    · exact ⟨h.2, hb⟩
    · rw [hl] at h; simp at h
theorem at_last {W : World} (E : Value) (l : List (ByteArray × Int)) (n : Int) (hc : ChainL W E l n) (hd : l.length ≤ 1000) (hg : Glob W) (p : List (ByteArray × Int)) (o : ByteArray) (s : Int) (hl : l = p ++ [(o, s)]) :
    Calls Tryd.prog 7 #[E] W fun e w' => e = .returned (.tuple #[.string o, .int .i64 s, .bool true]) ∧ Below W.heap.size W w' :=
  (at_list E l n hc hd hg).mono fun e w' h => by
    obtain ⟨hb, h | ⟨p', op, seq, h, he⟩⟩ := h
    · rw [hl] at h; simp at h
    · rw [hl] at h
      have h2 := List.append_inj_right' h rfl
      simp at h2
      obtain ⟨rfl, rfl⟩ := h2
      exact ⟨he, hb⟩
end Go.Proofs.YtofkcjoonjhdpaaDoor
