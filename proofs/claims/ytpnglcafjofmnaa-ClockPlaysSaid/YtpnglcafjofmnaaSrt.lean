/-
  Timers by rising times, of one time as they were set: plain facts on lists. No condition but those that each names; nothing here speaks of a program.
-/
import Derived.Test.YtpnglcafjofmnaaTake
namespace Go.Proofs.Ytpnglcafjofmnaa

/-- A timer put behind all that aren't later. -/
def ins (t : Int × Int) : List (Int × Int) → List (Int × Int)
  | [] => [t]
  | x :: l => if t.1 < x.1 then t :: x :: l else x :: ins t l
theorem ins_cons (t x : Int × Int) (l : List (Int × Int)) : ins t (x :: l) = if t.1 < x.1 then t :: x :: l else x :: ins t l := rfl
/-- All, by rising times. -/
def srt (ms : List (Int × Int)) : List (Int × Int) := ms.foldl (fun l t => ins t l) []
def Sorted : List (Int × Int) → Prop
  | [] => True
  | x :: l => (∀ y ∈ l, x.1 ≤ y.1) ∧ Sorted l

theorem srt_snoc (ms : List (Int × Int)) (t : Int × Int) : srt (ms ++ [t]) = ins t (srt ms) := by unfold srt; rw [List.foldl_append]; rfl
theorem mem_ins (t y : Int × Int) : ∀ l, y ∈ ins t l ↔ y = t ∨ y ∈ l
  | [] => by simp [ins]
  | x :: l => by
    unfold ins
    split
    · simp
    · simp only [List.mem_cons, mem_ins t y l]
      constructor
      · rintro (h | h | h)
        · exact .inr (.inl h)
        · exact .inl h
        · exact .inr (.inr h)
      · rintro (h | h | h)
        · exact .inr (.inl h)
        · exact .inl h
        · exact .inr (.inr h)
theorem ins_sorted (t : Int × Int) : ∀ l, Sorted l → Sorted (ins t l)
  | [], _ => ⟨by simp, trivial⟩
  | x :: l, h => by
    unfold ins
    split
    · rename_i hlt
      refine ⟨fun y hy => ?_, h⟩
      rcases List.mem_cons.1 hy with rfl | hy
      · omega
      · have := h.1 y hy; omega
    · rename_i hge
      refine ⟨fun y hy => ?_, ins_sorted t l h.2⟩
      rcases (mem_ins t y l).1 hy with rfl | hy
      · omega
      · exact h.1 y hy
theorem foldl_sorted : ∀ (ms l : List (Int × Int)), Sorted l → Sorted (ms.foldl (fun l t => ins t l) l)
  | [], _, h => h
  | t :: ms, l, h => foldl_sorted ms (ins t l) (ins_sorted t l h)
theorem srt_sorted (ms : List (Int × Int)) : Sorted (srt ms) := foldl_sorted ms [] trivial
theorem ins_length (t : Int × Int) : ∀ l, (ins t l).length = l.length + 1
  | [] => rfl
  | x :: l => by
    unfold ins
    split
    · rfl
    · simp only [List.length_cons, ins_length t l]
theorem foldl_length : ∀ (ms l : List (Int × Int)), (ms.foldl (fun l t => ins t l) l).length = ms.length + l.length
  | [], _ => by simp
  | t :: ms, l => by simp only [List.foldl_cons, foldl_length ms (ins t l), ins_length, List.length_cons]; omega
theorem srt_length (ms : List (Int × Int)) : (srt ms).length = ms.length := by unfold srt; rw [foldl_length]; simp
theorem mem_foldl (y : Int × Int) : ∀ (ms l : List (Int × Int)), y ∈ ms.foldl (fun l t => ins t l) l ↔ y ∈ ms ∨ y ∈ l
  | [], l => by simp
  | t :: ms, l => by
    simp only [List.foldl_cons, mem_foldl y ms (ins t l), mem_ins, List.mem_cons]
    constructor
    · rintro (h | h | h)
      · exact .inl (.inr h)
      · exact .inl (.inl h)
      · exact .inr h
    · rintro ((h | h) | h)
      · exact .inr (.inl h)
      · exact .inl h
      · exact .inr (.inr h)
theorem mem_srt (y : Int × Int) (ms : List (Int × Int)) : y ∈ srt ms ↔ y ∈ ms := by unfold srt; rw [mem_foldl]; simp

/-- Putting in, and leaving out. -/
theorem ins_low (t : Int × Int) : ∀ l : List (Int × Int), (∀ y ∈ l, t.1 < y.1) → ins t l = t :: l
  | [], _ => rfl
  | x :: l, h => by unfold ins; rw [if_pos (h x (List.mem_cons_self ..))]
theorem ins_filter (q : Int × Int → Bool) (t : Int × Int) : ∀ l, Sorted l → (ins t l).filter q = if q t then ins t (l.filter q) else l.filter q
  | [], _ => by
    cases h : q t <;> simp [h, ins]
  | x :: l, h => by
    rw [ins_cons]
    split
    · rename_i hlt
      cases ht : q t with
      | false => simp [ht, List.filter_cons]
      | true =>
        have hall : ∀ y ∈ (x :: l).filter q, t.1 < y.1 := by
          intro y hy
          have hy := (List.mem_filter.1 hy).1
          rcases List.mem_cons.1 hy with rfl | hy
          · exact hlt
          · have := h.1 y hy; omega
        rw [List.filter_cons, if_pos ht, if_pos rfl, ins_low t _ hall]
    · rename_i hge
      have ih := ins_filter q t l h.2
      cases hx : q x with
      | false =>
        rw [List.filter_cons_of_neg (by simp [hx]), ih, List.filter_cons_of_neg (by simp [hx])]
      | true =>
        rw [List.filter_cons_of_pos hx, ih, List.filter_cons_of_pos hx]
        cases ht : q t with
        | false => simp
        | true =>
          simp only [if_true]
          rw [ins_cons, if_neg hge]
theorem foldl_filter (q : Int × Int → Bool) : ∀ (ms l : List (Int × Int)), Sorted l → (ms.foldl (fun l t => ins t l) l).filter q = (ms.filter q).foldl (fun l t => ins t l) (l.filter q)
  | [], _, _ => rfl
  | t :: ms, l, h => by
    rw [List.foldl_cons, foldl_filter q ms (ins t l) (ins_sorted t l h), ins_filter q t l h]
    cases ht : q t with
    | false => rw [List.filter_cons_of_neg (by simp [ht])]; simp
    | true => rw [List.filter_cons_of_pos ht]; simp
theorem srt_filter (q : Int × Int → Bool) (ms : List (Int × Int)) : (srt ms).filter q = srt (ms.filter q) := by unfold srt; rw [foldl_filter q ms [] trivial]; rfl

/-- The first of the least stands ahead of all. -/
theorem foldl_head (m : Int × Int) : ∀ (bs l : List (Int × Int)), (∀ b ∈ bs, m.1 ≤ b.1) → bs.foldl (fun l t => ins t l) (m :: l) = m :: bs.foldl (fun l t => ins t l) l
  | [], _, _ => rfl
  | b :: bs, l, h => by
    have hb := h b (List.mem_cons_self ..)
    rw [List.foldl_cons, List.foldl_cons]
    rw [ins_cons, if_neg (by omega)]
    exact foldl_head m bs (ins b l) fun b' hb' => h b' (List.mem_cons_of_mem _ hb')
theorem srt_head (aa bs : List (Int × Int)) (m : Int × Int) (ha : ∀ a ∈ aa, m.1 < a.1) (hb : ∀ b ∈ bs, m.1 ≤ b.1) : srt (aa ++ m :: bs) = m :: srt (aa ++ bs) := by
  unfold srt
  rw [List.foldl_append, List.foldl_cons, List.foldl_append]
  have h : ins m (aa.foldl (fun l t => ins t l) []) = m :: aa.foldl (fun l t => ins t l) [] := ins_low m _ fun y hy => by
    rcases (mem_foldl y aa []).1 hy with h | h
    · exact ha y h
    · simp at h
  rw [h, foldl_head m bs _ hb]
end Go.Proofs.Ytpnglcafjofmnaa
