/-
  What of memory a call may turn: a set of blocks; rows that a call owns and appends to, with the block in which they lie. No condition but those that each theorem names; nothing here speaks of a program.
  append to a row that the call owns, as one step of a region that draws its order. No condition but those that it names; nothing here speaks of a program.
  A region that draws its order and whose callees make memory but turn none: one walk in the text's order. Nothing here speaks of a program.
  A region that draws its order: its head reads, or calls what only makes memory; its tail, in one forced order, does as it likes: one walk serves all orders. Nothing here speaks of a program.
  A region that draws its order, walked by hand with the frame a variable: what is put where, in any order; what operations yield. Nothing here speaks of a program.
  A region that draws its order, under an invariant that speaks of what is listed: one obligation an operation of its head, whatever order it takes; behind the head its tail, in one forced order. Nothing here speaks of a program.
  A region that draws its order, walked by what is listed: the frame is the first one with the slots of what is listed set, whatever came first; one obligation an operation. Nothing here speaks of a program.
  append to a row with room, the row known cell by cell. No condition but those that it names; nothing here speaks of a program.
  A region that draws its order, walked by what is listed: what operations yield, literals, appends. Nothing here speaks of a program.
  Plain facts on powers of two and on the integer operations that package pow uses. No condition.
  What package pow's functions do at a size of two to the k slots (k from 0 to 20): contracts. A number is any of its kind where no condition says other.
  What a refusal leaves: an error by its number, and nothing turned; errors stay what they are. No condition but those that each theorem names.
-/
import Derived.Test.YtdfcfdcekdmcmaaGreatPk01
import Derived.OneCell
import Derived.Laws.OwnMore
import Derived.Below
import Derived.WalkKit
import Derived.Lib.Hide
import Derived.Deep.QuietTactic
import Derived.Deep.RegionLaw
import Derived.BigQuiet
import Derived.StillTail
import Derived.Deep.RegionHeld3
import Derived.Deep.MidRow
import Derived.Great.BuildSlice
import Derived.Laws.BitsLemmas
import Derived.Test.YtdfcfdcekdmcmaaGreatChecked
import Derived.Handy
set_option linter.unusedVariables false
set_option linter.unusedSimpArgs false
namespace Go.Proofs.YtdfcfdcekdmcmaaGreat
open Go.RowKit
structure Frm (S : Nat → Prop) (w w' : World) : Prop where
  os : w'.os = w.os
  tape : w'.tape = w.tape
  output : w'.output = w.output
  size : w.heap.size ≤ w'.heap.size
  block : ∀ k, k < w.heap.size → ¬ S k → w'.heap[k]? = w.heap[k]?
theorem Frm.refl (S : Nat → Prop) (w : World) : Frm S w w := ⟨rfl, rfl, rfl, Nat.le_refl _, fun _ _ _ => rfl⟩
theorem Frm.trans {S : Nat → Prop} {a b c : World} (h : Frm S a b) (k : Frm S b c) : Frm S a c :=
  ⟨k.os.trans h.os, k.tape.trans h.tape, k.output.trans h.output, Nat.le_trans h.size k.size, fun i hi hs => (k.block i (Nat.lt_of_lt_of_le hi h.size) hs).trans (h.block i hi hs)⟩
theorem Frm.mono {S T : Nat → Prop} {w w' : World} (h : Frm S w w') (hST : ∀ k, k < w.heap.size → S k → T k) : Frm T w w' :=
  ⟨h.os, h.tape, h.output, h.size, fun k hk hT => h.block k hk fun hs => hT (hST k hk hs)⟩
theorem Frm.then {S T : Nat → Prop} {a b c : World} (h : Frm S a b) (k : Frm T b c) (hTS : ∀ k, k < a.heap.size → T k → S k) : Frm S a c :=
  ⟨k.os.trans h.os, k.tape.trans h.tape, k.output.trans h.output, Nat.le_trans h.size k.size, fun i hi hs => (k.block i (Nat.lt_of_lt_of_le hi h.size) (fun ht => hs (hTS i hi ht))).trans (h.block i hi hs)⟩
theorem Frm.alloc {S : Nat → Prop} {a w : World} (h : Frm S a w) (o : Obj) : Frm S a (w.alloc o) :=
  h.trans ⟨rfl, rfl, rfl, by simp, fun k hk _ => Below.heap_alloc _ _ _ hk⟩
theorem Frm.drew {S : Nat → Prop} {a w : World} (h : Frm S a w) : Frm S a w.drew := ⟨h.os, h.tape, h.output, h.size, h.block⟩
theorem Frm.drewN {S : Nat → Prop} {a w : World} (h : Frm S a w) (n : Nat) : Frm S a (w.drewN n) := ⟨h.os, h.tape, h.output, h.size, h.block⟩
theorem Frm.setCell {S : Nat → Prop} {a w : World} (h : Frm S a w) {p : Addr} (hp : S p.block) (u : Value) : Frm S a (w.setCell p u) :=
  h.trans ⟨rfl, rfl, rfl, by simp [World.setCell], fun k _ hk => Below.heap_setCell _ _ _ _ (fun e => hk (e ▸ hp))⟩
theorem Frm.of_below {w w' : World} (h : Below w.heap.size w w') (S : Nat → Prop) : Frm S w w' := ⟨h.os, h.tape, h.output, h.size, fun k hk _ => h.block k hk⟩
theorem Frm.of_grown {w w' : World} {row : Option Nat} (h : w.grownBy w' row) : Frm (fun k => row = some k) w w' := ⟨h.os, h.tape, h.output, h.size, fun k hk hs => h.block k hk fun e => hs e.symm⟩
theorem Frm.below {S : Nat → Prop} {B : Nat} {w w' : World} (h : Frm S w w') (hB : B ≤ w.heap.size) (hS : ∀ k, S k → B ≤ k) : Below B w w' :=
  ⟨h.os, h.tape, h.output, h.size, fun k hk => h.block k (by omega) fun hs => by have := hS k hs; omega⟩
theorem Frm.obj {S : Nat → Prop} {w w' : World} (h : Frm S w w') {b : Nat} {o : Obj} (hc : w.heap[b]? = some o) (hs : ¬ S b) : w'.heap[b]? = some o :=
  (h.block b (lt_of_block hc) hs).trans hc
theorem Frm.row {S : Nat → Prop} {w w' : World} (h : Frm S w w') {base : Nat} {e : TypeId} {size : Nat} {v : Value} {n : Nat} {xs : List Value} (ho : w.ownsRow base e size v n xs) (hs : ∀ g, v.ownBlock = some g → ¬ S g) : w'.ownsRow base e size v n xs := by
  obtain ⟨h1, h2⟩ := ho
  refine ⟨h1, ?_⟩
  rcases h2 with h2 | ⟨g, cap, cur, rfl, hg, hh, r⟩
  · exact Or.inl h2
  · exact Or.inr ⟨g, cap, cur, rfl, hg, h.obj hh (hs g (by simp [Value.ownBlock])), r⟩
theorem obj_setCell {w : World} {b i : Nat} {cs : Array Value} {t : TypeId} {m : Nat × Nat} (u : Value) (h : w.heap[b]? = some (.cells cs t m)) : (w.setCell ⟨b, i, none⟩ u).heap[b]? = some (.cells (cs.setIfInBounds i u) t m) := by
  have hlt := lt_of_block h
  have h' : w.heap[b] = .cells cs t m := by simpa [Array.getElem?_eq_getElem hlt] using h
  show (w.heap.modify b _)[b]? = _
  rw [Array.getElem?_eq_getElem (by simpa using hlt), Array.getElem_modify_self, h']
  simp
theorem obj_cell {w : World} {b : Nat} {cs : Array Value} {t : TypeId} {m : Nat × Nat} (h : w.heap[b]? = some (.cells cs t m)) (i : Nat) : w.cell? ⟨b, i, none⟩ = cs[i]? := by simp [World.cell?, h]
theorem obj_free {w : World} {b : Nat} {cs : Array Value} {t : TypeId} (h : w.heap[b]? = some (.cells cs t (0, 0))) (i : Nat) : w.frozen? ⟨b, i, none⟩ = false := by simp [World.frozen?, h]
theorem obj_new (w : World) (o : Obj) : (w.alloc o).heap[w.heap.size]? = some o := heap_alloc_new w o
theorem obj_old {w : World} {b : Nat} {o : Obj} (p : Obj) (h : w.heap[b]? = some o) : (w.alloc p).heap[b]? = some o := (Below.heap_alloc w p b (lt_of_block h)).trans h
theorem ownsRow_obj {w : World} {base : Nat} {e : TypeId} {size : Nat} {v : Value} {n : Nat} {xs : List Value} (h : w.ownsRow base e size v n xs) {g : Nat} (hg : v.ownBlock = some g) : ∃ cur, w.heap[g]? = some (.cells cur e (0, 0)) := by
  rcases h.2 with ⟨rfl, _⟩ | ⟨g', cap, cur, rfl, _, hh, _⟩
  · simp [Value.ownBlock] at hg
  · simp [Value.ownBlock] at hg; subst hg; exact ⟨cur, hh⟩
theorem row_ne {w : World} {base : Nat} {e t : TypeId} {size : Nat} {v : Value} {n b : Nat} {xs : List Value} {cs : Array Value} {m : Nat × Nat} (h : w.ownsRow base e size v n xs) (hb : w.heap[b]? = some (.cells cs t m)) (hne : e ≠ t) : v.ownBlock ≠ some b := by
  intro hg
  obtain ⟨cur, hc⟩ := ownsRow_obj h hg
  rw [hb] at hc
  simp at hc
  exact hne hc.2.1.symm
theorem obj_ne {w : World} {a b : Nat} {s t : TypeId} {cs ds : Array Value} {m n : Nat × Nat} (ha : w.heap[a]? = some (.cells cs s m)) (hb : w.heap[b]? = some (.cells ds t n)) (hne : s ≠ t) : a ≠ b := by
  rintro rfl
  rw [hb] at ha
  simp at ha
  exact hne ha.2.1.symm
theorem row_lt {w : World} {base : Nat} {e : TypeId} {size : Nat} {v : Value} {n : Nat} {xs : List Value} (h : w.ownsRow base e size v n xs) {g : Nat} (hg : v.ownBlock = some g) : g < w.heap.size := (h.lt g hg).2
theorem row_some {w : World} {base : Nat} {e : TypeId} {v : Value} {n : Nat} {xs : List Value} (h : w.ownsRow base e 1 v n xs) (hn : 0 < n) : ∃ g cap, v = .slice (some ⟨g, 0, none⟩) n cap ∧ n ≤ cap ∧ cap ≤ maxLen := by
  rcases h.2 with ⟨_, rfl⟩ | ⟨g, cap, cur, rfl, _, _, h1, h2, _⟩
  · omega
  · exact ⟨g, cap, rfl, h1, h2⟩
theorem row_form {w : World} {base : Nat} {e : TypeId} {size : Nat} {v : Value} {n : Nat} {xs : List Value} (h : w.ownsRow base e size v n xs) : ∃ p c, v = .slice p n c ∧ c ≤ maxLen := by
  rcases h.2 with ⟨rfl, rfl⟩ | ⟨g, cap, cur, rfl, _, _, h1, h2, _⟩
  · exact ⟨_, _, rfl, by simp [maxLen]⟩
  · exact ⟨_, _, rfl, h2⟩
section
variable {P : Program} {w : World}
theorem run_append_row (t ty e : TypeId) (i : TypeInfo) (z : Value) (size bytes : Nat) (ht : P.underlying t = some (.slice e)) (hi : P.info? e = some i) (hz : i.zero = some z)
    (hsize : i.size = size) (hby : i.bytes = bytes) (hzs : z.cells.size = size) (hsz : 0 < size)
    (v : Value) (n : Nat) (xs : List Value) (hown : w.ownsRow 0 e size v n xs)
    (a : Addr) (m c : Nat) (news : List Value) (hl : news.length = m * size) (hnews : ∀ j u, news[j]? = some u → w.cell? (a.add j) = some u) (h1 : ∀ u ∈ news, u.oneCell' = true)
    (h63 : n + m ≤ maxLen) (hbytes : (n + m) * bytes ≤ 140737488355328) :
    ∃ v' w', (Builtin.append_ #[t, t] ty #[v, .slice (some a) m c]).run P w = .ok v' w' ∧ w'.ownsRow 0 e size v' (n + m) (xs ++ news) ∧ Frm (fun k => v.ownBlock = some k) w w' ∧
      (v'.ownBlock = v.ownBlock ∨ ∀ g, v'.ownBlock = some g → w.heap.size ≤ g) := by
  obtain ⟨v', w', hr, ho, hg, hn⟩ := run_append_own (P := P) w 0 t ty e i z size bytes ht hi hz hsize hby hzs hsz v n xs hown a m c news hl hnews h1 h63 hbytes (Nat.zero_le _)
  refine ⟨v', w', hr, ho, Frm.of_grown hg, ?_⟩
  rcases hown.2 with ⟨rfl, rfl⟩ | ⟨g, cap, cur, rfl, _, hgg, hnc, hcm, hcs, htake⟩
  · have hx : xs = [] := List.eq_nil_of_length_eq_zero (by simpa using hown.1)
    subst hx
    obtain ⟨v2, w2, hr2, ho2, _⟩ := run_append_own (P := P) w w.heap.size t ty e i z size bytes ht hi hz hsize hby hzs hsz _ 0 [] (World.ownsRow_nil w w.heap.size e size) a m c news hl hnews h1 h63 hbytes (Nat.le_refl _)
    rw [hr] at hr2
    simp only [Result.ok.injEq] at hr2
    obtain ⟨rfl, rfl⟩ := hr2
    exact .inr fun g hg => (ho2.lt g hg).1
  · by_cases hroom : n + m ≤ cap
    · subst hsize
      have hfit : n * i.size + news.length ≤ cur.size := by rw [hl, hcs, ← Nat.add_mul]; exact Nat.mul_le_mul_right _ hroom
      have hr2 := run_append_room (P := P) w t ty e i ht hi g n cap cur hgg a m c news hl hnews h1 hroom hfit
      rw [hr] at hr2
      simp only [Result.ok.injEq] at hr2
      exact .inl (by rw [hr2.1]; rfl)
    · subst hsize
      have holds : ∀ j u, xs[j]? = some u → w.cell? ((⟨g, 0, none⟩ : Addr).add j) = some u := hown.cells (g := g) rfl
      have h63' : n + m ≤ 9223372036854775807 := by simp only [maxLen] at h63; omega
      have hr2 := run_append_grow (P := P) w t ty e i z ht hi hz ⟨g, 0, none⟩ n cap xs hown.1 holds a m c news hl hnews (by omega) (by omega) (growslice_fits (by omega) (by rw [hby]; exact hbytes))
      rw [hr] at hr2
      simp only [Result.ok.injEq] at hr2
      refine .inr fun g' hg' => ?_
      rw [hr2.1] at hg'
      simp [Value.ownBlock] at hg'
      omega
theorem wpList_append_row {ops : Array Oper} {rest : List Oper} {o : Oper} {a : Act} {Q : Exit → Act → World → Prop} (hgd : o.guard = none) (s x : Operand) (t : TypeId)
    (ho : o.op = .call { callee := .builtin .append, args := #[s, x], argTypes := #[t, t] })
    (e : TypeId) (i : TypeInfo) (z : Value) (size bytes : Nat) (ht : P.underlying t = some (.slice e)) (hi : P.info? e = some i) (hz : i.zero = some z)
    (hsize : i.size = size) (hby : i.bytes = bytes) (hzs : z.cells.size = size) (hsz : 0 < size)
    (v : Value) (n : Nat) (xs : List Value) (hs : a.eval s = v) (hown : w.ownsRow 0 e size v n xs)
    (ad : Addr) (m c : Nat) (news : List Value) (hx : a.eval x = .slice (some ad) m c) (hl : news.length = m * size) (hnews : ∀ j u, news[j]? = some u → w.cell? (ad.add j) = some u) (h1 : ∀ u ∈ news, u.oneCell' = true)
    (h63 : n + m ≤ maxLen) (hbytes : (n + m) * bytes ≤ 140737488355328)
    (h : ∀ v' w', w'.ownsRow 0 e size v' (n + m) (xs ++ news) → Frm (fun k => v.ownBlock = some k) w w' → (v'.ownBlock = v.ownBlock ∨ ∀ g, v'.ownBlock = some g → w.heap.size ≤ g) → wpList P ops Q rest (a.put o.dst v') w') : wpList P ops Q (o :: rest) a w := by
  refine wpList_plain hgd fun _ hK => ?_
  obtain ⟨v', w', hr, h2, h3, h4⟩ := run_append_row (P := P) t o.type e i z size bytes ht hi hz hsize hby hzs hsz v n xs hown ad m c news hl hnews h1 h63 hbytes
  unfold Oper.wp execOp
  simp only [ho, resolve, invoke, builtin, Sem.run_bind, Sem.run_pure, Result.andThen_ok, List.map_toArray, List.map_cons, List.map_nil, hs, hx, hr]
  exact hK _ _ (h v' w' h2 h3 h4)
end
end Go.Proofs.YtdfcfdcekdmcmaaGreat
namespace Go.Proofs.YtdfcfdcekdmcmaaGreat
open Go.RowKit
theorem step_append_row {P : Program} {ops : Array Oper} {o : Oper} {a : Act} {w : World} {K : Act → World → Prop} {Q : Exit → Act → World → Prop} {E : Prop}
    (hg : o.guard = none) (s x : Operand) (t : TypeId) (ho : o.op = Op.call { callee := Callee.builtin Builtin.append, args := #[s, x], argTypes := #[t, t] })
    (e : TypeId) (i : TypeInfo) (z : Value) (size bytes : Nat) (ht : P.underlying t = some (.slice e)) (hi : P.info? e = some i) (hz : i.zero = some z)
    (hsize : i.size = size) (hby : i.bytes = bytes) (hzs : z.cells.size = size) (hsz : 0 < size)
    (v : Value) (n : Nat) (xs : List Value) (hs : a.eval s = v) (hown : w.ownsRow 0 e size v n xs)
    (ad : Addr) (m c : Nat) (news : List Value) (hx : a.eval x = .slice (some ad) m c) (hl : news.length = m * size) (hnews : ∀ j u, news[j]? = some u → w.cell? (ad.add j) = some u) (h1 : ∀ u ∈ news, u.oneCell' = true)
    (h63 : n + m ≤ maxLen) (hbytes : (n + m) * bytes ≤ 140737488355328)
    (h : ∀ v' w', w'.ownsRow 0 e size v' (n + m) (xs ++ news) → Frm (fun k => v.ownBlock = some k) w w' → (v'.ownBlock = v.ownBlock ∨ ∀ g, v'.ownBlock = some g → w.heap.size ≤ g) → K (a.put o.dst v') w') :
    if Region.wanted o (yielded ops a.tmps) = true then Oper.wp P o a w K Q else E := by
  have hw : Region.wanted o (yielded ops a.tmps) = true := by simp [Region.wanted, hg]
  rw [if_pos hw]
  obtain ⟨v', w', hr, h2, h3, h4⟩ := run_append_row (P := P) t o.type e i z size bytes ht hi hz hsize hby hzs hsz v n xs hown ad m c news hl hnews h1 h63 hbytes
  unfold Oper.wp execOp
  simp only [ho, resolve, invoke, builtin, Sem.run_bind, Sem.run_pure, Result.andThen_ok, List.map_toArray, List.map_cons, List.map_nil, hs, hx, hr]
  exact h v' w' h2 h3 h4
end Go.Proofs.YtdfcfdcekdmcmaaGreat
namespace Go.Proofs.YtdfcfdcekdmcmaaGreat
open Go.RowKit
structure Later (w : World) where
  to : World
  below : Below w.heap.size w to
instance (w : World) : Nonempty (Later w) := ⟨⟨w, ⟨rfl, rfl, rfl, Nat.le_refl _, fun _ _ => rfl⟩⟩⟩
theorem wp_region_later {P : Program} {id : Nat} {Q : Exit → Act → World → Prop} {a : Act} {w : World} {l : List Oper} (hm : P.follows .mixedOrders = true) (hB : Region.lexB .any l.toArray = true)
    (h : wpQuiet P l.toArray (fun w' => ∃ x : Later w, w' = x.to) (fun a' => ∀ w', (∃ x : Later w, w' = x.to) → Q .normal a' w') l a) : (Code.region id l.toArray true).wp P Q a w :=
  wp_region_quiet (C := fun w' => ∃ x : Later w, w' = x.to) hm hB ⟨⟨{ w with drawn := w.drawn + 1 }, ⟨rfl, rfl, rfl, Nat.le_refl _, fun _ _ => rfl⟩⟩, rfl⟩ (by simpa using h)
end Go.Proofs.YtdfcfdcekdmcmaaGreat
namespace Go.Proofs.YtdfcfdcekdmcmaaGreat
open Go.RowKit
section
variable {P : Program} {ops : Array Oper} {C : World → Prop}
def Head (P : Program) (ops : Array Oper) (C : World → Prop) (n : Nat) (L : Array Bool → Act → Prop) : Nat → Array Bool → Act → Prop
  | 0, s, a => L s a
  | f + 1, s, a => Region.ready .any ops s ≠ [] ∧ ∀ i ∈ Region.ready .any ops s, i < n ∧ qOp P ops C i (Head P ops C n L f (s.setIfInBounds i true)) a
theorem head_any {n g : Nat} {L : Array Bool → Act → Prop} {Q : Exit → Act → World → Prop} (hL : ∀ s a w, C w → L s a → wpAny P .any ops Q g s a w) (f : Nat) :
    ∀ (s : Array Bool) (a : Act) (w : World), C w → Head P ops C n L f s a → wpAny P .any ops Q (f + g) s a w := by
  induction f with
  | zero => intro s a w hw h; rw [Nat.zero_add]; exact hL s a w hw h
  | succ f ih =>
    intro s a w hw h
    rw [show f + 1 + g = (f + g) + 1 by omega]
    exact ⟨fun h0 => absurd h0 h.1, fun i hi => wpOp_of_qOp hw (fun a' w' hw' => ih _ a' w' hw') (h.2 i hi).2⟩
theorem head_first {n i : Nat} {o : Oper} {v : Value} {L : Array Bool → Act → Prop} (hi : ops[i]? = some o) (hsel : ∀ (j : Nat) (o : Oper) cs b, ops[j]? = some o → o.op ≠ .select cs b)
    (hlate : ∀ s, HeadInv .any ops n s → s.getD i true = false → ∀ t, n ≤ t → t ∉ Region.ready .any ops s) (hin : i < n) (hL : ∀ s a, L s a → ∀ j ∈ Region.ready .any ops s, n ≤ j) (f : Nat) :
    ∀ (s : Array Bool) (a : Act), HeadInv .any ops n s →
      (∀ j q, ops[j]? = some q → j ≠ i → s.getD j true = false → (∀ e ∈ q.after, Region.binds .any e = true → e.on ≠ i) → o.apart ops q = true) →
      i ∈ Region.ready .any ops s → YieldsIn P ops C o v a → Head P ops C n L f (s.setIfInBounds i true) (a.put o.dst v) → Head P ops C n L (f + 1) s a := by
  induction f with
  | zero =>
    intro s a inv _ hr hy H
    refine ⟨fun h => (by rw [h] at hr; cases hr), fun j hj => ?_⟩
    have hjn : j < n := Nat.lt_of_not_le fun h => hlate s inv (mem_ready.1 hr).1 j h hj
    by_cases e : j = i
    · subst e; exact ⟨hjn, hy.qOp hi H⟩
    · exact absurd (hL _ _ H j (ready_mono hj e)) (by omega)
  | succ f ih =>
    intro s a inv hap hr hy H
    refine ⟨fun h => (by rw [h] at hr; cases hr), fun j hj => ?_⟩
    have hjn : j < n := Nat.lt_of_not_le fun h => hlate s inv (mem_ready.1 hr).1 j h hj
    refine ⟨hjn, ?_⟩
    by_cases e : j = i
    · subst e; exact hy.qOp hi H
    · obtain ⟨hju, q, hq, hall⟩ := mem_ready.1 hj
      have hno : ∀ e ∈ q.after, Region.binds .any e = true → e.on ≠ i := fun d hd hb he => by
        have h1 := hall d hd hb
        rw [he, getD_both (mem_ready.1 hr).1] at h1
        cases h1
      have hq1 := qOp_put hq (hap j q hq e hju hno) (fun cs b => hsel i o cs b hi) (fun cs b => hsel j q cs b hq) hy (H.2 j (ready_mono hj e)).2
      refine qOp_mono (fun a' h3 => ih _ a' (inv.set hj hjn) (fun k p hk hki hun hw => ?_) (ready_mono hr (Ne.symm e)) h3.1 ?_) hq1
      · refine hap k p hk hki ?_ hw
        by_cases ejk : j = k
        · subst ejk; exact hju
        · rwa [getD_set_ne true ejk] at hun
      · rw [Array.setIfInBounds_comm _ _ e]; exact h3.2
theorem head_lex {n g : Nat} {L : Act → Prop} (hsel : Region.noSelect ops = true) (hs : Region.sinkB .any ops n = true) (hc : Region.chainB .any ops n = true) (hn : n < ops.size) (l : List Oper) :
    ∀ (k : Nat) (s : Array Bool) (a : Act), (∀ j, j < l.length → l[j]? = ops[k + j]?) → k + l.length = n → HeadInv .any ops n s → Region.lexHead .any ops g l.length k s = true →
      wpQuiet P ops C L l a → Head P ops C n (fun s' a' => Region.seqB .any ops g n s' = true ∧ L a') l.length s a := by
  induction l with
  | nil =>
    intro k s a _ hk _ hB h
    obtain rfl : k = n := by simpa using hk
    exact ⟨by simpa [Region.lexHead] using hB, h⟩
  | cons o l ih =>
    intro k s a hl hk inv hB h
    have h0 : ops[k]? = some o := by simpa using (hl 0 (by simp)).symm
    simp only [List.length_cons, Region.lexHead, Bool.and_eq_true] at hB hk
    obtain ⟨⟨hr, hf⟩, hB'⟩ := hB
    have hr' : k ∈ Region.ready .any ops s := by simpa using hr
    have hst : qOp P ops C k (wpQuiet P ops C L l) a := by unfold qOp; simp only [h0]; exact h
    obtain ⟨v, hy, hK⟩ := yieldsIn_of_qOp h0 hst
    refine head_first h0 (Region.noSelect_spec hsel) (fun s' inv' hun => tail_waits hs hc hn inv' _ k rfl (by omega) hun) (by omega) (fun s' a' hL => seqB_ready hL.1) l.length s a inv (Region.free_spec h0 hf) hr' hy
      (ih (k + 1) _ _ (fun j hj => ?_) (by omega) (inv.set hr' (by omega)) hB' hK)
    have := hl (j + 1) (by simp; omega)
    simpa [Nat.add_assoc, Nat.add_comm 1 j] using this
end
theorem wp_region_later_tail {P : Program} {id : Nat} {Q : Exit → Act → World → Prop} {a : Act} {w : World} {l : List Oper} (n : Nat) (hm : P.follows .mixedOrders = true) (hB : Region.lexTailB .any l.toArray n = true)
    (h : wpQuiet P l.toArray (fun w' => ∃ x : Later w, w' = x.to) (fun a' => ∀ w', (∃ x : Later w, w' = x.to) → wpList P l.toArray Q (l.drop n) a' w') (l.take n) a) : (Code.region id l.toArray true).wp P Q a w := by
  simp only [Region.lexTailB, Bool.and_eq_true, decide_eq_true_eq] at hB
  obtain ⟨⟨⟨⟨hsel, hn⟩, hs⟩, hc⟩, hlex⟩ := hB
  have hn' : n < l.length := by simpa using hn
  have htl : (l.take n).length = n := by simp; omega
  have hdl : (l.drop n).length = l.toArray.size - n := by simp
  have inv0 : HeadInv .any l.toArray n (Array.replicate l.toArray.size false) :=
    ⟨by simp, fun j q _ hl => (by rw [getD_replicate_false] at hl; cases hl), fun t _ ht => getD_in (by simpa using ht) (getD_replicate_false _ _)⟩
  have H := head_lex (g := l.toArray.size - n) hsel hs hc hn (l.take n) 0 _ a (fun j hj => by rw [htl] at hj; simp [hj]) (by rw [htl]; omega) inv0 (by rw [htl]; exact hlex) h
  refine wp_region_any hm ?_
  have := head_any (Q := Q) (g := l.toArray.size - n) (fun s a' w' hw' hL => by
    have := wpAny_of_seq (md := .any) (Q' := Q) (l.drop n) n s a' w' (fun j => by simp [List.getElem?_drop]) (by rw [hdl]; exact hL.1) (hL.2 w' hw')
    rwa [hdl] at this) _ _ _ { w with drawn := w.drawn + 1 } ⟨⟨{ w with drawn := w.drawn + 1 }, ⟨rfl, rfl, rfl, Nat.le_refl _, fun _ _ => rfl⟩⟩, rfl⟩ H
  rw [htl, show n + (l.toArray.size - n) = l.toArray.size by omega] at this
  exact this
end Go.Proofs.YtdfcfdcekdmcmaaGreat
namespace Go.Proofs.YtdfcfdcekdmcmaaGreat
open Go.RowKit
set_option linter.unusedVariables false
theorem put_comm (a : Act) {i j : Tmp} (h : i ≠ j) (u v : Value) : (a.put (some i) u).put (some j) v = (a.put (some j) v).put (some i) u := by
  simp only [Act.put]
  rw [Array.setIfInBounds_comm _ _ h]
theorem put_size (a : Act) (d : Option Tmp) (v : Value) : (a.put d v).tmps.size = a.tmps.size := by
  cases d <;> simp [Act.put]
theorem eval_ne (a : Act) {d t : Tmp} (h : d ≠ t) (v : Value) : (a.put (some d) v).eval (.tmp t) = a.eval (.tmp t) := by
  simp only [Act.put, Act.eval]
  simp [Array.getD_eq_getD_getElem?, Array.getElem?_setIfInBounds_ne h]
theorem eval_eq (a : Act) {t : Tmp} (h : t < a.tmps.size) (v : Value) : (a.put (some t) v).eval (.tmp t) = v := by
  simp only [Act.put, Act.eval]
  simp [Array.getD_eq_getD_getElem?, h]
theorem wp_through {P : Program} {c : Code} {Q : Exit → Act → World → Prop} {a : Act} {w : World} (R : Act → World → Prop) (h1 : c.wp P (fun e a' w' => e = .normal ∧ R a' w') a w) (h2 : ∀ a' w', R a' w' → Q .normal a' w') : c.wp P Q a w :=
  Code.wp_mono (fun e a' w' ⟨he, hr⟩ => by subst he; exact h2 a' w' hr) h1
section
variable {P : Program} {ops : Array Oper} {S : World → Prop} {op : Oper} {a : Act} {w : World} {K : Act → World → Prop} {Q : Exit → Act → World → Prop} {v : Value}
theorem yI_run (hw : op.guard = none) (hr : ∀ w, S w → (execOp a.eval op).run P w = .ok (.value v) w) : YieldsIf P ops S op v a :=
  .inl ⟨by simp [Region.wanted, hw], hr⟩
theorem yI_build1 (hw : op.guard = none) (ty : TypeId) (i : Nat) (x : Operand) (ho : op.op = .build ty #[(i, x)]) {u : Value} (hx : a.eval x = u) (hr : ∀ w, (Instr.build ty #[(i, u)]).run P w = .ok v w) : YieldsIf P ops S op v a :=
  yI_run hw fun w hS => by
    unfold execOp
    have e1 : ((#[(i, x)] : Array (Nat × Operand)).map fun (i, x) => (i, a.eval x)) = #[(i, u)] := by simp [hx]
    simp only [ho, e1, hr w, Sem.run_bind, Result.andThen_ok, Sem.run_pure]
end
theorem wp_frame {P : Program} {c : Code} {Q : Exit → Act → World → Prop} {a : Act} {w : World} (E : Act → Prop) (R : Act → Act → World → Prop) (hE : E a) (h1 : ∀ a0, E a0 → c.wp P (fun e a' w' => e = .normal ∧ R a0 a' w') a0 w) (h2 : ∀ a' w', R a a' w' → Q .normal a' w') : c.wp P Q a w :=
  wp_through (R a) (h1 a hE) h2
section
variable {P : Program} {op : Oper} {a : Act} {w : World} {K : Act → World → Prop} {Q : Exit → Act → World → Prop} {E : Prop} {ops : Array Oper}
theorem step_slice1 (hg : op.guard = none) (t e : TypeId) (x : Operand) (ho : op.op = .buildSlice t 1 #[(0, x)]) (cs : Array Value) (u : Value) (hx : a.eval x = u)
    (hr : (Instr.buildSlice t 1 #[(0, u)]).run P w = .ok (.slice (some ⟨w.heap.size, 0, none⟩) 1 1) (w.alloc (.cells cs e)))
    (h : ∀ n w', n = w.heap.size → w'.heap[n]? = some (.cells cs e (0, 0)) → Below w.heap.size w w' → K (a.put op.dst (.slice (some ⟨n, 0, none⟩) 1 1)) w') :
    if Region.wanted op (yielded ops a.tmps) = true then Oper.wp P op a w K Q else E := by
  rw [if_pos (by simp [Region.wanted, hg])]
  unfold Oper.wp execOp
  have e1 : ((#[(0, x)] : Array (Nat × Operand)).map fun (i, x) => (i, a.eval x)) = #[(0, u)] := by simp [hx]
  simp only [ho, e1, hr, Sem.run_bind, Result.andThen_ok, Sem.run_pure]
  exact h _ _ rfl (obj_new _ _) ((Below.refl _ _).alloc (Nat.le_refl _) _)
end
end Go.Proofs.YtdfcfdcekdmcmaaGreat
namespace Go.Proofs.YtdfcfdcekdmcmaaGreat
open Go.RowKit
theorem filter_one (p q : Nat → Bool) (i : Nat) (hp : p i = true) (hq : q i = false) (hpq : ∀ j, j ≠ i → q j = p j) : ∀ l : List Nat, l.Nodup → i ∈ l → (l.filter p).length = (l.filter q).length + 1 := by
  intro l
  induction l with
  | nil => intro _ hi; cases hi
  | cons x l ih =>
    intro hl hi
    rw [List.nodup_cons] at hl
    by_cases e : x = i
    · subst e
      have h1 : l.filter q = l.filter p := List.filter_congr fun j hj => hpq j fun e => hl.1 (e ▸ hj)
      rw [List.filter_cons_of_pos hp, List.filter_cons_of_neg (by simp [hq]), h1]
      rfl
    · have hi' : i ∈ l := by
        rcases List.mem_cons.1 hi with h | h
        · exact absurd h.symm e
        · exact h
      have := ih hl.2 hi'
      have hx := hpq x e
      cases hpx : p x
      · rw [List.filter_cons_of_neg (by simp [hpx]), List.filter_cons_of_neg (by rw [hx, hpx]; decide), this]
      · rw [List.filter_cons_of_pos hpx, List.filter_cons_of_pos (hx.trans hpx), List.length_cons, List.length_cons, this]
def left (n : Nat) (s : Array Bool) : Nat := ((List.range n).filter fun j => s.getD j true == false).length
theorem set_self (s : Array Bool) (i : Nat) : (s.setIfInBounds i true).getD i true = true := by
  simp only [Array.getD_eq_getD_getElem?, Array.getElem?_setIfInBounds, if_true]
  split <;> rfl
theorem left_set {n i : Nat} {s : Array Bool} (hi : i < n) (hs : s.getD i true = false) : left n s = left n (s.setIfInBounds i true) + 1 :=
  filter_one _ _ i (by rw [hs]; rfl) (by rw [set_self]; rfl) (fun j hj => by rw [getD_set_ne true (Ne.symm hj)]) _ List.nodup_range (List.mem_range.2 hi)
theorem left_none {n : Nat} {s : Array Bool} (h : left n s = 0) : ∀ j, j < n → s.getD j true = true := by
  intro j hj
  have h0 : ((List.range n).filter fun j => s.getD j true == false) = [] := List.eq_nil_of_length_eq_zero h
  rw [List.filter_eq_nil_iff] at h0
  have := h0 j (List.mem_range.2 hj)
  cases e : s.getD j true
  · rw [e] at this
    exact absurd rfl this
  · rfl
theorem first_un {s : Array Bool} : ∀ m : Nat, (∀ j, j < m → s.getD j true = true) ∨ ∃ j, j < m ∧ s.getD j true = false ∧ ∀ k, k < j → s.getD k true = true := by
  intro m
  induction m with
  | zero => exact .inl fun j h => absurd h (Nat.not_lt_zero _)
  | succ m ih =>
    rcases ih with h | ⟨j, h1, h2, h3⟩
    · cases e : s.getD m true
      · exact .inr ⟨m, Nat.lt_succ_self _, e, h⟩
      · refine .inl fun j hj => ?_
        rcases Nat.lt_succ_iff_lt_or_eq.1 hj with h' | rfl
        · exact h j h'
        · exact e
    · exact .inr ⟨j, Nat.lt_succ_of_lt h1, h2, h3⟩
theorem getD_down {s : Array Bool} {j : Nat} (hj : j < s.size) (h : s.getD j true = true) : s.getD j false = true := by
  simp [hj] at h ⊢
  exact h
def backB (ops : Array Oper) (n : Nat) : Bool := (List.range n).all fun i => match ops[i]? with
  | some o => o.after.all fun e => !Region.binds .any e || decide (e.on < i)
  | none => false
def canon (n m : Nat) : Array Bool := Array.replicate n true ++ Array.replicate (m - n) false
section
variable {P : Program} {ops : Array Oper} {Q : Exit → Act → World → Prop}
theorem rg_any {n g : Nat} {Inv : Array Bool → Act → World → Prop} (hs : Region.sinkB .any ops n = true) (hc : Region.chainB .any ops n = true) (hn : n < ops.size) (hb : backB ops n = true)
    (hstep : ∀ i s a w, i < n → i ∈ Region.ready .any ops s → Inv s a w → wpOp P ops Q i (fun a' w' => Inv (s.setIfInBounds i true) a' w') a w)
    (hend : ∀ s a w, HeadInv .any ops n s → (∀ j, j < n → s.getD j true = true) → Inv s a w → wpAny P .any ops Q g s a w) :
    ∀ (f : Nat) (s : Array Bool) (a : Act) (w : World), HeadInv .any ops n s → left n s = f → Inv s a w → wpAny P .any ops Q (f + g) s a w := by
  intro f
  induction f with
  | zero => intro s a w inv hf h; rw [Nat.zero_add]; exact hend s a w inv (left_none hf) h
  | succ f ih =>
    intro s a w inv hf h
    obtain ⟨j, hj, hun, hmin⟩ : ∃ j, j < n ∧ s.getD j true = false ∧ ∀ k, k < j → s.getD k true = true := by
      rcases first_un (s := s) n with h1 | h1
      · have h0 : left n s = 0 := by
          unfold left
          rw [List.length_eq_zero_iff, List.filter_eq_nil_iff]
          intro k hk
          rw [h1 k (List.mem_range.1 hk)]
          decide
        omega
      · exact h1
    rw [show f + 1 + g = (f + g) + 1 by omega]
    refine ⟨fun h0 => ?_, fun i hi => ?_⟩
    · have hr : j ∈ Region.ready .any ops s := by
        have h1 := List.all_eq_true.1 hb j (List.mem_range.2 hj)
        cases ho : ops[j]? with
        | none => rw [ho] at h1; cases h1
        | some o =>
          rw [ho] at h1
          refine mem_ready.2 ⟨hun, o, ho, fun e he hbe => ?_⟩
          have h2 := (Array.all_eq_true_iff_forall_mem.1 h1) e he
          rw [hbe] at h2
          have h3 : e.on < j := by simpa using h2
          exact getD_down (by rw [inv.size]; omega) (hmin _ h3)
      rw [h0] at hr
      cases hr
    · have hin : i < n := Nat.lt_of_not_le fun h' => tail_waits hs hc hn inv _ j rfl hj hun i h' hi
      exact wpOp_mono (fun a' w' h' => ih _ a' w' (inv.set hi hin) (by have := left_set hin (mem_ready.1 hi).1; omega) h') (hstep i s a w hin hi h)
end
theorem canon_of {ops : Array Oper} {n : Nat} {s : Array Bool} (hn : n < ops.size) (inv : HeadInv .any ops n s) (h : ∀ j, j < n → s.getD j true = true) : s = canon n ops.size := by
  have hsz := inv.size
  refine Array.ext (by simp [canon]; omega) fun j h1 h2 => ?_
  by_cases hj : j < n
  · have := h j hj
    simp [h1] at this
    rw [this]
    simp [canon, hj]
  · have := inv.tail j (by omega) (by omega)
    simp [h1] at this
    rw [this]
    show false = (Array.replicate n true ++ Array.replicate (ops.size - n) false)[j]'(by simpa [canon] using h2)
    rw [Array.getElem_append_right (by simp; omega)]
    simp
theorem wp_region_rg {P : Program} {id : Nat} {Q : Exit → Act → World → Prop} {a : Act} {w : World} {l : List Oper} (n : Nat) (hm : P.follows .mixedOrders = true) (hn : n < l.length)
    (hs : Region.sinkB .any l.toArray n = true) (hc : Region.chainB .any l.toArray n = true) (hb : backB l.toArray n = true) (hq : Region.seqB .any l.toArray (l.length - n) n (canon n l.length) = true)
    (Inv : Array Bool → Act → World → Prop) (h0 : Inv (Array.replicate l.length false) a { w with drawn := w.drawn + 1 })
    (hstep : ∀ i s a' w', i < n → i ∈ Region.ready .any l.toArray s → Inv s a' w' → wpOp P l.toArray Q i (fun a'' w'' => Inv (s.setIfInBounds i true) a'' w'') a' w')
    (hend : ∀ a' w', Inv (canon n l.length) a' w' → wpList P l.toArray Q (l.drop n) a' w') : (Code.region id l.toArray true).wp P Q a w := by
  have hn' : n < l.toArray.size := by simpa using hn
  have inv0 : HeadInv .any l.toArray n (Array.replicate l.toArray.size false) :=
    ⟨by simp, fun j q _ hl => (by rw [getD_replicate_false] at hl; cases hl), fun t _ ht => getD_in (by simpa using ht) (getD_replicate_false _ _)⟩
  have hl : left n (Array.replicate l.toArray.size false) = n := by
    unfold left
    rw [List.filter_eq_self.2]
    · simp
    · intro j hj
      have h2 : j < l.length := by have := List.mem_range.1 hj; omega
      simp [h2]
  refine wp_region_any hm ?_
  have := rg_any (P := P) (Q := Q) (g := l.length - n) (Inv := Inv) hs hc hn' hb hstep (fun s a' w' inv hall h => by
    obtain rfl := canon_of hn' inv hall
    have := wpAny_of_seq (P := P) (md := .any) (Q' := Q) (l.drop n) n (canon n l.toArray.size) a' w' (fun j => by simp [List.getElem?_drop]) (by simpa using hq) (hend a' w' (by simpa using h))
    simpa using this) n (Array.replicate l.toArray.size false) a { w with drawn := w.drawn + 1 } inv0 hl (by simpa using h0)
  rw [show n + (l.length - n) = l.toArray.size by simp; omega] at this
  exact this
theorem op_val {P : Program} {ops : Array Oper} {Q : Exit → Act → World → Prop} {K : Act → World → Prop} {i : Nat} {o : Oper} {a : Act} {w w' : World} {v : Value} (ho : ops[i]? = some o) (hg : o.guard = none) (hr : (execOp a.eval o).run P w = .ok (.value v) w') (hK : K (a.put o.dst v) w') : wpOp P ops Q i K a w := by
  unfold wpOp
  simp only [ho]
  rw [if_pos (by simp [Region.wanted, hg])]
  refine .inl ?_
  unfold Oper.wp
  rw [hr]
  exact hK
end Go.Proofs.YtdfcfdcekdmcmaaGreat
namespace Go.Proofs.YtdfcfdcekdmcmaaGreat
open Go.RowKit
set_option linter.unusedVariables false
def actOf (D : Nat → Option Tmp) (V : Nat → Value) (s : Array Bool) (a0 : Act) : Nat → Act
  | 0 => a0
  | n + 1 => if s.getD n true = true then (actOf D V s a0 n).put (D n) (V n) else actOf D V s a0 n
def DD (D : Nat → Option Tmp) (n : Nat) : Prop := ∀ i j, i < n → j < n → i ≠ j → ∀ k, D i = some k → D j ≠ some k
def upd (V : Nat → Value) (i : Nat) (v : Value) : Nat → Value := fun j => if j = i then v else V j
theorem upd_self (V : Nat → Value) (i : Nat) (v : Value) : upd V i v i = v := by simp [upd]
theorem upd_ne (V : Nat → Value) {i j : Nat} (h : j ≠ i) (v : Value) : upd V i v j = V j := by simp [upd, h]
section
variable {D : Nat → Option Tmp} {V V' : Nat → Value} {s s' : Array Bool} {a0 : Act}
theorem actOf_congr : ∀ n, (∀ j, j < n → s.getD j true = s'.getD j true ∧ (s.getD j true = true → V j = V' j)) → actOf D V s a0 n = actOf D V' s' a0 n
  | 0, _ => rfl
  | n + 1, h => by
    have ih := actOf_congr n fun j hj => h j (by omega)
    obtain ⟨h1, h2⟩ := h n (by omega)
    simp only [actOf]
    rw [ih, ← h1]
    by_cases e : s.getD n true = true
    · rw [if_pos e, if_pos e, h2 e]
    · rw [if_neg e, if_neg e]
theorem put_comm2 (a : Act) {d e : Option Tmp} (h : ∀ k, d = some k → e ≠ some k) (u v : Value) : (a.put d u).put e v = (a.put e v).put d u := by
  cases d with
  | none => rfl
  | some i =>
    cases e with
    | none => rfl
    | some j => exact put_comm a (fun he => h i rfl (by rw [he])) u v
theorem actOf_put (n : Nat) (hD : DD D n) {i : Nat} (hi : i < n) (hs : s.getD i true = false) (v : Value) : (actOf D V s a0 n).put (D i) v = actOf D (upd V i v) (s.setIfInBounds i true) a0 n := by
  induction n with
  | zero => omega
  | succ n ih =>
    simp only [actOf]
    by_cases e : i = n
    · subst e
      rw [if_neg (by rw [hs]; decide), if_pos (set_self s i), upd_self]
      rw [actOf_congr i fun j hj => ⟨(getD_set_ne true (show i ≠ j by omega)).symm, fun _ => (upd_ne V (show j ≠ i by omega) v).symm⟩]
    · have ih := ih (fun a b ha hb hab => hD a b (by omega) (by omega) hab) (by omega)
      rw [getD_set_ne true (show i ≠ n by omega)]
      by_cases e2 : s.getD n true = true
      · rw [if_pos e2, if_pos e2, put_comm2 _ (hD n i (by omega) (by omega) (by omega)), ih, upd_ne V (by omega) v]
      · rw [if_neg e2, if_neg e2, ih]
theorem actOf_size (n : Nat) : (actOf D V s a0 n).tmps.size = a0.tmps.size := by
  induction n with
  | zero => rfl
  | succ n ih =>
    simp only [actOf]
    split
    · rw [put_size, ih]
    · exact ih
theorem eval_put_other (a : Act) {d : Option Tmp} {k : Tmp} (h : d ≠ some k) (v : Value) : (a.put d v).eval (.tmp k) = a.eval (.tmp k) := by
  cases d with
  | none => rfl
  | some i => exact eval_ne a (fun e => h (by rw [e])) v
theorem actOf_eval0 {k : Tmp} (n : Nat) (h : ∀ j, j < n → s.getD j true = true → D j ≠ some k) : (actOf D V s a0 n).eval (.tmp k) = a0.eval (.tmp k) := by
  induction n with
  | zero => rfl
  | succ n ih =>
    simp only [actOf]
    have ih := ih fun j hj => h j (by omega)
    split
    · rename_i e
      rw [eval_put_other _ (h n (by omega) e), ih]
    · exact ih
theorem actOf_eval {k : Tmp} (n : Nat) (hD : DD D n) {i : Nat} (hi : i < n) (hk : D i = some k) (hs : s.getD i true = true) (hsz : k < a0.tmps.size) : (actOf D V s a0 n).eval (.tmp k) = V i := by
  induction n with
  | zero => omega
  | succ n ih =>
    simp only [actOf]
    by_cases e : i = n
    · subst e
      rw [if_pos hs, hk]
      exact eval_eq _ (by rw [actOf_size]; exact hsz) _
    · have ih := ih (fun a b ha hb hab => hD a b (by omega) (by omega) hab) (by omega)
      split
      · rw [eval_put_other _ (hD i n (by omega) (by omega) e k hk), ih]
      · exact ih
end
section
variable {P : Program} {ops : Array Oper} {Q : Exit → Act → World → Prop} {D : Nat → Option Tmp} {a0 : Act} {n : Nat} {M : Array Bool → (Nat → Value) → World → Prop}
def ActInv (D : Nat → Option Tmp) (a0 : Act) (n : Nat) (M : Array Bool → (Nat → Value) → World → Prop) (s : Array Bool) (a : Act) (w : World) : Prop := ∃ V, a = actOf D V s a0 n ∧ M s V w
theorem act_val {i : Nat} {o : Oper} {s : Array Bool} {V : Nat → Value} {w w' : World} {v : Value} (hD : DD D n) (ho : ops[i]? = some o) (hd : o.dst = D i) (hg : o.guard = none) (hi : i < n) (hs : s.getD i true = false)
    (hr : (execOp (actOf D V s a0 n).eval o).run P w = .ok (.value v) w') (hM : M (s.setIfInBounds i true) (upd V i v) w') :
    wpOp P ops Q i (fun a' w' => ActInv D a0 n M (s.setIfInBounds i true) a' w') (actOf D V s a0 n) w :=
  op_val ho hg hr ⟨_, by rw [hd]; exact actOf_put n hD hi hs v, hM⟩
theorem act_call {i : Nat} {o : Oper} {s : Array Bool} {V : Nat → Value} {w : World} (hD : DD D n) (ho : ops[i]? = some o) (hd : o.dst = D i) (hg : o.guard = none) (hi : i < n) (hs : s.getD i true = false)
    (f : FuncId) (xs : Array Operand) (ts : Array TypeId) (hop : o.op = .call { callee := .value (.func f), args := xs, argTypes := ts }) (vs : Array Value) (hx : xs.map (actOf D V s a0 n).eval = vs) (hf : (callFunc f vs).run P w = .ok (.enter f vs) w)
    (hc : Calls P f vs w fun e w' => ∃ v, e = .returned v ∧ M (s.setIfInBounds i true) (upd V i v) w') :
    wpOp P ops Q i (fun a' w' => ActInv D a0 n M (s.setIfInBounds i true) a' w') (actOf D V s a0 n) w := by
  unfold wpOp
  simp only [ho]
  rw [if_pos (by simp [Region.wanted, hg])]
  refine .inl ?_
  unfold Oper.wp
  have hx2 : xs.map (fun x => (actOf D V s a0 n).eval x) = vs := hx
  have e1 : (execOp (actOf D V s a0 n).eval o).run P w = .ok (.enter f vs) w := by
    unfold execOp
    simp [hop, resolve, invoke, Act.eval, hx2, go_sem]
    exact hf
  rw [e1, Oper.upon_enter]
  refine hc.mono ?_
  rintro e w' ⟨v, rfl, hM⟩
  exact ⟨_, by rw [hd]; exact actOf_put n hD hi hs v, hM⟩
theorem wp_region_act {id : Nat} {w : World} {l : List Oper} (n : Nat) (D : Nat → Option Tmp) (M : Array Bool → (Nat → Value) → World → Prop) (hm : P.follows .mixedOrders = true) (hn : n < l.length)
    (hs : Region.sinkB .any l.toArray n = true) (hc : Region.chainB .any l.toArray n = true) (hb : backB l.toArray n = true) (hq : Region.seqB .any l.toArray (l.length - n) n (canon n l.length) = true)
    (V0 : Nat → Value) (h0 : M (Array.replicate l.length false) V0 { w with drawn := w.drawn + 1 })
    (hstep : ∀ i s V w', i < n → i ∈ Region.ready .any l.toArray s → M s V w' → wpOp P l.toArray Q i (fun a'' w'' => ActInv D a0 n M (s.setIfInBounds i true) a'' w'') (actOf D V s a0 n) w')
    (hend : ∀ V w', M (canon n l.length) V w' → wpList P l.toArray Q (l.drop n) (actOf D V (canon n l.length) a0 n) w') : (Code.region id l.toArray true).wp P Q a0 w := by
  refine wp_region_rg n hm hn hs hc hb hq (ActInv D a0 n M) ⟨V0, ?_, h0⟩ (fun i s a' w' hi hr ⟨V, ha, hM⟩ => ?_) (fun a' w' ⟨V, ha, hM⟩ => ?_)
  · have : ∀ m, m ≤ n → actOf D V0 (Array.replicate l.length false) a0 m = a0 := by
      intro m
      induction m with
      | zero => intro _; rfl
      | succ m ih =>
        intro hm
        simp only [actOf]
        rw [if_neg (by simp [show m < l.length by omega]), ih (by omega)]
    exact (this n (Nat.le_refl _)).symm
  · subst ha
    exact hstep i s V w' hi hr hM
  · subst ha
    exact hend V w' hM
theorem ready_dep {i j : Nat} {o : Oper} {s : Array Bool} (hr : i ∈ Region.ready .any ops s) (ho : ops[i]? = some o) {e : Edge} (he : e ∈ o.after) (hb : Region.binds .any e = true) (hj : e.on = j) : s.getD j true = true := by
  obtain ⟨_, o', ho', h⟩ := mem_ready.1 hr
  rw [ho] at ho'
  cases ho'
  have := h e he hb
  rw [hj] at this
  simp only [Array.getD_eq_getD_getElem?] at this ⊢
  cases hs : s[j]? with
  | none => rw [hs] at this; simp at this
  | some b => rw [hs] at this; simpa using this
end
end Go.Proofs.YtdfcfdcekdmcmaaGreat
namespace Go.Proofs.YtdfcfdcekdmcmaaGreat
open Go.RowKit
theorem wpList_append_at {P : Program} {w : World} {ops : Array Oper} {rest : List Oper} {o : Oper} {a : Act} {Q : Exit → Act → World → Prop} (hgd : o.guard = none) (s x : Operand) (t : TypeId)
    (ho : o.op = .call { callee := .builtin .append, args := #[s, x], argTypes := #[t, t] })
    (e : TypeId) (i : TypeInfo) (size : Nat) (ht : P.underlying t = some (.slice e)) (hi : P.info? e = some i) (hsize : i.size = size)
    (g n cap : Nat) (cur : Array Value) (hs : a.eval s = .slice (some ⟨g, 0, none⟩) n cap) (hg : w.heap[g]? = some (.cells cur e (0, 0)))
    (ad : Addr) (m c : Nat) (news : List Value) (hx : a.eval x = .slice (some ad) m c) (hl : news.length = m * size) (hnews : ∀ j u, news[j]? = some u → w.cell? (ad.add j) = some u) (h1 : ∀ u ∈ news, u.oneCell' = true)
    (hroom : n + m ≤ cap) (hfit : n * size + news.length ≤ cur.size)
    (h : wpList P ops Q rest (a.put o.dst (.slice (some ⟨g, 0, none⟩) (n + m) cap)) (w.setRow g (cur.toList.take (n * size) ++ news ++ cur.toList.drop (n * size + news.length)).toArray)) : wpList P ops Q (o :: rest) a w := by
  subst hsize
  refine wpList_plain hgd fun _ hK => ?_
  have hr := run_append_room (P := P) w t o.type e i ht hi g n cap cur hg ad m c news hl hnews h1 hroom hfit
  unfold Oper.wp execOp
  simp only [ho, resolve, invoke, builtin, Sem.run_bind, Sem.run_pure, Result.andThen_ok, List.map_toArray, List.map_cons, List.map_nil, hs, hx, hr]
  exact hK _ _ h
theorem Frm.setRow {S : Nat → Prop} {a w : World} (h : Frm S a w) {g : Nat} (hg : S g) (cs : Array Value) : Frm S a (w.setRow g cs) :=
  h.trans ⟨rfl, rfl, rfl, by simp, fun k _ hk => setRow_other w g k cs (fun e => hk (e ▸ hg))⟩
end Go.Proofs.YtdfcfdcekdmcmaaGreat
namespace Go.Proofs.YtdfcfdcekdmcmaaGreat
open Go.RowKit
set_option linter.unusedVariables false
set_option linter.unusedSimpArgs false
section
variable {P : Program} {op : Oper} {a : Act} {w w' : World} {v : Value}
theorem ex_move (x : Operand) (ho : op.op = .move x) (hx : a.eval x = v) : (execOp a.eval op).run P w = .ok (.value v) w := by
  unfold execOp
  simp only [ho, hx, Sem.run_pure]
theorem ex_assign (x : Operand) (ho : op.op = .assign x) (hx : a.eval x = v) : (execOp a.eval op).run P w = .ok (.value v) w := by
  unfold execOp
  simp only [ho, hx, Sem.run_pure]
theorem ex_field (ty : TypeId) (x : Operand) (k : Nat) (ho : op.op = .fieldAddr ty x k) {u : Value} (hx : a.eval x = u) (hr : (Instr.fieldAt ty u k).run P w = .ok v w) : (execOp a.eval op).run P w = .ok (.value v) w := by
  unfold execOp
  simp only [ho, hx, Sem.run_bind, hr, Result.andThen_ok, Sem.run_pure]
theorem ex_index (ty : TypeId) (x i : Operand) (ho : op.op = .indexAddr ty x i) {u k : Value} (hx : a.eval x = u) (hi : a.eval i = k) (hr : (Instr.indexAt ty u k).run P w = .ok v w) : (execOp a.eval op).run P w = .ok (.value v) w := by
  unfold execOp
  simp only [ho, hx, hi, Sem.run_bind, hr, Result.andThen_ok, Sem.run_pure]
theorem ex_load (ty : TypeId) (x : Operand) (ho : op.op = .load ty x) {u : Value} (hx : a.eval x = u) (hr : (Instr.loadAt ty u).run P w = .ok v w) : (execOp a.eval op).run P w = .ok (.value v) w := by
  unfold execOp
  simp only [ho, hx, Sem.run_bind, hr, Result.andThen_ok, Sem.run_pure]
end
def waitsB (ops : Array Oper) (i j : Nat) : Bool := match ops[i]? with
  | some o => o.after.any fun e => Region.binds .any e && decide (e.on = j)
  | none => false
theorem ready_on {ops : Array Oper} {i : Nat} {s : Array Bool} (hr : i ∈ Region.ready .any ops s) (j : Nat) (h : waitsB ops i j = true) : s.getD j true = true := by
  unfold waitsB at h
  obtain ⟨_, o, ho, _⟩ := mem_ready.1 hr
  rw [ho] at h
  simp only [Array.any_eq_true', Bool.and_eq_true, decide_eq_true_eq] at h
  obtain ⟨e, he, hb, hj⟩ := h
  exact ready_dep hr ho he hb hj
theorem ready_un {ops : Array Oper} {i : Nat} {s : Array Bool} (hr : i ∈ Region.ready .any ops s) : s.getD i true = false := (mem_ready.1 hr).1
def ddB (L : List (Option Tmp)) : Bool := (List.range L.length).all fun i => (List.range L.length).all fun j => i == j || (L.getD i none).isNone || L.getD i none != L.getD j none
theorem dd_of {L : List (Option Tmp)} (h : ddB L = true) (n : Nat) (hn : n ≤ L.length) : DD (fun i => L.getD i none) n := by
  intro i j hi hj hij k hk hjk
  have h1 := List.all_eq_true.1 (List.all_eq_true.1 h i (List.mem_range.2 (by omega))) j (List.mem_range.2 (by omega))
  simp only at hk hjk
  rw [hk, hjk] at h1
  simp [hij] at h1
theorem canon_at {n m j : Nat} (hj : j < n) : (canon n m).getD j true = true := by
  rw [Array.getD_eq_getD_getElem?]
  unfold canon
  rw [Array.getElem?_append_left (by simpa using hj)]
  simp [hj]
theorem wpList_val {P : Program} {ops : Array Oper} {Q : Exit → Act → World → Prop} {o : Oper} {rest : List Oper} {a : Act} {w w' : World} {v : Value} (hg : o.guard = none) (hr : (execOp a.eval o).run P w = .ok (.value v) w') (h : wpList P ops Q rest (a.put o.dst v) w') : wpList P ops Q (o :: rest) a w := by
  refine wpList_plain hg fun _ hK => ?_
  unfold Oper.wp
  rw [hr]
  exact hK _ _ h
theorem newsB {w : World} {g : Nat} {cs : Array Value} {t : TypeId} {m : Nat × Nat} (h : w.heap[g]? = some (.cells cs t m)) : ∀ j u, cs.toList[j]? = some u → w.cell? ((⟨g, 0, none⟩ : Addr).add j) = some u := by
  intro j u hj
  rw [Addr.add_mid, obj_cell h]
  simpa using hj
section
variable {P : Program} {ops : Array Oper} {Q : Exit → Act → World → Prop} {D : Nat → Option Tmp} {a0 : Act} {n : Nat} {M : Array Bool → (Nat → Value) → World → Prop}
theorem act_slice1 {i : Nat} {o : Oper} {s : Array Bool} {V : Nat → Value} {w : World} (hD : DD D n) (ho : ops[i]? = some o) (hd : o.dst = D i) (hg : o.guard = none) (hi : i < n) (hs : s.getD i true = false)
    (t e : TypeId) (x : Operand) (hop : o.op = .buildSlice t 1 #[(0, x)]) (cs : Array Value) (u : Value) (hx : (actOf D V s a0 n).eval x = u)
    (hr : (Instr.buildSlice t 1 #[(0, u)]).run P w = .ok (.slice (some ⟨w.heap.size, 0, none⟩) 1 1) (w.alloc (.cells cs e)))
    (hM : ∀ w', Below w.heap.size w w' → w'.heap[w.heap.size]? = some (.cells cs e (0, 0)) → M (s.setIfInBounds i true) (upd V i (.slice (some ⟨w.heap.size, 0, none⟩) 1 1)) w') :
    wpOp P ops Q i (fun a' w' => ActInv D a0 n M (s.setIfInBounds i true) a' w') (actOf D V s a0 n) w := by
  have h := step_slice1 (P := P) (ops := ops) (K := fun a' w' => ActInv D a0 n M (s.setIfInBounds i true) a' w') (Q := Q) (E := True) hg t e x hop cs u hx hr fun n' w' e1 e2 e3 => by
    subst e1
    exact ⟨_, by rw [hd]; exact actOf_put n hD hi hs _, hM w' e3 e2⟩
  rw [if_pos (by simp [Region.wanted, hg])] at h
  unfold wpOp
  simp only [ho]
  rw [if_pos (by simp [Region.wanted, hg])]
  exact .inl h
theorem act_append {i : Nat} {o : Oper} {s : Array Bool} {V : Nat → Value} {w : World} (hD : DD D n) (ho : ops[i]? = some o) (hd : o.dst = D i) (hg : o.guard = none) (hi : i < n) (hs : s.getD i true = false)
    (x y : Operand) (t : TypeId) (hop : o.op = Op.call { callee := Callee.builtin Builtin.append, args := #[x, y], argTypes := #[t, t] })
    (e : TypeId) (ti : TypeInfo) (z : Value) (size bytes : Nat) (ht : P.underlying t = some (.slice e)) (hti : P.info? e = some ti) (hz : ti.zero = some z)
    (hsize : ti.size = size) (hby : ti.bytes = bytes) (hzs : z.cells.size = size) (hsz : 0 < size)
    (v : Value) (k : Nat) (xs : List Value) (hx : (actOf D V s a0 n).eval x = v) (hown : w.ownsRow 0 e size v k xs)
    (ad : Addr) (m c : Nat) (news : List Value) (hy : (actOf D V s a0 n).eval y = .slice (some ad) m c) (hl : news.length = m * size) (hnews : ∀ j u, news[j]? = some u → w.cell? (ad.add j) = some u) (h1 : ∀ u ∈ news, u.oneCell' = true)
    (h63 : k + m ≤ maxLen) (hbytes : (k + m) * bytes ≤ 140737488355328)
    (hM : ∀ v' w', w'.ownsRow 0 e size v' (k + m) (xs ++ news) → Frm (fun k => v.ownBlock = some k) w w' → (v'.ownBlock = v.ownBlock ∨ ∀ g, v'.ownBlock = some g → w.heap.size ≤ g) → M (s.setIfInBounds i true) (upd V i v') w') :
    wpOp P ops Q i (fun a' w' => ActInv D a0 n M (s.setIfInBounds i true) a' w') (actOf D V s a0 n) w := by
  have h := step_append_row (P := P) (ops := ops) (K := fun a' w' => ActInv D a0 n M (s.setIfInBounds i true) a' w') (Q := Q) (E := True) hg x y t hop e ti z size bytes ht hti hz hsize hby hzs hsz v k xs hx hown ad m c news hy hl hnews h1 h63 hbytes fun v' w' e1 e2 e3 =>
    ⟨_, by rw [hd]; exact actOf_put n hD hi hs _, hM v' w' e1 e2 e3⟩
  rw [if_pos (by simp [Region.wanted, hg])] at h
  unfold wpOp
  simp only [ho]
  rw [if_pos (by simp [Region.wanted, hg])]
  exact .inl h
end
theorem infoN : (Tryz.prog.info? 3).map (fun i => (i.zero, i.size, i.bytes)) = some (some (.int .i64 0), 1, 8) := by kernel_rfl
theorem mixed : Tryz.prog.follows .mixedOrders = true := by kernel_rfl
end Go.Proofs.YtdfcfdcekdmcmaaGreat
namespace Go.Proofs.YtdfcfdcekdmcmaaGreat
open Go.RowKit
theorem pow_cases {k : Nat} (h : k ≤ 20) : k = 0 ∨ k = 1 ∨ k = 2 ∨ k = 3 ∨ k = 4 ∨ k = 5 ∨ k = 6 ∨ k = 7 ∨ k = 8 ∨ k = 9 ∨ k = 10 ∨ k = 11 ∨ k = 12 ∨ k = 13 ∨ k = 14 ∨ k = 15 ∨ k = 16 ∨ k = 17 ∨ k = 18 ∨ k = 19 ∨ k = 20 := by omega
def two (k : Nat) : Int := 2 ^ k
theorem two_pos (k : Nat) : 0 < two k := by unfold two; exact Int.pow_pos (by decide)
theorem two_le {k : Nat} (h : k ≤ 20) : two k ≤ 1048576 := by
  unfold two; rcases pow_cases h with rfl | rfl | rfl | rfl | rfl | rfl | rfl | rfl | rfl | rfl | rfl | rfl | rfl | rfl | rfl | rfl | rfl | rfl | rfl | rfl | rfl <;> decide
theorem and_two (k : Nat) (hk : k ≤ 20) (a : Int) : bits .and .i64 a (two k - 1) = a % two k := by
  have hp : (0 : Nat) < 2 ^ k := Nat.two_pow_pos k
  have hle : (2 : Nat) ^ k ≤ 2 ^ 20 := Nat.pow_le_pow_right (by decide) hk
  have hdvd : (2 : Nat) ^ k ∣ 2 ^ 64 := Nat.pow_dvd_pow 2 (by omega)
  have hc : two k - 1 = ((2 ^ k - 1 : Nat) : Int) := by
    unfold two; rw [Int.natCast_sub hp]; simp
  have hc2 : two k = ((2 ^ k : Nat) : Int) := by unfold two; simp
  have hm : (2 ^ k - 1) % 2 ^ 64 = 2 ^ k - 1 := Nat.mod_eq_of_lt (by omega)
  rw [hc]
  simp only [bits, BitVec.toNat_and, BitVec.toNat_ofInt, BitVec.ofInt_natCast, BitVec.toNat_ofNat]
  simp only [IntKind.bits, hm, Nat.and_two_pow_sub_one_eq_mod]
  rw [hc2]
  have e1 : (((a % ((2 ^ 64 : Nat) : Int)).toNat % 2 ^ k : Nat) : Int) = a % ((2 ^ k : Nat) : Int) := by
    have h0 : 0 ≤ a % ((2 ^ 64 : Nat) : Int) := Int.emod_nonneg _ (by decide)
    rw [Int.natCast_emod, Int.toNat_of_nonneg h0]
    exact Int.emod_emod_of_dvd a (Int.natCast_dvd_natCast.2 hdvd)
  rw [e1]
  have h1 : 0 ≤ a % ((2 ^ k : Nat) : Int) := Int.emod_nonneg _ (by omega)
  have h2 : a % ((2 ^ k : Nat) : Int) < ((2 ^ k : Nat) : Int) := Int.emod_lt_of_pos _ (by omega)
  rw [IntKind.wrap_i64]
  omega
end Go.Proofs.YtdfcfdcekdmcmaaGreat
namespace Go.Proofs.YtdfcfdcekdmcmaaGreat
open Go.RowKit
theorem wrap_two (k : Nat) (hk : k ≤ 20) : wrap64 (2 ^ k) = two k := by
  have := two_le hk; have := two_pos k
  show wrap64 (two k) = two k
  exact IntWalk.wrap64_in _ ⟨by omega, by omega⟩
theorem slots_any (k : Nat) (hk : k ≤ 20) (w : World) :
    Calls Tryz.prog 51 #[.agg #[.int .u8 k]] w fun e w' => e = .returned (.int .i64 (two k)) ∧ w.alloc (.cells #[.int .u8 k] 100) = w' := by
  go_enter Tryz.func51, Tryz.ntmps51
  go_wp2
  go_ret
  exact ⟨by rw [← wrap_two k hk]; rfl, rfl⟩
theorem mask_any (k : Nat) (hk : k ≤ 20) (w : World) :
    Calls Tryz.prog 160 #[.agg #[.int .u8 k]] w fun e w' => e = .returned (.int .i64 (two k - 1)) ∧ Below w.heap.size w w' := by
  have h1 := two_le hk
  have h2 := two_pos k
  go_enter Tryz.func160, Tryz.ntmps160
  go_wp2_with (go_at_call 51; refine (slots_any k hk _).mono ?_; rintro e w' ⟨rfl, rfl⟩)
  go_ret
  exact ⟨rfl, by go_grown⟩
theorem index_any (k : Nat) (hk : k ≤ 20) (seq : Int) (w : World) :
    Calls Tryz.prog 136 #[.agg #[.int .u8 k], .int .i64 seq] w fun e w' => e = .returned (.int .i64 (seq % two k)) ∧ Below w.heap.size w w' := by
  have ha := and_two k hk seq
  go_enter Tryz.func136, Tryz.ntmps136
  go_wp2_with (go_at_call 160; refine (mask_any k hk _).mono ?_; rintro e w' ⟨rfl, hb⟩)
  go_ret
  exact ⟨rfl, (((Below.refl _ _).alloc (Nat.le_refl _) _).trans (hb.mono (by simp)))⟩
theorem round_any (k : Nat) (hk : k ≤ 20) (seq : Int) (w : World) :
    Calls Tryz.prog 177 #[.agg #[.int .u8 k], .int .i64 seq] w fun e w' => e = .returned (.int .i64 (seq / two k)) ∧ Below w.heap.size w w' := by
  go_enter Tryz.func177, Tryz.ntmps177
  go_wp2
  go_ret
  exact ⟨rfl, (Below.refl _ _).alloc (Nat.le_refl _) _⟩
theorem next_yes (seq n : Int) (h1 : 1 ≤ n) (h2 : n ≤ 1048576) (h3 : -1 ≤ seq) (h4 : seq ≤ 4611686018427387904 - n) (w : World) :
    Calls Tryz.prog 148 #[.int .i64 seq, .int .i64 n] w fun e w' => e = .returned (.tuple #[.int .i64 (seq + n), .nilIface]) ∧ w = w' := by
  go_enter Tryz.func148, Tryz.ntmps148
  go_wp2
  go_ret2
  exact ⟨rfl, rfl⟩
theorem index_is (k : Nat) (hk : k ≤ 20) (seq : Int) (i : Nat) (hi : seq % two k = i) (w : World) :
    Calls Tryz.prog 136 #[.agg #[.int .u8 k], .int .i64 seq] w fun e w' => e = .returned (.int .i64 i) ∧ Below w.heap.size w w' := by
  rw [← hi]; exact index_any k hk seq w
end Go.Proofs.YtdfcfdcekdmcmaaGreat
namespace Go.Proofs.YtdfcfdcekdmcmaaGreat
open Go.RowKit
theorem drewB {B : Nat} {a b : World} (h : Below B a b) (n : Nat) : Below B a (b.drewN n) := ⟨h.os, h.tape, h.output, h.size, h.block⟩
def Refused (W w' : World) (E : Value) (n : Int) : Prop := ∃ q, E = .iface 200 (.pointer (some ⟨q, 0, none⟩)) ∧ Chain w' E 1 n ∧ Below W.heap.size W w'
theorem refused_of {W w' : World} {op id : Value} {n : Int} (h : W.alloc (.cells #[op, id, .iface 156 (.int .i64 n)] 202) = w') (hop : ∃ s, op = .string s := by exact ⟨_, rfl⟩) (hid : ∃ i, id = .int .i64 i := by exact ⟨_, rfl⟩) :
    Refused W w' (.iface 200 (.pointer (some ⟨W.heap.size, 0, none⟩))) n := by
  obtain ⟨h1, h2⟩ := err_new h hop hid
  exact ⟨_, rfl, h1, h2⟩
theorem Refused.box {W w' : World} {E : Value} {n : Int} {o : Obj} (h : Refused (W.alloc o) w' E n) : Refused W w' E n := by
  obtain ⟨q, h1, h2, h3⟩ := h
  exact ⟨q, h1, h2, bthen ((Below.refl _ W).alloc (Nat.le_refl _) o) h3⟩
theorem Refused.after {W w w' : World} {E : Value} {n : Int} (h : Refused w w' E n) (hb : Below W.heap.size W w) : Refused W w' E n := by
  obtain ⟨q, h1, h2, h3⟩ := h
  exact ⟨q, h1, h2, bthen hb h3⟩
theorem Refused.below {W w : World} {E : Value} {n : Int} (h : Refused W w E n) : Below W.heap.size W w := by
  obtain ⟨q, _, _, h3⟩ := h
  exact h3
def Held (W w : World) : Prop := ∀ E d n, Chain W E d n → Chain w E d n
theorem Held.of_below {W w : World} (hb : Below W.heap.size W w) : Held W w := fun _ _ _ h => h.keep hb
theorem Held.then {a b c : World} (h : Held a b) (g : Held b c) : Held a c := fun E d n k => g E d n (h E d n k)
theorem Held.of_frm {S : Nat → Prop} {W w : World} (h : Frm S W w) (hS : ∀ k cs T m, S k → W.heap[k]? = some (.cells cs T m) → T ≠ 202) : Held W w := by
  intro E d n hc
  induction hc with
  | num n => exact .num n
  | fault q op seq E d n h0 _ ih => exact .fault q op seq E d n (h.obj h0 fun hs => hS q _ _ _ hs h0 rfl) ih
theorem slots_below {W w' : World} {o : Obj} (h : W.alloc o = w') : Below W.heap.size W w' := h ▸ (Below.refl _ W).alloc (Nat.le_refl _) o
theorem cl_keep {W a w' : World} {b : Nat} {v x : Value} (hb : Below a.heap.size a w') (h : a.cell? ⟨b, 0, none⟩ = some v ∧ a.cell? ⟨b, 1, none⟩ = some x ∧ Below W.heap.size W a) :
    w'.cell? ⟨b, 0, none⟩ = some v ∧ w'.cell? ⟨b, 1, none⟩ = some x ∧ Below W.heap.size W w' := ⟨keepc hb h.1, keepc hb h.2.1, bthen h.2.2 hb⟩
theorem cl_alloc {W a : World} {b : Nat} {v x : Value} (o : Obj) (h : a.cell? ⟨b, 0, none⟩ = some v ∧ a.cell? ⟨b, 1, none⟩ = some x ∧ Below W.heap.size W a) :
    (a.alloc o).cell? ⟨b, 0, none⟩ = some v ∧ (a.alloc o).cell? ⟨b, 1, none⟩ = some x ∧ Below W.heap.size W (a.alloc o) := cl_keep ((Below.refl _ _).alloc (Nat.le_refl _) o) h
end Go.Proofs.YtdfcfdcekdmcmaaGreat
