/-
  A room in memory, as layers: its block, its rings' row, its clock, its table, each ring's blocks and rows; what is read of it. No condition but those that each theorem names.
  The rings' cells in a room's arena: each ring has its own, in plain lists. No condition.
  A room in memory: one ring's sequencer, or its list, comes out of the layers, and goes back. No condition but those that each theorem names.
  A room and the document's world side by side: what is known of both; plain lists and numbers. No condition but those that each theorem names.
  A room's refusals where a ring isn't there; errors by number stay where no fault turns. No condition but those that each theorem names.
  A room and the document's world side by side: Wake, Halt, Park, Tick, an actor more, in both, one behind the other. Conditions: BoN's.
  A room and the document's world side by side: Tick, an actor more, Signal, Enlist, in both, one behind the other. Conditions: BoN's.
  A room and the document's world side by side: an actor more, Signal, Enlist, in both, one behind the other. Conditions: BoN's.
-/
import Derived.Test.YtdfcfdcekdmcmaaGreatPk33
import Derived.Test.YtdfcfdcekdmcmaaGreatPk38
import Derived.Test.YtdfcfdcekdmcmaaGreatPk41
set_option linter.unusedVariables false
set_option linter.unusedSimpArgs false
namespace Go.Proofs.YtdfcfdcekdmcmaaGreat
open Go.RowKit
set_option linter.unusedVariables false
set_option linter.unusedSimpArgs false
structure Cr where
  k : Nat
  many : Bool
  c : Int
  p : Int
  sn : Int
  sc : Int
  sw : Int
  sh : List Int
  ws : List Int
  g : Nat
  sb : Nat
  rg : Nat
  rc : Nat
  sp : Nat
  q : Nat
  o : Nat
  cs : Array Value
  wv : Value
def Cr.seq (a : Nat) (x : Cr) : Sh := ⟨x.sp, a, x.q, x.o + 2, x.k, x.o, x.o + 1⟩
def Cr.evs (x : Cr) : List Ev := List.replicate (two x.k).toNat (0, 0)
def Cr.slv (x : Cr) : Value := .slice (some ⟨x.rg, 0, none⟩) x.evs.length x.rc
def Cr.one (x : Cr) : Value := if x.many = true then .pointer none else .pointer (some ⟨x.sp, 0, none⟩)
def Cr.mny (x : Cr) : Value := if x.many = true then .pointer (some ⟨x.sp, 0, none⟩) else .pointer none
def Cr.G (x : Cr) : Array Value := #[.pointer (some ⟨x.sb, 0, none⟩), x.one, x.mny, x.wv]
def Cr.top (x : Cr) : List Ly := [.box x.g x.G 149, .row 3 1 x.wv x.ws.length (x.ws.map (Value.int .i64))]
def Cr.sq (x : Cr) : Ly := .box x.sp x.cs (if x.many = true then 219 else 223)
def Cr.sl (x : Cr) : List Ly := [.row 86 2 x.slv x.evs.length (flat2 x.evs), .box x.sb #[.int .u8 x.k, x.slv] 185]
def Cr.bf (x : Cr) : List Ly := if x.many = true then [.box x.q (bfA (x.o + 2) x.k) 268] else []
def Cr.lys (x : Cr) : List Ly := x.top ++ (x.sq :: (x.sl ++ x.bf))
structure Cw where
  r : Nat
  c : Nat
  t : Nat
  now : Int
  ts : List (Int × Int)
  xs : List Ac
  cv : Value
  tv : Value
  rv : Value
  L : List Cr
def Cw.ps (C : Cw) : List Value := C.L.map fun x => .pointer (some ⟨x.g, 0, none⟩)
def Cw.cells (C : Cw) (a : Nat) : Array Value := #[.pointer (some ⟨a, 0, none⟩), .pointer (some ⟨C.c, 0, none⟩), .pointer (some ⟨C.t, 0, none⟩), C.rv]
def Cw.head (C : Cw) (a : Nat) : List Ly := [.box C.r (C.cells a) 109, .row 143 1 C.rv C.L.length C.ps]
def Cw.lys (C : Cw) (a : Nat) : List Ly := C.head a ++ (ckL C.c C.cv C.ts C.now ++ (tbL C.t C.tv C.xs ++ lays Cr.lys C.L))
def Cm (R : Rest) (W0 w : World) (a : Nat) (cs : List Int) (st : Int) (C : Cw) : Prop := Mv (lay W0.heap.size (C.lys a) R) W0 w a cs st
section
variable {R : Rest} {W0 W w : World} {a : Nat} {cs : List Int} {st : Int} {C : Cw} {i : Nat} {x : Cr} {ls : List Ly}
theorem Cm.keep (h : Cm R W0 W a cs st C) (hb : Below W.heap.size W w) : Cm R W0 w a cs st C := Mv.keep h hb
theorem Cr.G_one (x : Cr) (hw : x.wv.oneCell' = true) : x.G.all (·.oneCell') = true := by
  unfold Cr.G Cr.one Cr.mny
  cases x.many <;> simp [hw] <;> exact ⟨rfl, rfl, rfl⟩
theorem row_one {T : TypeId} {B z n : Nat} {v : Value} {xs : List Value} (h : w.ownsRow B T z v n xs) : v.oneCell' = true := by
  rcases h.2 with ⟨rfl, _⟩ | ⟨g, cap, cur, rfl, _⟩ <;> rfl
theorem rgat_ly (h : (lay W0.heap.size ls R).inv w) (h1 : Ly.box C.r (C.cells a) 109 ∈ ls) (h2 : Ly.row 143 1 C.rv C.L.length C.ps ∈ ls) (h3 : Ly.box x.g x.G 149 ∈ ls) (h4 : x.wv.oneCell' = true) (hx : C.L[i]? = some x) (hl : C.L.length ≤ 8) :
    ∃ rg cap, C.rv = .slice (some ⟨rg, 0, none⟩) C.L.length cap ∧ RgAt w C.r i x.g C.L.length cap rg (.pointer (some ⟨x.sb, 0, none⟩)) x.one x.mny x.wv := by
  have i1 : w.heap[C.r]? = some (.cells (C.cells a) 109 (0, 0)) := lay_is h h1
  have i2 : w.ownsRow W0.heap.size 143 1 C.rv C.L.length C.ps := lay_is h h2
  have i3 : w.heap[x.g]? = some (.cells x.G 149 (0, 0)) := lay_is h h3
  have hi : i < C.L.length := (List.getElem?_eq_some_iff.1 hx).1
  obtain ⟨rg, cap, hv, _, hcm⟩ := row_some i2 (by omega)
  refine ⟨rg, cap, hv, (obj_cell i1 3).trans ?_, hi, by omega, ?_, x.G_one h4, i3⟩
  · simp [Cw.cells, hv]
  · rw [hv] at i2
    rw [i2.cellAt i (by omega)]
    simp [Cw.ps, hx]
theorem Cm.nu (h : Cm R W0 w a cs st C) : ∃ av, Nu R W0 w (arL a av cs st ++ C.lys a) := Mv.nu h
theorem Cm.is (h : Cm R W0 W a cs st C) {l : Ly} (hl : l ∈ C.lys a) : l.is W0.heap.size W := lay_is h.inv hl
theorem Cw.mem_lys (hx : C.L[i]? = some x) {l : Ly} (hl : l ∈ x.lys) : l ∈ C.lys a := by
  have : l ∈ lays Cr.lys C.L := by
    unfold lays
    rw [List.mem_flatten]
    exact ⟨x.lys, List.mem_map.2 ⟨x, List.mem_of_getElem? hx, rfl⟩, hl⟩
  simp only [Cw.lys, List.mem_append]
  exact .inr (.inr (.inr this))
theorem Cm.one (h : Cm R W0 W a cs st C) (hx : C.L[i]? = some x) : x.wv.oneCell' = true :=
  row_one (h.is (l := .row 3 1 x.wv x.ws.length (x.ws.map (Value.int .i64))) (Cw.mem_lys hx (by simp [Cr.lys, Cr.top])))
theorem Cm.at (h : Cm R W0 W a cs st C) (hx : C.L[i]? = some x) (hl : C.L.length ≤ 8) : ∃ rg cap, C.rv = .slice (some ⟨rg, 0, none⟩) C.L.length cap ∧ RgAt W C.r i x.g C.L.length cap rg (.pointer (some ⟨x.sb, 0, none⟩)) x.one x.mny x.wv :=
  rgat_ly (a := a) h.inv (by simp [Cw.lys, Cw.head]) (by simp [Cw.lys, Cw.head]) (Cw.mem_lys hx (by simp [Cr.lys, Cr.top])) (h.one hx) hx hl
theorem Cm.rm (h : Cm R W0 W a cs st C) : RmC W C.r a C.c C.t := RmC.of (h.is (l := .box C.r (C.cells a) 109) (by simp [Cw.lys, Cw.head]))
end
def Cw.oth (C : Cw) (a : Nat) : List Ly := C.head a ++ lays Cr.lys C.L
section
variable {R : Rest} {W0 W w : World} {a : Nat} {cs : List Int} {st : Int} {C : Cw} {ts : List (Int × Int)} {now : Int} {xs : List Ac}
theorem Cm.rc (h : Cm R W0 W a cs st C) : ∃ av, Rc (lay W0.heap.size (arL a av cs st ++ C.oth a) R) W0 W C.c C.t C.ts C.now C.xs := by
  obtain ⟨av, hn⟩ := h.nu
  refine ⟨av, (hn.perm ?_).rc (cv := C.cv) (tv := C.tv)⟩
  unfold Cw.lys Cw.oth
  refine List.Perm.trans (l₂ := (arL a av cs st ++ C.head a) ++ (ckL C.c C.cv C.ts C.now ++ (tbL C.t C.tv C.xs ++ lays Cr.lys C.L))) (by simp [List.append_assoc]) ?_
  refine List.Perm.trans (l₂ := (ckL C.c C.cv C.ts C.now ++ (tbL C.t C.tv C.xs)) ++ ((arL a av cs st ++ C.head a) ++ lays Cr.lys C.L)) ?_ (by simp [List.append_assoc])
  rw [← List.append_assoc, ← List.append_assoc, ← List.append_assoc]
  refine List.Perm.append_right _ ?_
  rw [List.append_assoc]
  exact List.perm_append_comm
theorem Rc.cm {av : Value} (h : Rc (lay W0.heap.size (arL a av cs st ++ C.oth a) R) W0 w C.c C.t ts now xs) : ∃ cv tv, Cm R W0 w a cs st { C with ts := ts, now := now, xs := xs, cv := cv, tv := tv } := by
  obtain ⟨cv, tv, hn⟩ := h.nu
  refine ⟨cv, tv, (hn.perm ?_).mv (av := av)⟩
  unfold Cw.lys Cw.oth
  refine List.Perm.symm (List.Perm.trans (l₂ := (arL a av cs st ++ C.head a) ++ (ckL C.c cv ts now ++ (tbL C.t tv xs ++ lays Cr.lys C.L))) (by simp [List.append_assoc, Cw.head, Cw.cells, Cw.ps]) ?_)
  refine List.Perm.trans (l₂ := (ckL C.c cv ts now ++ (tbL C.t tv xs)) ++ ((arL a av cs st ++ C.head a) ++ lays Cr.lys C.L)) ?_ (by simp [List.append_assoc])
  rw [← List.append_assoc, ← List.append_assoc, ← List.append_assoc]
  refine List.Perm.append_right _ ?_
  rw [List.append_assoc]
  exact List.perm_append_comm
end
end Go.Proofs.YtdfcfdcekdmcmaaGreat
namespace Go.Proofs.YtdfcfdcekdmcmaaGreat
set_option linter.unusedVariables false
def Cr.cells (x : Cr) : List Int := if x.many = true then x.c :: x.sn :: x.sh else [x.p]
structure Arn (cs : List Int) (L : List Cr) : Prop where
  at' : ∀ (i : Nat) (x : Cr), L[i]? = some x → ∀ (m : Nat) (v : Int), x.cells[m]? = some v → cs[x.o + m]? = some v
  ap : ∀ (i j : Nat) (x y : Cr), i ≠ j → L[i]? = some x → L[j]? = some y → x.o + x.cells.length ≤ y.o ∨ y.o + y.cells.length ≤ x.o
section
variable {cs cs' : List Int} {L : List Cr} {i : Nat} {x x' : Cr}
theorem Arn.le (h : Arn cs L) (hx : L[i]? = some x) (hn : 0 < x.cells.length) : x.o + x.cells.length ≤ cs.length := by
  have := h.at' i x hx (x.cells.length - 1) (x.cells[x.cells.length - 1]) (List.getElem?_eq_getElem _)
  have := (List.getElem?_eq_some_iff.1 this).1
  omega
theorem Arn.set (h : Arn cs L) (hx : L[i]? = some x) (ho : x'.o = x.o) (hl : x'.cells.length = x.cells.length) (h1 : ∀ j, (j < x.o ∨ x.o + x.cells.length ≤ j) → cs'[j]? = cs[j]?) (h2 : ∀ (m : Nat) (v : Int), x'.cells[m]? = some v → cs'[x.o + m]? = some v) : Arn cs' (L.set i x') := by
  have hi := (List.getElem?_eq_some_iff.1 hx).1
  refine ⟨fun j y hy m v hv => ?_, fun j k y z hne hy hz => ?_⟩
  · by_cases e : i = j
    · subst e
      rw [List.getElem?_set_self hi, Option.some.injEq] at hy
      subst hy
      rw [ho]
      exact h2 m v hv
    · rw [List.getElem?_set_ne e] at hy
      have hm := (List.getElem?_eq_some_iff.1 hv).1
      rw [h1 _ (by rcases h.ap i j x y e hx hy with h3 | h3 <;> omega)]
      exact h.at' j y hy m v hv
  · by_cases e : i = j
    · subst e
      rw [List.getElem?_set_self hi, Option.some.injEq] at hy
      subst hy
      rw [List.getElem?_set_ne hne] at hz
      rw [ho, hl]
      exact h.ap i k x z hne hx hz
    · rw [List.getElem?_set_ne e] at hy
      by_cases e2 : i = k
      · subst e2
        rw [List.getElem?_set_self hi, Option.some.injEq] at hz
        subst hz
        rw [ho, hl]
        exact h.ap j i y x hne hy hx
      · rw [List.getElem?_set_ne e2] at hz
        exact h.ap j k y z hne hy hz
theorem Arn.put (h : Arn cs L) (hx : L[i]? = some x) {m : Nat} {u : Int} (hm : m < x.cells.length) (ho : x'.o = x.o) (hc : x'.cells = x.cells.set m u) : Arn (cs.set (x.o + m) u) (L.set i x') := by
  have hle := h.le hx (by omega)
  refine h.set hx ho (by rw [hc, List.length_set]) (fun j hj => List.getElem?_set_ne (by omega)) fun n v hv => ?_
  rw [hc] at hv
  by_cases e : m = n
  · subst e
    rw [List.getElem?_set_self hm] at hv
    rw [List.getElem?_set_self (by omega)]
    exact hv
  · rw [List.getElem?_set_ne e] at hv
    rw [List.getElem?_set_ne (by omega)]
    exact h.at' i x hx n v hv
theorem Arn.same (h : Arn cs L) (hx : L[i]? = some x) (ho : x'.o = x.o) (hc : x'.cells = x.cells) : Arn cs (L.set i x') :=
  h.set hx ho (by rw [hc]) (fun _ _ => rfl) fun m v hv => h.at' i x hx m v (by rw [← hc]; exact hv)
theorem Arn.snoc (h : Arn cs L) (hpos : ∀ (i : Nat) (x : Cr), L[i]? = some x → 0 < x.cells.length) (ho : x'.o = cs.length) : Arn (cs ++ x'.cells) (L ++ [x']) := by
  have hL : ∀ (j : Nat) (y : Cr), (L ++ [x'])[j]? = some y → (j < L.length ∧ L[j]? = some y) ∨ (j = L.length ∧ y = x') := fun j y hy => by
    by_cases e : j < L.length
    · rw [List.getElem?_append_left e] at hy
      exact .inl ⟨e, hy⟩
    · rw [List.getElem?_append_right (by omega)] at hy
      by_cases e2 : j - L.length = 0
      · rw [e2] at hy
        simp at hy
        exact .inr ⟨by omega, hy.symm⟩
      · obtain ⟨n, hn⟩ : ∃ n, j - L.length = n + 1 := ⟨j - L.length - 1, by omega⟩
        rw [hn] at hy
        simp at hy
  refine ⟨fun j y hy m v hv => ?_, fun j k y z hne hy hz => ?_⟩
  · rcases hL j y hy with ⟨_, hy⟩ | ⟨_, rfl⟩
    · have := h.at' j y hy m v hv
      rw [List.getElem?_append_left (List.getElem?_eq_some_iff.1 this).1]
      exact this
    · rw [ho, List.getElem?_append_right (by omega), Nat.add_sub_cancel_left]
      exact hv
  · rcases hL j y hy with ⟨_, hjy⟩ | ⟨ej, rfl⟩
    · rcases hL k z hz with ⟨_, hz⟩ | ⟨_, rfl⟩
      · exact h.ap j k y z hne hjy hz
      · have := h.le hjy (hpos j y hjy)
        omega
    · rcases hL k z hz with ⟨_, hz⟩ | ⟨ek, rfl⟩
      · have := h.le hz (hpos k z hz)
        omega
      · omega
end
end Go.Proofs.YtdfcfdcekdmcmaaGreat
namespace Go.Proofs.YtdfcfdcekdmcmaaGreat
open Go.RowKit
set_option linter.unusedVariables false
set_option linter.unusedSimpArgs false
def Cw.Y (C : Cw) (a i : Nat) (x : Cr) : List Ly := (C.head a ++ (ckL C.c C.cv C.ts C.now ++ (tbL C.t C.tv C.xs ++ (lays Cr.lys (C.L.take i) ++ x.top)))) ++ (x.sl ++ (x.bf ++ lays Cr.lys (C.L.drop (i + 1))))
def Cw.Z (C : Cw) (a i : Nat) (x : Cr) : List Ly := (C.head a ++ lays Cr.lys (C.L.take i)) ++ (x.sq :: (x.sl ++ (x.bf ++ lays Cr.lys (C.L.drop (i + 1)))))
section
variable {R : Rest} {W0 W w : World} {a : Nat} {cs cs' : List Int} {st st' : Int} {C : Cw} {i : Nat} {x x' : Cr}
theorem Cw.head_set (hx : C.L[i]? = some x) (hg : x'.g = x.g) : ({ C with L := C.L.set i x' } : Cw).head a = C.head a := by
  have e : ({ C with L := C.L.set i x' } : Cw).ps = C.ps := by
    unfold Cw.ps
    apply List.ext_getElem?
    intro k
    simp only [List.getElem?_map]
    by_cases e : i = k
    · subst e
      rw [List.getElem?_set_self (List.getElem?_eq_some_iff.1 hx).1, hx]
      simp [hg]
    · rw [List.getElem?_set_ne e]
  unfold Cw.head
  rw [e]
  simp [Cw.cells]
theorem Cw.outY (hx : C.L[i]? = some x) : (C.lys a).Perm (x.sq :: C.Y a i x) := by
  have e : C.lys a = (C.head a ++ (ckL C.c C.cv C.ts C.now ++ (tbL C.t C.tv C.xs ++ (lays Cr.lys (C.L.take i) ++ x.top)))) ++ ([x.sq] ++ (x.sl ++ (x.bf ++ lays Cr.lys (C.L.drop (i + 1))))) := by
    unfold Cw.lys
    rw [lays_split hx]
    simp [Cr.lys, List.append_assoc]
  rw [e]
  exact List.perm_append_comm_assoc _ _ _
theorem Cw.inY (hx : C.L[i]? = some x) (hg : x'.g = x.g) (h1 : x'.top = x.top) (h2 : x'.sl = x.sl) (h3 : x'.bf = x.bf) : (x'.sq :: C.Y a i x).Perm (({ C with L := C.L.set i x' } : Cw).lys a) := by
  have hi := (List.getElem?_eq_some_iff.1 hx).1
  have e : ({ C with L := C.L.set i x' } : Cw).lys a = (C.head a ++ (ckL C.c C.cv C.ts C.now ++ (tbL C.t C.tv C.xs ++ (lays Cr.lys (C.L.take i) ++ x.top)))) ++ ([x'.sq] ++ (x.sl ++ (x.bf ++ lays Cr.lys (C.L.drop (i + 1))))) := by
    unfold Cw.lys
    rw [Cw.head_set hx hg, lays_set x' hi]
    simp [Cr.lys, h1, h2, h3, List.append_assoc]
  rw [e]
  exact (List.perm_append_comm_assoc _ [x'.sq] _).symm
theorem Cw.outZ (hx : C.L[i]? = some x) : (C.oth a).Perm (x.top ++ C.Z a i x) := by
  have e : C.oth a = (C.head a ++ lays Cr.lys (C.L.take i)) ++ (x.top ++ (x.sq :: (x.sl ++ (x.bf ++ lays Cr.lys (C.L.drop (i + 1)))))) := by
    unfold Cw.oth
    rw [lays_split hx]
    simp [Cr.lys, List.append_assoc]
  rw [e]
  exact List.perm_append_comm_assoc _ _ _
theorem Cw.inZ (hx : C.L[i]? = some x) (hg : x'.g = x.g) (h1 : x'.sq = x.sq) (h2 : x'.sl = x.sl) (h3 : x'.bf = x.bf) : (x'.top ++ C.Z a i x).Perm (({ C with L := C.L.set i x' } : Cw).oth a) := by
  have hi := (List.getElem?_eq_some_iff.1 hx).1
  have e : ({ C with L := C.L.set i x' } : Cw).oth a = (C.head a ++ lays Cr.lys (C.L.take i)) ++ (x'.top ++ (x.sq :: (x.sl ++ (x.bf ++ lays Cr.lys (C.L.drop (i + 1)))))) := by
    unfold Cw.oth
    rw [Cw.head_set hx hg, lays_set x' hi]
    simp [Cr.lys, h1, h2, h3, List.append_assoc]
  rw [e]
  exact (List.perm_append_comm_assoc _ _ _).symm
theorem Cm.one' (h : Cm R W0 W a cs st C) (hx : C.L[i]? = some x) (hm : x.many = false) (hcs : SgF x.cs a x.k x.o [] x.c x.p x.sn x.sc) : Sg (lay W0.heap.size (C.Y a i x) R) W0 W x.sp a x.k x.o [] x.c x.p x.sn x.sc cs st := by
  refine ⟨x.cs, hcs, Mv.le h ?_⟩
  have e : x.sq = .box x.sp x.cs 223 := by simp [Cr.sq, hm]
  have := lay_perm (B := W0.heap.size) (R := R) (Cw.outY (a := a) hx)
  rw [e] at this
  exact this
theorem Sg.cm {c p sn sc : Int} (hx : C.L[i]? = some x) (hm : x.many = false) (h : Sg (lay W0.heap.size (C.Y a i x) R) W0 w x.sp a x.k x.o [] c p sn sc cs' st') : ∃ k1, SgF k1 a x.k x.o [] c p sn sc ∧ Cm R W0 w a cs' st' { C with L := C.L.set i { x with c := c, p := p, sn := sn, sc := sc, cs := k1 } } := by
  obtain ⟨k1, h1, h2⟩ := h
  refine ⟨k1, h1, Mv.le h2 ?_⟩
  have e : ({ x with c := c, p := p, sn := sn, sc := sc, cs := k1 } : Cr).sq = .box x.sp k1 223 := by simp [Cr.sq, hm]
  have := lay_perm (B := W0.heap.size) (R := R) (Cw.inY (a := a) (x' := { x with c := c, p := p, sn := sn, sc := sc, cs := k1 }) hx rfl rfl rfl rfl)
  rw [e] at this
  exact this
theorem Cm.many' (h : Cm R W0 W a cs st C) (hx : C.L[i]? = some x) (hm : x.many = true) (hk : x.k ≤ 20) (ho : (x.o : Int) + 2 ≤ 2097152) (hcs : SqF x.cs (x.seq a) [] x.sw) : Ms (lay W0.heap.size (C.Y a i x) R) W0 W (x.seq a) [] x.sw cs st := by
  have e : x.sq = .box x.sp x.cs 219 := by simp [Cr.sq, hm]
  have hl := lay_perm (B := W0.heap.size) (R := R) (Cw.outY (a := a) hx)
  rw [e] at hl
  refine Mv.seq (s := x.seq a) hcs hk (by simp only [Cr.seq]; omega) (fun hi => ?_) (Mv.le h hl)
  exact lay_is (l := .box x.q (bfA (x.o + 2) x.k) 268) hi (by simp [Cw.Y, Cr.bf, hm])
theorem Ms.cm {c sn sw : Int} {sh : List Int} (hx : C.L[i]? = some x) (hm : x.many = true) (h : Ms (lay W0.heap.size (C.Y a i x) R) W0 w (x.seq a) [] sw cs' st') : ∃ k1, SqF k1 (x.seq a) [] sw ∧ Cm R W0 w a cs' st' { C with L := C.L.set i { x with c := c, sn := sn, sw := sw, sh := sh, cs := k1 } } := by
  obtain ⟨k1, h1, h2⟩ := h.boxed
  refine ⟨k1, h1, Mv.le h2 ?_⟩
  have e : ({ x with c := c, sn := sn, sw := sw, sh := sh, cs := k1 } : Cr).sq = .box x.sp k1 219 := by simp [Cr.sq, hm]
  have := lay_perm (B := W0.heap.size) (R := R) (Cw.inY (a := a) (x' := { x with c := c, sn := sn, sw := sw, sh := sh, cs := k1 }) hx rfl rfl rfl rfl)
  rw [e] at this
  exact this
theorem Cw.Y_at (hx : C.L[i]? = some x) (hl : C.L.length ≤ 8) (h4 : x.wv.oneCell' = true) {R : Rest} {w : World} (hi : (lay W0.heap.size (C.Y a i x) R).inv w) : ∃ rg cap, C.rv = .slice (some ⟨rg, 0, none⟩) C.L.length cap ∧ RgAt w C.r i x.g C.L.length cap rg (.pointer (some ⟨x.sb, 0, none⟩)) x.one x.mny x.wv :=
  rgat_ly (a := a) hi (by simp [Cw.Y, Cw.head]) (by simp [Cw.Y, Cw.head]) (by simp [Cw.Y, Cr.top]) h4 hx hl
theorem Cw.Y_find (hx : C.L[i]? = some x) (hl : C.L.length ≤ 8) (h4 : x.wv.oneCell' = true) {R : Rest} (op : ByteArray) (w : World) (hi : (lay W0.heap.size (C.Y a i x) R).inv w) : Calls Tryz.prog 69 #[.pointer (some ⟨C.r, 0, none⟩), .string op, .int .i64 i] w fun e w' => e = .returned (.tuple #[.pointer (some ⟨x.g, 0, none⟩), .nilIface]) ∧ Below w.heap.size w w' := by
  obtain ⟨rg, cap, _, hr⟩ := Cw.Y_at (a := a) hx hl h4 hi
  exact find_at op hr
theorem Cm.rcTop (h : Cm R W0 W a cs st C) (hx : C.L[i]? = some x) : ∃ av, Rc (RnR (lay W0.heap.size (arL a av cs st ++ C.Z a i x) R) W0.heap.size x.g (.pointer (some ⟨x.sb, 0, none⟩)) x.one x.mny x.wv x.ws) W0 W C.c C.t C.ts C.now C.xs := by
  obtain ⟨av, hr⟩ := h.rc
  have hp : (arL a av cs st ++ C.oth a).Perm (x.top ++ (arL a av cs st ++ C.Z a i x)) := ((List.Perm.append_left _ (Cw.outZ hx)).trans (List.perm_append_comm_assoc _ _ _))
  have hl := lay_perm (B := W0.heap.size) (R := R) hp
  rw [lay_app] at hl
  exact ⟨av, hr.le hl.1 (hl.2 _ hr.inv)⟩
theorem Rc.cmTop {av wv' : Value} {ws' : List Int} {ts : List (Int × Int)} {now : Int} {xs : List Ac} (hx : C.L[i]? = some x) (h : Rc (RnR (lay W0.heap.size (arL a av cs st ++ C.Z a i x) R) W0.heap.size x.g (.pointer (some ⟨x.sb, 0, none⟩)) x.one x.mny wv' ws') W0 w C.c C.t ts now xs) : ∃ cv tv, Cm R W0 w a cs st { C with ts := ts, now := now, xs := xs, cv := cv, tv := tv, L := C.L.set i { x with ws := ws', wv := wv' } } := by
  have hp : (({ x with ws := ws', wv := wv' } : Cr).top ++ (arL a av cs st ++ C.Z a i x)).Perm (arL a av cs st ++ ({ C with L := C.L.set i { x with ws := ws', wv := wv' } } : Cw).oth a) := (List.perm_append_comm_assoc _ _ _).trans (List.Perm.append_left _ (Cw.inZ hx rfl rfl rfl rfl))
  have hl := lay_perm (B := W0.heap.size) (R := R) hp
  rw [lay_app] at hl
  have h2 : Rc (lay W0.heap.size (arL a av cs st ++ ({ C with L := C.L.set i { x with ws := ws', wv := wv' } } : Cw).oth a) R) W0 w C.c C.t ts now xs := Rc.le h hl.1 (hl.2 _ h.inv)
  exact Rc.cm (C := { C with L := C.L.set i { x with ws := ws', wv := wv' } }) h2
end
end Go.Proofs.YtdfcfdcekdmcmaaGreat
namespace Go.Proofs.YtdfcfdcekdmcmaaGreat
open Go.RowKit
set_option linter.unusedVariables false
set_option linter.unusedSimpArgs false
theorem wk_srt (ms : List (Int × Int)) (xs : List Ac) (who : Int) : wk (srt ms, xs) who = (srt (wk (ms, xs) who).1, (wk (ms, xs) who).2) ∧ woke (srt ms, xs) who = woke (ms, xs) who := by
  refine ⟨?_, rfl⟩
  unfold wk
  simp only
  cases xs[who.toNat]? with
  | none => rfl
  | some a =>
    simp only
    split
    · unfold notHis
      rw [kept_srt]
    · rfl
theorem wks_srt (ms : List (Int × Int)) (xs : List Ac) (l : List Int) (k : Nat) (hk : k ≤ l.length) : wks (srt ms, xs) l k = ((srt (wks (ms, xs) l k).1.1, (wks (ms, xs) l k).1.2), (wks (ms, xs) l k).2) := by
  induction k with
  | zero => simp only [wks_zero]
  | succ k ih =>
    rw [wks_next (by omega), wks_next (by omega), ih (by omega)]
    obtain ⟨h1, h2⟩ := wk_srt (wks (ms, xs) l k).1.1 (wks (ms, xs) l k).1.2 (l.getD k 0)
    simp only [h1, h2]
def Dis (ms : List (Int × Int)) : Prop := (ms.map (·.2)).Nodup
theorem Dis.filter {ms : List (Int × Int)} (h : Dis ms) (p : Int × Int → Bool) : Dis (ms.filter p) := List.Nodup.sublist (List.Sublist.map _ List.filter_sublist) h
theorem Dis.drop {ms : List (Int × Int)} (h : Dis ms) (who : Int) : Dis (dropD ms who) := by
  unfold dropD
  rw [keptL_all]
  exact h.filter _
theorem Dis.wk {ms : List (Int × Int)} (h : Dis ms) (xs : List Ac) (who : Int) : Dis (wk (ms, xs) who).1 := by
  unfold Go.Proofs.YtdfcfdcekdmcmaaGreat.wk
  simp only
  cases xs[who.toNat]? with
  | none => exact h
  | some a =>
    simp only
    split
    · exact h.drop who
    · exact h
theorem Dis.wks {ms : List (Int × Int)} (h : Dis ms) (xs : List Ac) (l : List Int) (k : Nat) (hk : k ≤ l.length) : Dis (wks (ms, xs) l k).1.1 := by
  induction k with
  | zero => rw [wks_zero]; exact h
  | succ k ih =>
    rw [wks_next (by omega)]
    exact Dis.wk (ih (by omega)) _ _
def Sv (xs : List Ac) : Prop := ∀ a ∈ xs, a.1 = 0 ∨ a.1 = 1 ∨ a.1 = 2
theorem Sv.set {xs : List Ac} (h : Sv xs) {i : Nat} {a : Ac} (ha : a.1 = 0 ∨ a.1 = 1 ∨ a.1 = 2) : Sv (xs.set i a) := by
  intro x hx
  rcases List.mem_or_eq_of_mem_set hx with hx | rfl
  · exact h x hx
  · exact ha
theorem Sv.at {xs : List Ac} (h : Sv xs) {i : Nat} {a : Ac} (ha : xs[i]? = some a) : a.1 = 0 ∨ a.1 = 1 ∨ a.1 = 2 := h a (List.mem_of_getElem? ha)
theorem wakeS_sv {a : Ac} (h : a.1 = 0 ∨ a.1 = 1 ∨ a.1 = 2) : (wakeS a).1 = 0 ∨ (wakeS a).1 = 1 ∨ (wakeS a).1 = 2 := by
  unfold wakeS
  split
  · exact .inl rfl
  · exact h
theorem parkS_sv {a : Ac} (h : a.1 = 0 ∨ a.1 = 1 ∨ a.1 = 2) : (parkS a).1 = 0 ∨ (parkS a).1 = 1 ∨ (parkS a).1 = 2 := by
  unfold parkS
  split
  · exact h
  · exact .inr (.inl rfl)
theorem Sv.wk {xs : List Ac} (h : Sv xs) (ts : List (Int × Int)) (who : Int) : Sv (wk (ts, xs) who).2 := by
  unfold Go.Proofs.YtdfcfdcekdmcmaaGreat.wk
  simp only
  cases ha : xs[who.toNat]? with
  | none => exact h
  | some a =>
    simp only
    split
    · exact h.set (wakeS_sv (h.at ha))
    · exact h
theorem Sv.wks {xs : List Ac} (h : Sv xs) (ts : List (Int × Int)) (l : List Int) (k : Nat) (hk : k ≤ l.length) : Sv (wks (ts, xs) l k).1.2 := by
  induction k with
  | zero => rw [wks_zero]; exact h
  | succ k ih =>
    rw [wks_next (by omega)]
    exact Sv.wk (ih (by omega)) _ _
theorem nodup_le : ∀ (n : Nat) (l : List Int), l.Nodup → (∀ x ∈ l, 0 ≤ x ∧ x < (n : Int)) → l.length ≤ n
  | 0, l, _, h => by
    cases l with
    | nil => simp
    | cons x l =>
      have := h x (by simp)
      omega
  | n + 1, l, hd, h => by
    have h1 : (l.filter fun x => x != (n : Int)).length ≤ n := by
      refine nodup_le n _ (hd.sublist List.filter_sublist) fun x hx => ?_
      rw [List.mem_filter] at hx
      have h2 := h x hx.1
      have h3 : x ≠ (n : Int) := by simpa using hx.2
      omega
    have h2 : l.length ≤ (l.filter fun x => x != (n : Int)).length + 1 := by
      have h3 := List.nodup_iff_count.1 hd (n : Int)
      have h4 := List.length_eq_countP_add_countP (fun x => x != (n : Int)) (l := l)
      rw [← List.countP_eq_length_filter]
      have h5 : List.countP (fun x => decide ¬ ((x != (n : Int)) = true)) l = List.count (n : Int) l := by
        unfold List.count
        congr 1
        funext x
        by_cases e : x = (n : Int) <;> simp [e]
      omega
    omega
theorem Dis.len {ms : List (Int × Int)} {xs : List Ac} (h : Dis ms) (ht : Tim ms xs) : ms.length ≤ xs.length := by
  have := nodup_le xs.length (ms.map fun t : Int × Int => t.2) h fun x hx => by
    obtain ⟨t, h1, rfl⟩ := List.mem_map.1 hx
    obtain ⟨i, a, e1, e2, _⟩ := ht t h1
    have := (List.getElem?_eq_some_iff.1 e2).1
    omega
  simpa using this
structure Tw (a q : Nat) (x : Cr) (y : Dr) : Prop where
  k : x.k = y.k
  k6 : y.k ≤ 6
  m : x.many = y.many
  c : x.c = y.c
  sn : x.sn = y.sn
  ws : x.ws = y.ws
  wl : y.ws.length ≤ q
  wn : y.ws.Nodup
  p : y.many = false → x.p = y.p
  sh : y.many = true → x.sh = y.shown.map (· / two y.k)
  shl : (y.shown.length : Int) = two y.k
  shn : ∀ (s : Nat) (v : Int), y.shown[s]? = some v → v = -1 ∨ (0 ≤ v ∧ v ≤ y.c ∧ v % two y.k = s)
  c0 : -1 ≤ y.c
  c1 : y.c ≤ 64 * q
  p0 : -1 ≤ y.p
  p1 : y.p ≤ y.c
  s0 : -1 ≤ y.sn
  s1 : y.sn ≤ y.c
  sc : 0 ≤ x.sc ∧ x.sc ≤ q
  sg : y.many = false → SgF x.cs a x.k x.o [] x.c x.p x.sn x.sc ∧ y.sn ≤ y.p
  sq : y.many = true → SqF x.cs (x.seq a) [] x.sw ∧ x.sw ≤ y.c
structure Pl (a : Nat) (cs : List Int) (st : Int) (C : Cw) (d : Dw) (q : Nat) : Prop where
  arn : Arn cs C.L
  csl : cs.length ≤ 66 * C.L.length
  len : C.L.length = d.L.length
  l8 : d.L.length ≤ 8
  tw : ∀ (i : Nat) (x : Cr) (y : Dr), C.L[i]? = some x → d.L[i]? = some y → Tw a q x y
  now : C.now = d.now
  n0 : 0 ≤ d.now
  n1 : d.now ≤ 1099511627776
  ts : C.ts = srt d.ms
  xs : C.xs = d.xs
  xl : d.xs.length ≤ 64
  tim : Tim d.ms d.xs
  dis : Dis d.ms
  wb : Wb (1000 * q) d.xs
  sv : Sv d.xs
  st0 : 0 ≤ st
  st1 : st ≤ 2000000 * q
structure Bo (R : Rest) (W0 w : World) (a : Nat) (cs : List Int) (st : Int) (C : Cw) (d : Dw) (q : Nat) : Prop where
  mv : Mv (lay W0.heap.size (C.lys a ++ d.lys) R) W0 w a cs st
  pl : Pl a cs st C d q
section
variable {R : Rest} {W0 W w : World} {a : Nat} {cs : List Int} {st : Int} {C : Cw} {d : Dw} {q q' : Nat}
theorem Tw.up {x : Cr} {y : Dr} (h : Tw a q x y) (hq : q ≤ q') : Tw a q' x y := { h with wl := by have := h.wl; omega, c1 := by have := h.c1; omega, sc := by have := h.sc; omega }
theorem Pl.up (h : Pl a cs st C d q) (hq : q ≤ q') : Pl a cs st C d q' := { h with tw := fun i x y hx hy => (h.tw i x y hx hy).up hq, wb := h.wb.up (by omega), st1 := by have := h.st1; omega }
theorem Pl.ml (h : Pl a cs st C d q) : d.ms.length ≤ 64 := by
  have := h.dis.len h.tim
  have := h.xl
  omega
theorem Pl.at (h : Pl a cs st C d q) {i : Nat} (hi : i < d.L.length) : ∃ x y, C.L[i]? = some x ∧ d.L[i]? = some y ∧ Tw a q x y := by
  have h1 : i < C.L.length := by rw [h.len]; exact hi
  exact ⟨_, _, List.getElem?_eq_getElem h1, List.getElem?_eq_getElem hi, h.tw i _ _ (List.getElem?_eq_getElem h1) (List.getElem?_eq_getElem hi)⟩
theorem Pl.tab (h : Pl a cs st C d q) {C' : Cw} {d' : Dw} (hC : C'.L = C.L) (hd : d'.L = d.L) (hn : C'.now = d'.now) (h0 : 0 ≤ d'.now) (h1 : d'.now ≤ 1099511627776) (ht : C'.ts = srt d'.ms) (hx : C'.xs = d'.xs) (hl : d'.xs.length ≤ 64) (ti : Tim d'.ms d'.xs) (di : Dis d'.ms) (wb' : Wb (1000 * (q + 1 : Nat)) d'.xs) (sv' : Sv d'.xs) : Pl a cs st C' d' (q + 1) :=
  { arn := by rw [hC]; exact h.arn, csl := by rw [hC]; exact h.csl, len := by rw [hC, hd]; exact h.len, l8 := by rw [hd]; exact h.l8, tw := by rw [hC, hd]; exact fun i x y hx hy => (h.tw i x y hx hy).up (by omega), now := hn, n0 := h0, n1 := h1, ts := ht, xs := hx, xl := hl, tim := ti, dis := di, wb := wb', sv := sv', st0 := h.st0, st1 := by have := h.st1; omega }
theorem Bo.cm (h : Bo R W0 w a cs st C d q) : Cm (lay W0.heap.size d.lys R) W0 w a cs st C := by
  have := h.mv
  rw [lay_app] at this
  exact this
theorem Bo.dm (h : Bo R W0 w a cs st C d q) : Dm (lay W0.heap.size (C.lys a) R) W0 w a cs st d := by
  have := Mv.le h.mv (lay_perm List.perm_append_comm)
  rw [lay_app] at this
  exact this
theorem mv_of_cm (h : Cm (lay W0.heap.size d.lys R) W0 w a cs st C) : Mv (lay W0.heap.size (C.lys a ++ d.lys) R) W0 w a cs st := by
  rw [lay_app]
  exact h
theorem mv_of_dm (h : Dm (lay W0.heap.size (C.lys a) R) W0 w a cs st d) : Mv (lay W0.heap.size (C.lys a ++ d.lys) R) W0 w a cs st := by
  have h1 : Mv (lay W0.heap.size (d.lys ++ C.lys a) R) W0 w a cs st := by
    rw [lay_app]
    exact h
  exact Mv.le h1 (lay_perm List.perm_append_comm)
theorem Cm.dm (h : Cm (lay W0.heap.size d.lys R) W0 w a cs st C) : Dm (lay W0.heap.size (C.lys a) R) W0 w a cs st d := by
  have := Mv.le (mv_of_cm h) (lay_perm List.perm_append_comm)
  rw [lay_app] at this
  exact this
theorem Cm.rinv (h : Cm (lay W0.heap.size d.lys R) W0 w a cs st C) : R.inv w := lay_inv (lay_inv (Mv.inv h))
theorem Dm.rinv (h : Dm (lay W0.heap.size (C.lys a) R) W0 w a cs st d) : R.inv w := lay_inv (lay_inv (Mv.inv h))
end
def BoN (R : Rest) (W0 w : World) (a q r wb : Nat) : Prop := ∃ cs st C d, C.r = r ∧ d.wb = wb ∧ Bo R W0 w a cs st C d q
end Go.Proofs.YtdfcfdcekdmcmaaGreat
namespace Go.Proofs.YtdfcfdcekdmcmaaGreat
open Go.RowKit
set_option linter.unusedVariables false
set_option linter.unusedSimpArgs false
theorem chain_frmG {S : Nat → Prop} {W w : World} {E : Value} {d : Nat} {n : Int} (hf : Frm S W w) (hS : ∀ k c m, W.heap[k]? = some (.cells c 202 m) → ¬ S k) (hc : Chain W E d n) : Chain w E d n := by
  induction hc with
  | num n => exact .num n
  | fault q op seq E d n h0 _ ih => exact .fault q op seq E d n (hf.obj h0 (hS _ _ _ h0)) ih
theorem ErrAt.frmG {S : Nat → Prop} {W w : World} {E : Value} {n : Int} (h : ErrAt W E n) (hf : Frm S W w) (hS : ∀ k c m, W.heap[k]? = some (.cells c 202 m) → ¬ S k) : ErrAt w E n := by
  rcases h with h | ⟨h0, h1, d, h2⟩
  · exact .inl h
  · exact .inr ⟨h0, h1, d, chain_frmG hf hS h2⟩
theorem errat1 {w : World} {q : Nat} {n : Int} (hn : n ≠ 0) (hc : Chain w (Flt q) 1 n) : ErrAt w (Flt q) n := .inr ⟨hn, ⟨q, rfl⟩, 1, hc⟩
theorem not_fault {w : World} {g : Nat} {cs : Array Value} {T : TypeId} {m : Nat × Nat} (hg : w.heap[g]? = some (.cells cs T m)) (hT : T ≠ 202) : ∀ k c m, w.heap[k]? = some (.cells c 202 m) → ¬ k = g := by
  intro k c m h e
  subst e
  rw [hg] at h
  cases h
  exact hT rfl
section
variable {W : World} {r n cap : Nat} {p : Option Addr}
theorem rfind_out (op : ByteArray) (c3 : W.cell? ⟨r, 3, none⟩ = some (.slice p n cap)) (hn : n ≤ 8) (id : Int) (hid : id < 0 ∨ (n : Int) ≤ id) : Calls Tryz.prog 69 #[.pointer (some ⟨r, 0, none⟩), .string op, .int .i64 id] W fun e w' => ∃ q, e = .returned (.tuple #[.pointer none, Flt q]) ∧ NewE W w' q 3 := by
  by_cases h : id < 0
  · have d1 : decide (id < 0) = true := decide_eq_true h
    go_enter Tryz.func69, Tryz.ntmps69
    go_wp2_with (go_at_call 75; refine (wrap_iface _ _ _ _).mono ?_; rintro e w' ⟨rfl, hw⟩; obtain ⟨hch, hbb⟩ := ferr hw; clear hw)
    go_ret2
    exact ⟨_, rfl, hch, hbb⟩
  · have d1 : decide (id < 0) = false := decide_eq_false h
    have d2 : decide ((n : Int) ≤ id) = true := decide_eq_true (by omega)
    go_enter Tryz.func69, Tryz.ntmps69
    go_wp2_with (go_at_call 75; refine (wrap_iface _ _ _ _).mono ?_; rintro e w' ⟨rfl, hw⟩; obtain ⟨hch, hbb⟩ := ferr hw; clear hw)
    go_ret2
    exact ⟨_, rfl, hch, hbb⟩
theorem rpublished_out (c3 : W.cell? ⟨r, 3, none⟩ = some (.slice p n cap)) (hn : n ≤ 8) (id at' : Int) (hid : id < 0 ∨ (n : Int) ≤ id) : Calls Tryz.prog 30 #[.pointer (some ⟨r, 0, none⟩), .int .i64 id, .int .i64 at'] W fun e w' => ∃ q, e = .returned (.tuple #[.int .i64 0, Flt q]) ∧ NewE W w' q 3 := by
  go_enter Tryz.func30, Tryz.ntmps30
  go_wp2_with (go_at_call 69; refine (rfind_out _ c3 hn _ hid).mono ?_; rintro e w' ⟨q, rfl, hn⟩)
  go_ret2
  exact ⟨_, rfl, hn⟩
theorem rshow_out (c3 : W.cell? ⟨r, 3, none⟩ = some (.slice p n cap)) (hn : n ≤ 8) (id at' hi : Int) (hid : id < 0 ∨ (n : Int) ≤ id) : Calls Tryz.prog 29 #[.pointer (some ⟨r, 0, none⟩), .int .i64 id, .int .i64 at', .int .i64 hi] W fun e w' => ∃ q, e = .returned (.tuple #[.int .i64 0, Flt q]) ∧ NewE W w' q 3 := by
  go_enter Tryz.func29, Tryz.ntmps29
  go_wp2_with (go_at_call 69; refine (rfind_out _ c3 hn _ hid).mono ?_; rintro e w' ⟨q, rfl, hn⟩)
  go_ret2
  exact ⟨_, rfl, hn⟩
theorem rsignal_out (c3 : W.cell? ⟨r, 3, none⟩ = some (.slice p n cap)) (hn : n ≤ 8) (id : Int) (hid : id < 0 ∨ (n : Int) ≤ id) : Calls Tryz.prog 20 #[.pointer (some ⟨r, 0, none⟩), .int .i64 id] W fun e w' => ∃ q, e = .returned (.tuple #[.int .i64 0, Flt q]) ∧ NewE W w' q 3 := by
  go_enter Tryz.func20, Tryz.ntmps20
  go_wp2_with (go_at_call 69; refine (rfind_out _ c3 hn _ hid).mono ?_; rintro e w' ⟨q, rfl, hn⟩)
  go_ret2
  exact ⟨_, rfl, hn⟩
theorem renlist_out (c3 : W.cell? ⟨r, 3, none⟩ = some (.slice p n cap)) (hn : n ≤ 8) (id who : Int) (hid : id < 0 ∨ (n : Int) ≤ id) : Calls Tryz.prog 17 #[.pointer (some ⟨r, 0, none⟩), .int .i64 id, .int .i64 who] W fun e w' => ∃ q, e = .returned (Flt q) ∧ NewE W w' q 3 := by
  go_enter Tryz.func17, Tryz.ntmps17
  go_wp2_with (go_at_call 69; refine (rfind_out _ c3 hn _ hid).mono ?_; rintro e w' ⟨q, rfl, hn⟩)
  go_ret
  exact ⟨_, rfl, hn⟩
end
section
variable {R : Rest} {W0 W w : World} {a : Nat} {cs : List Int} {st : Int} {C : Cw} {d : Dw} {q q' i : Nat} {x : Cr}
theorem Cm.c3 (h : Cm R W0 W a cs st C) : ∃ p cap, C.rv = .slice p C.L.length cap ∧ W.cell? ⟨C.r, 3, none⟩ = some (.slice p C.L.length cap) := by
  have h1 := h.is (l := .row 143 1 C.rv C.L.length C.ps) (by simp [Cw.lys, Cw.head])
  have h2 := h.is (l := .box C.r (C.cells a) 109) (by simp [Cw.lys, Cw.head])
  obtain ⟨p, cap, hv, -⟩ := row_form h1
  exact ⟨p, cap, hv, (obj_cell h2 3).trans (by simp [Cw.cells, hv])⟩
theorem oth_hr {av : Value} {w : World} (hi : (lay W0.heap.size (arL a av cs st ++ C.oth a) R).inv w) : RmC w C.r a C.c C.t := RmC.of (lay_is hi (l := .box C.r (C.cells a) 109) (by simp [Cw.oth, Cw.head]))
theorem Z_hr {av : Value} {w : World} (hi : (lay W0.heap.size (arL a av cs st ++ C.Z a i x) R).inv w) : RmC w C.r a C.c C.t := RmC.of (lay_is hi (l := .box C.r (C.cells a) 109) (by simp [Cw.Z, Cw.head]))
theorem Z_find {av : Value} {w : World} (hx : C.L[i]? = some x) (hl : C.L.length ≤ 8) (op : ByteArray) (hi : (lay W0.heap.size (arL a av cs st ++ C.Z a i x) R).inv w) : Calls Tryz.prog 69 #[.pointer (some ⟨C.r, 0, none⟩), .string op, .int .i64 i] w fun e w' => e = .returned (.tuple #[.pointer (some ⟨x.g, 0, none⟩), .nilIface]) ∧ w = w' := by
  have i1 : w.heap[C.r]? = some (.cells (C.cells a) 109 (0, 0)) := lay_is hi (l := .box C.r (C.cells a) 109) (by simp [Cw.Z, Cw.head])
  have i2 : w.ownsRow W0.heap.size 143 1 C.rv C.L.length C.ps := lay_is hi (l := .row 143 1 C.rv C.L.length C.ps) (by simp [Cw.Z, Cw.head])
  have hil : i < C.L.length := (List.getElem?_eq_some_iff.1 hx).1
  obtain ⟨rg, cap, hv, _, _⟩ := row_some i2 (by omega)
  rw [hv] at i2
  have cg : w.cell? ⟨rg, i, none⟩ = some (.pointer (some ⟨x.g, 0, none⟩)) := by
    rw [i2.cellAt i (by omega)]
    simp [Cw.ps, hx]
  exact rfind_ok (n := C.L.length) (cap := cap) (rg := rg) op ((obj_cell i1 3).trans (by simp [Cw.cells, hv])) hil (by omega) cg
end
section
variable {R : Rest} {W0 W w : World} {r a c t g : Nat} {ts : List (Int × Int)} {now : Int} {xs : List Ac} {sl one many wv : Value} {ws : List Int}
theorem rtick_bad (hr : ∀ w, R.inv w → RmC w r a c t) (h : Rc R W0 W c t ts now xs) (d n : Int) (h0 : 0 ≤ now) (hm : now ≤ 1099511627776) (hd : (d < 1 ∧ n = 1) ∨ (1 ≤ d ∧ 1099511627776 - now < d ∧ n = 5)) :
    Calls Tryz.prog 43 #[.pointer (some ⟨r, 0, none⟩), .int .i64 d] W fun e w' => ∃ q, e = .returned (.tuple #[.slice none 0 0, Flt q]) ∧ Chain w' (Flt q) 1 n ∧ Below W.heap.size W w' := by
  have hc := hr _ h.inv
  have c1 := hc.c1
  have HT : Hid (Calls Tryz.prog 100 #[.pointer (some ⟨c, 0, none⟩), .int .i64 d] W fun e w' => Bad2 W w' n e) := by
    obtain ⟨cv, tv, hk, _⟩ := h
    rcases hd with ⟨h1, rfl⟩ | ⟨h1, h2, rfl⟩
    · exact Lib.hid (tick_low W c cv ts now d hk h1)
    · exact Lib.hid (tick_over W c cv ts now d hk h0 (by omega) hm h2)
  clear h hr hd hc
  go_enter Tryz.func43, Tryz.ntmps43
  go_wp2_with (go_at_call 100; refine HT.out.mono ?_; rintro e w1 ⟨b, rfl, hch, hb⟩; have HC := Lib.hid hch; have HB := Lib.hid hb; clear hch hb)
  go_ret2
  exact ⟨_, rfl, HC.out, HB.out⟩
theorem renlist_bad {i0 : Nat} (hr : ∀ w, R.inv w → RmC w r a c t) (hfd : ∀ (w : World) (op : ByteArray), R.inv w → Calls Tryz.prog 69 #[.pointer (some ⟨r, 0, none⟩), .string op, .int .i64 i0] w fun e w' => e = .returned (.tuple #[.pointer (some ⟨g, 0, none⟩), .nilIface]) ∧ w = w')
    (h : Rc R W0 W c t ts now xs) (id n : Int) (hw : Wr xs id n) :
    Calls Tryz.prog 17 #[.pointer (some ⟨r, 0, none⟩), .int .i64 i0, .int .i64 id] W fun e w' => ∃ q, e = .returned (Flt q) ∧ Chain w' (Flt q) 1 n ∧ Below W.heap.size W w' := by
  have HF := Lib.hid (fun op => hfd W op h.inv)
  have HL := Lib.hid (fun op => rlive_bad hr h op id n hw)
  clear h hr hfd hw
  go_enter Tryz.func17, Tryz.ntmps17
  go_wp2_with (first
    | (go_at_call 69; refine (HF.out _).mono ?_; rintro e w1 ⟨rfl, rfl⟩)
    | (go_at_call 70; refine (HL.out _).mono ?_; rintro e w1 ⟨q, rfl, hch, hb⟩; have HC := Lib.hid hch; have HB := Lib.hid hb; clear hch hb))
  go_ret
  exact ⟨_, rfl, HC.out, HB.out⟩
theorem renlist_in {i0 : Nat} (hr : ∀ w, R.inv w → RmC w r a c t) (hfd : ∀ (w : World) (op : ByteArray), R.inv w → Calls Tryz.prog 69 #[.pointer (some ⟨r, 0, none⟩), .string op, .int .i64 i0] w fun e w' => e = .returned (.tuple #[.pointer (some ⟨g, 0, none⟩), .nilIface]) ∧ w = w')
    (h : Rc (RnR R W0.heap.size g sl one many wv ws) W0 W c t ts now xs) (i : Nat) (x : Ac) (hi : xs[i]? = some x) (hs : x.1 ≠ 2) (hin : ws.contains (i : Int) = true) (hl : ws.length ≤ 1000000) :
    Calls Tryz.prog 17 #[.pointer (some ⟨r, 0, none⟩), .int .i64 i0, .int .i64 i] W fun e w' => e = .returned .nilIface ∧ Below W.heap.size W w' := by
  have HF := Lib.hid (fun op => hfd W op h.inv.1.1)
  have HLV := Lib.hid (fun op => rlive_ok (R := RnR R W0.heap.size g sl one many wv ws) (fun w hi => hr w hi.1.1) h op i x hi hs)
  obtain ⟨p, cap, rfl, _⟩ := row_form h.inv.1.2.1
  have H := Lib.hid h
  have HL := Lib.hid hl
  have HIN := Lib.hid hin
  clear h hr hfd hi hs hin hl
  go_enter Tryz.func17, Tryz.ntmps17
  go_wp2_with (first
    | (go_at_call 69; refine (HF.out _).mono ?_; rintro e w1 ⟨rfl, rfl⟩)
    | (go_at_call 70; refine (HLV.out _).mono ?_; rintro e w1 ⟨rfl, hb⟩; have HB := Lib.hid hb; have H1 := Lib.hid (H.out.keep hb); have k3 : w1.cell? ⟨g, 3, none⟩ = some (.slice p ws.length cap) := (obj_cell (H.out.keep hb).boxIs 3).trans rfl; clear hb)
    | (go_at_call 71; refine (rcontains H1.out.inv.1.2.1 i (by have := HL.out; omega)).mono ?_; rintro e w2 ⟨rfl, rfl⟩; rw [HIN.out]))
  go_ret
  exact ⟨rfl, HB.out⟩
end
end Go.Proofs.YtdfcfdcekdmcmaaGreat
namespace Go.Proofs.YtdfcfdcekdmcmaaGreat
open Go.RowKit
set_option linter.unusedVariables false
set_option linter.unusedSimpArgs false
theorem Tim.set {ms : List (Int × Int)} {xs : List Ac} (h : Tim ms xs) {j : Nat} {z : Ac} (hz : z.1 ≠ 2) : Tim ms (xs.set j z) := by
  intro t ht
  obtain ⟨i, a, e1, e2, e3⟩ := h t ht
  by_cases e : j = i
  · subst e
    exact ⟨j, z, e1, List.getElem?_set_self (List.getElem?_eq_some_iff.1 e2).1, hz⟩
  · exact ⟨i, a, e1, by rw [List.getElem?_set_ne e]; exact e2, e3⟩
theorem Tim.halt {ms : List (Int × Int)} {xs : List Ac} (h : Tim ms xs) (j : Nat) (z : Ac) : Tim (dropD ms j) (xs.set j z) := by
  intro t ht
  obtain ⟨t1, t2⟩ := dropD_sub t ht
  obtain ⟨i, b, e1, e2, e3⟩ := h t t1
  have hij : j ≠ i := fun e => t2 (by rw [e1, e])
  exact ⟨i, b, e1, by rw [List.getElem?_set_ne hij]; exact e2, e3⟩
theorem Tim.snoc {ms : List (Int × Int)} {xs : List Ac} (h : Tim ms xs) {j : Nat} {z : Ac} (hy : xs[j]? = some z) (hz : z.1 ≠ 2) (t : Int) : Tim (ms ++ [(t, (j : Int))]) xs := by
  intro u hu
  rcases List.mem_append.1 hu with hu | hu
  · exact h u hu
  · simp at hu
    subst hu
    exact ⟨j, z, rfl, hy, hz⟩
theorem Dis.snoc {ms : List (Int × Int)} (h : Dis ms) (who t : Int) : Dis (dropD ms who ++ [(t, who)]) := by
  unfold Dis
  rw [List.map_append, List.nodup_append]
  refine ⟨h.drop who, by simp, fun x hx y hy e => ?_⟩
  simp at hy
  subst hy
  obtain ⟨u, hu, rfl⟩ := List.mem_map.1 hx
  exact (dropD_sub u hu).2 e
theorem notHis_srt (ms : List (Int × Int)) (who : Int) : notHis (srt ms) who = srt (dropD ms who) := by
  unfold notHis dropD
  rw [kept_srt]
theorem drop_lt {ms : List (Int × Int)} {xs : List Ac} (h : Dis ms) (ht : Tim ms xs) {j : Nat} (hj : j < xs.length) : (dropD ms j).length < xs.length := by
  have h1 := nodup_le xs.length ((j : Int) :: (dropD ms j).map fun t : Int × Int => t.2) (by
    refine List.nodup_cons.2 ⟨fun hm => ?_, h.drop j⟩
    obtain ⟨u, hu, e⟩ := List.mem_map.1 hm
    exact (dropD_sub u hu).2 e) fun x hx => by
      rcases List.mem_cons.1 hx with rfl | hx
      · omega
      · obtain ⟨t, h1, rfl⟩ := List.mem_map.1 hx
        obtain ⟨i, a, e1, e2, _⟩ := ht t (dropD_sub t h1).1
        have := (List.getElem?_eq_some_iff.1 e2).1
        omega
  simp at h1
  omega
section
variable {R : Rest} {W0 W w : World} {a : Nat} {cs : List Int} {st : Int} {C : Cw} {d : Dw} {q : Nat}
theorem BoN.mk {r wb : Nat} (hd : Dm (lay W0.heap.size (C.lys a) R) W0 w a cs st d) (hp : Pl a cs st C d q) (hr : C.r = r) (hw : d.wb = wb) : BoN R W0 w a q r wb := ⟨cs, st, C, d, hr, hw, mv_of_dm hd, hp⟩
theorem Bo.same (h : Bo R W0 W a cs st C d q) (hb : Below W.heap.size W w) : BoN R W0 w a (q + 1) C.r d.wb := ⟨cs, st, C, d, rfl, rfl, mv_of_cm (h.cm.keep hb), h.pl.up (by omega)⟩
theorem Bo.msl (h : Bo R W0 W a cs st C d q) : (d.ms.length : Int) ≤ 1048576 := by have := h.pl.ml; omega
theorem Bo.tsl (h : Bo R W0 W a cs st C d q) : (C.ts.length : Int) ≤ 1048576 := by
  rw [h.pl.ts, srt_length]
  exact h.msl
theorem Bo.tc (h : Bo R W0 W a cs st C d q) {j : Nat} {y : Ac} (hy : d.xs[j]? = some y) (hq : q ≤ 1000) : 0 ≤ y.2.2 ∧ y.2.2 < 4611686018427387904 := by
  have := h.pl.wb y (List.mem_of_getElem? hy)
  omega
theorem pair_wake (h : Bo R W0 W a cs st C d q) (hq : q ≤ 1000) (who : Int) :
    Calls Tryz.prog 42 #[.pointer (some ⟨C.r, 0, none⟩), .int .i64 who] W fun e w1 => ∃ (b : Bool) (E : Value), e = .returned (.tuple #[.bool b, E]) ∧ R.inv w1 ∧ Calls Tryz.prog 60 #[.pointer (some ⟨d.wb, 0, none⟩), .int .i64 who] w1 fun e w2 => ∃ n, e = .returned (.tuple #[.bool b, .int .i64 n]) ∧ ErrAt w2 E n ∧ BoN R W0 w2 a (q + 1) C.r d.wb := by
  obtain ⟨av, hrc⟩ := h.cm.rc
  rcases wr_or d.xs who with ⟨n, hne, hw⟩ | ⟨j, y, rfl, hy, hs⟩
  · refine (rwake_bad (fun w hi => oth_hr hi) hrc who n (by rw [h.pl.xs]; exact hw)).mono ?_
    rintro e w1 ⟨p, rfl, hc, hb⟩
    have hcm := h.cm.keep hb
    refine ⟨false, _, rfl, hcm.rinv, ?_⟩
    refine (dwake_bad hcm.dm h.msl who n hw hne).mono ?_
    rintro e w2 ⟨rfl, ⟨v', hd⟩, hf⟩
    rw [h.pl.tim.drop_bad hw] at hd
    exact ⟨n, rfl, (errat1 hne hc).frmG hf (not_fault hcm.dm.box (by decide)), BoN.mk hd (h.pl.tab rfl rfl h.pl.now h.pl.n0 h.pl.n1 h.pl.ts h.pl.xs h.pl.xl h.pl.tim h.pl.dis (h.pl.wb.up (by omega)) h.pl.sv) rfl rfl⟩
  · obtain ⟨t0, t1⟩ := h.tc hy hq
    refine (rwake_ok (fun w hi => oth_hr hi) hrc j y (by rw [h.pl.xs]; exact hy) hs t0 t1 h.tsl).mono ?_
    rintro e w1 ⟨rfl, hrc1⟩
    obtain ⟨cv, tv, hcm⟩ := hrc1.cm
    refine ⟨_, _, rfl, hcm.rinv, ?_⟩
    refine (dwake_ok hcm.dm h.msl hy hs t0 t1).mono ?_
    rintro e w2 ⟨rfl, v', hd⟩
    have ht := h.pl.tim.wk (j : Int)
    have hdi := h.pl.dis.wk d.xs (j : Int)
    have hwb := (wk_bound h.pl.wb (p := (d.ms, d.xs)) (j : Int)).1
    rw [(wk_yes hy hs).1] at ht hdi hwb
    exact ⟨0, rfl, ErrAt.none _, BoN.mk hd (h.pl.tab rfl rfl h.pl.now h.pl.n0 h.pl.n1 (by simp only; rw [h.pl.ts, notHis_srt]) (by simp only; rw [h.pl.xs]) (by simp only [List.length_set]; exact h.pl.xl) ht hdi (hwb.up (by omega)) (h.pl.sv.set (wakeS_sv (h.pl.sv.at hy)))) rfl rfl⟩
theorem pair_halt (h : Bo R W0 W a cs st C d q) (hq : q ≤ 1000) (who : Int) :
    Calls Tryz.prog 45 #[.pointer (some ⟨C.r, 0, none⟩), .int .i64 who] W fun e w1 => ∃ (E : Value), e = .returned E ∧ R.inv w1 ∧ Calls Tryz.prog 63 #[.pointer (some ⟨d.wb, 0, none⟩), .int .i64 who] w1 fun e w2 => ∃ n, e = .returned (.int .i64 n) ∧ ErrAt w2 E n ∧ BoN R W0 w2 a (q + 1) C.r d.wb := by
  obtain ⟨av, hrc⟩ := h.cm.rc
  rcases wr_or d.xs who with ⟨n, hne, hw⟩ | ⟨j, y, rfl, hy, hs⟩
  · refine (rhalt_bad (fun w hi => oth_hr hi) hrc who n (by rw [h.pl.xs]; exact hw)).mono ?_
    rintro e w1 ⟨p, rfl, hc, hb⟩
    have hcm := h.cm.keep hb
    refine ⟨_, rfl, hcm.rinv, ?_⟩
    refine (dhalt_bad hcm.dm who n hw hne).mono ?_
    rintro e w2 ⟨rfl, rfl⟩
    exact ⟨n, rfl, errat1 hne hc, h.same hb⟩
  · refine (rhalt_ok (fun w hi => oth_hr hi) hrc j y (by rw [h.pl.xs]; exact hy) hs h.tsl).mono ?_
    rintro e w1 ⟨rfl, hrc1⟩
    obtain ⟨cv, tv, hcm⟩ := hrc1.cm
    refine ⟨_, rfl, hcm.rinv, ?_⟩
    refine (dhalt_ok hcm.dm h.msl hy hs).mono ?_
    rintro e w2 ⟨rfl, v', hd⟩
    have hyb := h.pl.wb y (List.mem_of_getElem? hy)
    have hw2 : Wb (1000 * (q : Int)) (d.xs.set j (2, false, y.2.2)) := h.pl.wb.set hyb.1 hyb.2
    exact ⟨0, rfl, ErrAt.none _, BoN.mk hd (h.pl.tab rfl rfl h.pl.now h.pl.n0 h.pl.n1 (by simp only; rw [h.pl.ts, notHis_srt]) (by simp only [haltS]; rw [h.pl.xs]) (by simp only [List.length_set]; exact h.pl.xl) (h.pl.tim.halt j _) (h.pl.dis.drop _) (hw2.up (by omega)) (h.pl.sv.set (.inr (.inr rfl)))) rfl rfl⟩
theorem parkS_f (y : Ac) (hs : y.1 ≠ 2) : (parkS y).1 ≠ 2 ∧ (parkS y).2.2 = y.2.2 := by
  unfold parkS
  split
  · exact ⟨hs, rfl⟩
  · exact ⟨by simp, rfl⟩
theorem pair_park (h : Bo R W0 W a cs st C d q) (hq : q ≤ 1000) (who t : Int) :
    Calls Tryz.prog 22 #[.pointer (some ⟨C.r, 0, none⟩), .int .i64 who, .int .i64 t] W fun e w1 => ∃ (b : Bool) (E : Value), e = .returned (.tuple #[.bool b, E]) ∧ R.inv w1 ∧ Calls Tryz.prog 59 #[.pointer (some ⟨d.wb, 0, none⟩), .int .i64 who, .int .i64 t] w1 fun e w2 => ∃ n, e = .returned (.tuple #[.bool b, .int .i64 n]) ∧ ErrAt w2 E n ∧ BoN R W0 w2 a (q + 1) C.r d.wb := by
  obtain ⟨av, hrc⟩ := h.cm.rc
  have hR : ∀ w, (lay W0.heap.size (arL a av cs st ++ C.oth a) (lay W0.heap.size d.lys R)).inv w → RmC w C.r a C.c C.t := fun w hi => oth_hr hi
  by_cases hr : t < 0 ∨ 1099511627776 < t
  · refine (rpark_range (r := C.r) who t hr W).mono ?_
    rintro e w1 ⟨p, rfl, hc, hb⟩
    have hcm := h.cm.keep hb
    refine ⟨_, _, rfl, hcm.rinv, ?_⟩
    refine (dpark_range hcm.dm who t hr).mono ?_
    rintro e w2 ⟨rfl, rfl⟩
    exact ⟨5, rfl, errat1 (by decide) hc, h.same hb⟩
  have r0 : 0 ≤ t := by omega
  have r1 : t ≤ 1099511627776 := by omega
  rcases wr_or d.xs who with ⟨n, hne, hw⟩ | ⟨j, y, rfl, hy, hs⟩
  · refine (rpark_bad hR hrc who n t (by rw [h.pl.xs]; exact hw) r0 r1).mono ?_
    rintro e w1 ⟨p, rfl, hc, hb⟩
    have hcm := h.cm.keep hb
    refine ⟨_, _, rfl, hcm.rinv, ?_⟩
    refine (dpark_bad hcm.dm who n t hw hne r0 r1).mono ?_
    rintro e w2 ⟨rfl, rfl⟩
    exact ⟨n, rfl, errat1 hne hc, h.same hb⟩
  have hyC : C.xs[j]? = some y := by rw [h.pl.xs]; exact hy
  have hyb := h.pl.wb y (List.mem_of_getElem? hy)
  have hjl := (List.getElem?_eq_some_iff.1 hy).1
  have hxl := h.pl.xl
  obtain ⟨ps1, ps2⟩ := parkS_f y hs
  have PL : ∀ {C' : Cw} {d' : Dw}, C'.L = C.L → d'.L = d.L → C'.now = C.now → d'.now = d.now → C'.ts = C.ts → d'.ms = d.ms → C'.xs = C.xs.set j (parkS y) → d'.xs = d.xs.set j (parkS y) → Pl a cs st C' d' (q + 1) := fun hL hL2 hn hn2 ht hm hx hx2 =>
    h.pl.tab hL hL2 (by rw [hn, hn2]; exact h.pl.now) (by rw [hn2]; exact h.pl.n0) (by rw [hn2]; exact h.pl.n1) (by rw [ht, hm]; exact h.pl.ts) (by rw [hx, hx2, h.pl.xs]) (by rw [hx2, List.length_set]; exact hxl) (by rw [hm, hx2]; exact h.pl.tim.set ps1) (by rw [hm]; exact h.pl.dis) (by rw [hx2]; exact (h.pl.wb.set (by rw [ps2]; exact hyb.1) (by rw [ps2]; exact hyb.2)).up (by omega)) (by rw [hx2]; exact h.pl.sv.set (parkS_sv (h.pl.sv.at hy)))
  by_cases hz : t = 0
  · subst hz
    refine (rpark_zero hR hrc j y hyC hs).mono ?_
    rintro e w1 ⟨rfl, hrc1⟩
    obtain ⟨cv, tv, hcm⟩ := hrc1.cm
    refine ⟨_, _, rfl, hcm.rinv, ?_⟩
    refine (dpark_plain hcm.dm hy hs 0 (by omega) (by omega) (.inl rfl)).mono ?_
    rintro e w2 ⟨rfl, hd⟩
    exact ⟨0, rfl, ErrAt.none _, BoN.mk hd (PL rfl rfl rfl rfl rfl rfl rfl rfl) rfl rfl⟩
  by_cases hl : t ≤ d.now
  · refine (rpark_late hR hrc j y hyC hs t (by omega) r1 (by rw [h.pl.now]; exact hl)).mono ?_
    rintro e w1 ⟨rfl, hb⟩
    have hcm := h.cm.keep hb
    refine ⟨_, _, rfl, hcm.rinv, ?_⟩
    refine (dpark_late hcm.dm hy hs t (by omega) r1 hl).mono ?_
    rintro e w2 ⟨rfl, rfl⟩
    exact ⟨0, rfl, ErrAt.none _, h.same hb⟩
  obtain ⟨y1, y2, y3⟩ := y
  cases y2 with
  | true =>
    refine (rpark_tok hR hrc j y1 y3 hyC hs t (by omega) r1 (by rw [h.pl.now]; omega)).mono ?_
    rintro e w1 ⟨rfl, hrc1⟩
    obtain ⟨cv, tv, hcm⟩ := hrc1.cm
    refine ⟨_, _, rfl, hcm.rinv, ?_⟩
    refine (dpark_plain hcm.dm hy hs t r0 r1 (.inr ⟨by omega, rfl⟩)).mono ?_
    rintro e w2 ⟨rfl, hd⟩
    exact ⟨0, rfl, ErrAt.none _, BoN.mk hd (PL rfl rfl rfl rfl rfl rfl rfl rfl) rfl rfl⟩
  | false =>
    have hdl := drop_lt h.pl.dis h.pl.tim hjl
    have hw2 : Wb (1000 * (q : Int)) (d.xs.set j (1, false, y3)) := h.pl.wb.set hyb.1 hyb.2
    have h12 : ((1, false, y3) : Ac).1 ≠ 2 := fun e => by cases e
    have hnl : ((notHis C.ts j).length : Int) < 64 := by rw [h.pl.ts, notHis_srt, srt_length]; omega
    refine (rpark_set hR hrc j y1 y3 hyC hs t (by omega) r1 (by rw [h.pl.now]; omega) (by rw [h.pl.now]; exact h.pl.n0) (by omega) h.tsl hnl).mono ?_
    rintro e w1 ⟨rfl, hrc1⟩
    obtain ⟨cv, tv, hcm⟩ := hrc1.cm
    refine ⟨_, _, rfl, hcm.rinv, ?_⟩
    refine (dpark_set hcm.dm hy hs t (by omega) r1 (by omega) (by omega) h.msl (by omega)).mono ?_
    rintro e w2 ⟨rfl, v', hd⟩
    exact ⟨0, rfl, ErrAt.none _, BoN.mk hd (h.pl.tab rfl rfl h.pl.now h.pl.n0 h.pl.n1 (by simp only; rw [h.pl.ts, notHis_srt, srt_snoc]) (by simp only; rw [h.pl.xs]) (by simp only [List.length_set]; exact hxl) ((h.pl.tim.halt j (1, false, y3)).snoc (List.getElem?_set_self hjl) h12 t) (h.pl.dis.snoc _ _) (hw2.up (by omega)) (h.pl.sv.set (.inr (.inl rfl)))) rfl rfl⟩
end
end Go.Proofs.YtdfcfdcekdmcmaaGreat
namespace Go.Proofs.YtdfcfdcekdmcmaaGreat
open Go.RowKit
set_option linter.unusedVariables false
set_option linter.unusedSimpArgs false
theorem ins_perm (t : Int × Int) : ∀ l : List (Int × Int), (ins t l).Perm (t :: l)
  | [] => List.Perm.refl _
  | x :: l => by
    unfold ins
    split
    · exact List.Perm.refl _
    · exact ((ins_perm t l).cons x).trans (List.Perm.swap _ _ _)
theorem srt_perm (ms : List (Int × Int)) : (srt ms).Perm ms := by
  unfold srt
  suffices h : ∀ (ms l : List (Int × Int)), (ms.foldl (fun l t => ins t l) l).Perm (ms ++ l) by
    have := h ms []
    rwa [List.append_nil] at this
  intro ms
  induction ms with
  | nil => intro l; exact List.Perm.refl _
  | cons t ms ih =>
    intro l
    simp only [List.foldl_cons]
    refine (ih (ins t l)).trans ?_
    refine (List.Perm.append_left ms (ins_perm t l)).trans ?_
    exact List.perm_middle
theorem Dis.perm {ms ls : List (Int × Int)} (h : Dis ms) (p : ms.Perm ls) : Dis ls := (p.map (fun t : Int × Int => t.2)).nodup_iff.1 h
theorem Dis.inj {ms : List (Int × Int)} (h : Dis ms) {t u : Int × Int} (ht : t ∈ ms) (hu : u ∈ ms) (e : t.2 = u.2) : t = u := by
  induction ms with
  | nil => simp at ht
  | cons x ms ih =>
    unfold Dis at h
    rw [List.map_cons, List.nodup_cons] at h
    rcases List.mem_cons.1 ht with rfl | ht2
    · rcases List.mem_cons.1 hu with rfl | hu2
      · rfl
      · exact absurd (List.mem_map.2 ⟨u, hu2, e.symm⟩) h.1
    · rcases List.mem_cons.1 hu with rfl | hu2
      · exact absurd (List.mem_map.2 ⟨t, ht2, e⟩) h.1
      · exact ih h.2 ht2 hu2
theorem dropD_same {ls : List (Int × Int)} {who : Int} (h : ∀ t ∈ ls, t.2 ≠ who) : dropD ls who = ls := by
  unfold dropD
  rw [keptL_all, List.filter_eq_self]
  intro t ht
  simpa using h t ht
theorem wk_same {ls : List (Int × Int)} {who : Int} (h : dropD ls who = ls) (xs : List Ac) : (wk (ls, xs) who).1 = ls := by
  unfold wk
  simp only
  cases xs[who.toNat]? with
  | none => rfl
  | some a =>
    simp only
    split
    · exact h
    · rfl
theorem wks_same {ls : List (Int × Int)} {l : List Int} (h : ∀ who ∈ l, dropD ls who = ls) (xs : List Ac) (k : Nat) (hk : k ≤ l.length) : (wks (ls, xs) l k).1.1 = ls := by
  induction k with
  | zero => rw [wks_zero]
  | succ k ih =>
    rw [wks_next (by omega)]
    have e := ih (by omega)
    have e2 := wk_same (h (l.getD k 0) (by simp [List.getD, List.getElem?_eq_getElem (show k < l.length by omega)])) (wks (ls, xs) l k).1.2
    show (wk (wks (ls, xs) l k).1 (l.getD k 0)).1 = ls
    rw [show (wks (ls, xs) l k).1 = (ls, (wks (ls, xs) l k).1.2) from Prod.ext e rfl]
    exact e2
theorem wks_xs (ts ts' : List (Int × Int)) (xs : List Ac) (l : List Int) (k : Nat) (hk : k ≤ l.length) : (wks (ts, xs) l k).1.2 = (wks (ts', xs) l k).1.2 := by
  induction k with
  | zero => simp only [wks_zero]
  | succ k ih =>
    rw [wks_next (by omega), wks_next (by omega)]
    have e := ih (by omega)
    show (wk ((wks (ts, xs) l k).1.1, (wks (ts, xs) l k).1.2) (l.getD k 0)).2 = (wk ((wks (ts', xs) l k).1.1, (wks (ts', xs) l k).1.2) (l.getD k 0)).2
    rw [e]
    exact wk_xs _ _ _ _
structure TickD (ms ls : List (Int × Int)) (T : Int) : Prop where
  sub : ∀ t ∈ ls, t ∈ ms
  dis : Dis ls
  off : ∀ who ∈ toldD ms T, dropD ls who = ls
theorem tick_d {ms ls : List (Int × Int)} {T : Int} (h : Dis ms) (hs : srt ls = keptL (srt ms) (fun y => decide (y.1 ≤ T)) (srt ms).length) : TickD ms ls T := by
  rw [keptL_all] at hs
  have hsub : ∀ t ∈ ls, t ∈ ms ∧ ¬ t.1 ≤ T := fun t ht => by
    have h1 : t ∈ srt ls := (srt_perm ls).mem_iff.2 ht
    rw [hs, List.mem_filter] at h1
    exact ⟨(srt_perm ms).mem_iff.1 h1.1, by simpa using h1.2⟩
  refine ⟨fun t ht => (hsub t ht).1, ?_, fun who hw => dropD_same fun t ht e => ?_⟩
  · have h1 : Dis (srt ls) := by
      rw [hs]
      exact (h.perm (srt_perm ms).symm).filter _
    exact h1.perm (srt_perm ls)
  · unfold toldD at hw
    rw [whoL_all, List.mem_map] at hw
    obtain ⟨u, hu, rfl⟩ := hw
    rw [List.mem_filter] at hu
    have hum : u ∈ ms := (srt_perm ms).mem_iff.1 hu.1
    obtain ⟨h1, h2⟩ := hsub t ht
    have := h.inj h1 hum e
    subst this
    exact h2 (by simpa using hu.2)
section
variable {R : Rest} {W0 W w : World} {a : Nat} {cs : List Int} {st : Int} {C : Cw} {d : Dw} {q : Nat} {T : TypeId} {z n : Nat} {v : Value} {xs : List Value}
theorem lay_rowIn (ls : List Ly) : ((lay W0.heap.size ls R).row W0.heap.size T z v n xs).le (lay W0.heap.size ls (R.row W0.heap.size T z v n xs)) := by
  show (lay W0.heap.size (.row T z v n xs :: ls) R).le (lay W0.heap.size ls (lay W0.heap.size [.row T z v n xs] R))
  rw [← lay_app]
  exact lay_perm (List.perm_append_singleton _ _).symm
theorem pair_tick (h : Bo R W0 W a cs st C d q) (hq : q ≤ 1000) (t : Int) :
    Calls Tryz.prog 43 #[.pointer (some ⟨C.r, 0, none⟩), .int .i64 t] W fun e w1 => ∃ (r E : Value), e = .returned (.tuple #[r, E]) ∧ R.inv w1 ∧ Calls Tryz.prog 61 #[.pointer (some ⟨d.wb, 0, none⟩), .int .i64 t] w1 fun e w2 => ∃ (n : Int) (r2 : Value) (os : List Int), e = .returned (.tuple #[r2, .int .i64 n]) ∧ ErrAt w2 E n ∧ os.length ≤ 64 ∧ w2.ownsRow 0 3 1 r os.length (os.map (Value.int .i64)) ∧ w2.ownsRow 0 3 1 r2 os.length (os.map (Value.int .i64)) ∧ BoN R W0 w2 a (q + 1) C.r d.wb := by
  obtain ⟨av, hrc⟩ := h.cm.rc
  have hR : ∀ w, (lay W0.heap.size (arL a av cs st ++ C.oth a) (lay W0.heap.size d.lys R)).inv w → RmC w C.r a C.c C.t := fun w hi => oth_hr hi
  by_cases hb : t < 1 ∨ 1099511627776 - d.now < t
  · obtain ⟨n, hn0, hn⟩ : ∃ n : Int, n ≠ 0 ∧ ((t < 1 ∧ n = 1) ∨ (1 ≤ t ∧ 1099511627776 - d.now < t ∧ n = 5)) := by
      by_cases h1 : t < 1
      · exact ⟨1, by decide, .inl ⟨h1, rfl⟩⟩
      · exact ⟨5, by decide, .inr ⟨by omega, by omega, rfl⟩⟩
    refine (rtick_bad hR hrc t n (by rw [h.pl.now]; exact h.pl.n0) (by rw [h.pl.now]; exact h.pl.n1) (by rw [h.pl.now]; exact hn)).mono ?_
    rintro e w1 ⟨p, rfl, hc, hb⟩
    have hcm := h.cm.keep hb
    refine ⟨_, _, rfl, hcm.rinv, ?_⟩
    refine (dtick_bad hcm.dm t n h.pl.n0 h.pl.n1 hn).mono ?_
    rintro e w2 ⟨rfl, hb2⟩
    exact ⟨n, _, [], rfl, (errat1 hn0 hc).keep hb2, by simp, World.ownsRow_nil _ _ _ _, World.ownsRow_nil _ _ _ _, h.same (bthen hb hb2)⟩
  · have hml := h.pl.ml
    have htl : C.ts.length ≤ 64 := by rw [h.pl.ts, srt_length]; exact hml
    have hwb : Wb (1000 * (q : Int)) C.xs := by rw [h.pl.xs]; exact h.pl.wb
    refine (rtick_ok hR hrc hwb (by omega) h.tsl t (by omega) (by rw [h.pl.now]; exact h.pl.n0) (by rw [h.pl.now]; omega)).mono ?_
    rintro e w1 ⟨p, cap, rfl, hrc1⟩
    have e1 : due C.ts (C.now + t) = toldD d.ms (d.now + t) := by rw [h.pl.ts, h.pl.now]; rfl
    rw [e1] at hrc1
    have htold := toldD_le d.ms (d.now + t)
    have l1 := lay_rowIn (W0 := W0) (R := lay W0.heap.size d.lys R) (T := 3) (z := 1) (v := .slice p (toldD d.ms (d.now + t)).length cap) (n := (toldD d.ms (d.now + t)).length) (xs := (toldD d.ms (d.now + t)).map (Value.int .i64)) (arL a av cs st ++ C.oth a)
    obtain ⟨cv, tv, hcm0⟩ := (Rc.le hrc1 l1.1 (l1.2 _ hrc1.inv)).cm
    have hcm : Cm (lay W0.heap.size d.lys (R.row W0.heap.size 3 1 (.slice p (toldD d.ms (d.now + t)).length cap) (toldD d.ms (d.now + t)).length ((toldD d.ms (d.now + t)).map (Value.int .i64)))) W0 w1 a cs st _ := Mv.le hcm0 (lay_mono (lay_rowIn d.lys) _)
    rw [e1]
    refine ⟨_, _, rfl, hcm.rinv.1, ?_⟩
    refine (dtick_ok hcm.dm h.msl t h.pl.n0 (by omega) (by omega) h.pl.wb (by omega)).mono ?_
    rintro e w2 ⟨r2, ls, v', rfl, hsr, hll, hd⟩
    have htd := tick_d h.pl.dis hsr
    have hd2 := hd.rowDrop
    have hx1 := wks_bound h.pl.wb (p := ([], d.xs)) (toldD d.ms (d.now + t)) _ (Nat.le_refl _)
    have htim := Tim.wks (p := (ls, d.xs)) (fun u hu => h.pl.tim u (htd.sub u hu)) (toldD d.ms (d.now + t)) _ (Nat.le_refl _)
    rw [wks_same htd.off d.xs _ (Nat.le_refl _), wks_xs ls [] d.xs _ _ (Nat.le_refl _)] at htim
    refine ⟨0, r2, toldD d.ms (d.now + t), rfl, ErrAt.none _, by omega, row_base hd2.rinv.2.1 (Nat.zero_le _), row_base hd.rowIs (Nat.zero_le _), BoN.mk (hd2.le (lay_mono Rest.rowLe _)) (h.pl.tab rfl rfl ?_ ?_ ?_ ?_ ?_ ?_ htim htd.dis ?_ (h.pl.sv.wks [] _ _ (Nat.le_refl _))) rfl rfl⟩
    · simp only
      rw [h.pl.now]
    · have := h.pl.n0
      simp only
      omega
    · simp only
      omega
    · simp only
      have e2 : notDue C.ts (C.now + t) = srt ls := by rw [h.pl.ts, h.pl.now]; exact hsr.symm
      rw [e2, h.pl.xs, wks_srt ls d.xs _ _ (Nat.le_refl _)]
      simp only
      rw [wks_same htd.off d.xs _ (Nat.le_refl _)]
    · simp only
      rw [h.pl.xs]
      exact wks_xs _ _ _ _ _ (Nat.le_refl _)
    · simp only
      rw [hx1.2.1]
      exact h.pl.xl
    · exact hx1.1.up (by omega)
end
end Go.Proofs.YtdfcfdcekdmcmaaGreat
namespace Go.Proofs.YtdfcfdcekdmcmaaGreat
open Go.RowKit
set_option linter.unusedVariables false
set_option linter.unusedSimpArgs false
theorem Rest.nilLe {R : Rest} {B : Nat} (T : TypeId) (z : Nat) : R.le (R.row B T z (.slice none 0 0) 0 []) := ⟨fun k hk => hk.elim id fun e => by simp [Value.ownBlock] at e, fun w hw => ⟨hw, World.ownsRow_nil _ _ _ _, fun k _ e => by simp [Value.ownBlock] at e⟩⟩
section
variable {R : Rest} {W0 W w : World} {a : Nat} {cs cs' : List Int} {st st' : Int} {C : Cw} {d : Dw} {q i : Nat} {x x' : Cr} {y y' : Dr}
theorem Pl.ring (h : Pl a cs st C d q) (hx : C.L[i]? = some x) (hy : d.L[i]? = some y) {C' : Cw} {d' : Dw} (hC : C'.L = C.L.set i x') (hd : d'.L = d.L.set i y') (ha : Arn cs' (C.L.set i x')) (hcl : cs'.length = cs.length) (tw' : Tw a (q + 1) x' y') (hst0 : 0 ≤ st') (hst1 : st' ≤ 2000000 * (q + 1 : Nat))
    (hn : C'.now = d'.now) (h0 : 0 ≤ d'.now) (h1 : d'.now ≤ 1099511627776) (ht : C'.ts = srt d'.ms) (hxs : C'.xs = d'.xs) (hl : d'.xs.length ≤ 64) (ti : Tim d'.ms d'.xs) (di : Dis d'.ms) (wb' : Wb (1000 * (q + 1 : Nat)) d'.xs) (sv' : Sv d'.xs) : Pl a cs' st' C' d' (q + 1) :=
  { arn := by rw [hC]; exact ha, csl := by rw [hC, hcl, List.length_set]; exact h.csl, len := by rw [hC, hd, List.length_set, List.length_set]; exact h.len, l8 := by rw [hd, List.length_set]; exact h.l8,
    tw := by
      rw [hC, hd]
      intro k u v hu hv
      by_cases e : i = k
      · subst e
        rw [List.getElem?_set_self (List.getElem?_eq_some_iff.1 hx).1, Option.some.injEq] at hu
        rw [List.getElem?_set_self (List.getElem?_eq_some_iff.1 hy).1, Option.some.injEq] at hv
        subst hu hv
        exact tw'
      · rw [List.getElem?_set_ne e] at hu hv
        exact (h.tw k u v hu hv).up (by omega)
    now := hn, n0 := h0, n1 := h1, ts := ht, xs := hxs, xl := hl, tim := ti, dis := di, wb := wb', sv := sv', st0 := hst0, st1 := hst1 }
theorem Pl.ring1 (h : Pl a cs st C d q) (hx : C.L[i]? = some x) (hy : d.L[i]? = some y) {C' : Cw} {d' : Dw} (hC : C'.L = C.L.set i x') (hd : d'.L = d.L.set i y') (ha : Arn cs' (C.L.set i x')) (hcl : cs'.length = cs.length) (tw' : Tw a (q + 1) x' y') (hst0 : 0 ≤ st') (hst1 : st' ≤ 2000000 * (q + 1 : Nat))
    (e1 : C'.now = C.now) (e2 : d'.now = d.now) (e3 : C'.ts = C.ts) (e4 : d'.ms = d.ms) (e5 : C'.xs = C.xs) (e6 : d'.xs = d.xs) : Pl a cs' st' C' d' (q + 1) :=
  h.ring hx hy hC hd ha hcl tw' hst0 hst1 (by rw [e1, e2]; exact h.now) (by rw [e2]; exact h.n0) (by rw [e2]; exact h.n1) (by rw [e3, e4]; exact h.ts) (by rw [e5, e6]; exact h.xs) (by rw [e6]; exact h.xl) (by rw [e4, e6]; exact h.tim) (by rw [e4]; exact h.dis) (by rw [e6]; exact h.wb.up (by omega)) (by rw [e6]; exact h.sv)
theorem Tw.wait (h : Tw a q x y) (ws : List Int) (wv wv' : Value) (hl : ws.length ≤ q + 1) (hn : ws.Nodup) : Tw a (q + 1) { x with ws := ws, wv := wv } { y with ws := ws, wv := wv' } :=
  { h.up (Nat.le_succ q) with ws := rfl, wl := hl, wn := hn }
theorem pair_actors (h : Bo R W0 W a cs st C d q) : Calls Tryz.prog 14 #[.pointer (some ⟨C.r, 0, none⟩)] W fun e w' => e = .returned (.pointer (some ⟨C.t, 0, none⟩)) ∧ W = w' := ractors h.cm.rm
theorem pair_add (h : Bo R W0 W a cs st C d q) (hq : q ≤ 1000) :
    Calls Tryz.prog 52 #[.pointer (some ⟨C.t, 0, none⟩)] W fun e w1 => ∃ (z : Int) (E : Value), e = .returned (.tuple #[.int .i64 z, E]) ∧ R.inv w1 ∧ w1.cell? ⟨d.wb, 2, none⟩ = some (.pointer (some ⟨d.tb, 0, none⟩)) ∧ Calls Tryz.prog 56 #[.pointer (some ⟨d.tb, 0, none⟩)] w1 fun e w2 => ∃ n, e = .returned (.int .i64 n) ∧ ErrAt w2 E n ∧ BoN R W0 w2 a (q + 1) C.r d.wb := by
  obtain ⟨av, hrc⟩ := h.cm.rc
  by_cases hl : (d.xs.length : Int) < 64
  · refine (tadd_c hrc (by rw [h.pl.xs]; exact hl)).mono ?_
    rintro e w1 ⟨rfl, hrc1⟩
    obtain ⟨cv, tv, hcm⟩ := hrc1.cm
    refine ⟨_, _, rfl, hcm.rinv, (obj_cell hcm.dm.box 2).trans rfl, ?_⟩
    refine (dadd_some hcm.dm hl).mono ?_
    rintro e w2 ⟨rfl, v1, v2, v3, hd⟩
    refine ⟨0, rfl, ErrAt.none _, BoN.mk hd (h.pl.tab rfl rfl h.pl.now h.pl.n0 h.pl.n1 h.pl.ts ?_ ?_ ?_ h.pl.dis ?_ ?_) rfl rfl⟩
    · simp only
      rw [h.pl.xs]
    · simp only [List.length_append, List.length_singleton]
      omega
    · intro t ht
      obtain ⟨j, b, e1, e2, e3⟩ := h.pl.tim t ht
      exact ⟨j, b, e1, by simp only; rw [List.getElem?_append_left (List.getElem?_eq_some_iff.1 e2).1]; exact e2, e3⟩
    · intro b hb
      simp only at hb
      rcases List.mem_append.1 hb with hb | hb
      · have := h.pl.wb b hb
        omega
      · simp at hb
        subst hb
        simp only
        omega
    · intro b hb
      simp only at hb
      rcases List.mem_append.1 hb with hb | hb
      · exact h.pl.sv b hb
      · simp at hb
        subst hb
        exact .inl rfl
  · refine (tadd_full_c hrc (by rw [h.pl.xs]; omega)).mono ?_
    rintro e w1 ⟨p, rfl, hc, hb⟩
    have hcm := h.cm.keep hb
    refine ⟨_, _, rfl, hcm.rinv, (obj_cell hcm.dm.box 2).trans rfl, ?_⟩
    refine (dadd_many hcm.dm (by omega)).mono ?_
    rintro e w2 ⟨rfl, rfl⟩
    exact ⟨8, rfl, errat1 (by decide) hc, h.same hb⟩
theorem pair_signal (h : Bo R W0 W a cs st C d q) (hq : q ≤ 1000) (z : Int) :
    Calls Tryz.prog 20 #[.pointer (some ⟨C.r, 0, none⟩), .int .i64 z] W fun e w1 => ∃ (m : Int) (E : Value), e = .returned (.tuple #[.int .i64 m, E]) ∧ R.inv w1 ∧ Calls Tryz.prog 58 #[.pointer (some ⟨d.wb, 0, none⟩), .int .i64 z] w1 fun e w2 => ∃ n, e = .returned (.tuple #[.int .i64 m, .int .i64 n]) ∧ ErrAt w2 E n ∧ BoN R W0 w2 a (q + 1) C.r d.wb := by
  by_cases hz : z < 0 ∨ (d.L.length : Int) ≤ z
  · obtain ⟨p, cap, _, c3⟩ := h.cm.c3
    refine (rsignal_out c3 (by rw [h.pl.len]; exact h.pl.l8) z (by rw [h.pl.len]; exact hz)).mono ?_
    rintro e w1 ⟨p, rfl, hc, hb⟩
    have hcm := h.cm.keep hb
    refine ⟨_, _, rfl, hcm.rinv, ?_⟩
    refine (dsignal_none hcm.dm z hz h.pl.l8).mono ?_
    rintro e w2 ⟨rfl, rfl⟩
    exact ⟨3, rfl, errat1 (by decide) hc, h.same hb⟩
  · obtain ⟨i, rfl⟩ : ∃ i : Nat, z = i := ⟨z.toNat, by omega⟩
    obtain ⟨x, y, hx, hy, tw⟩ := h.pl.at (i := i) (by omega)
    obtain ⟨av, hrc⟩ := h.cm.rcTop hx
    have hwb : Wb (1000 * (q : Int)) C.xs := by rw [h.pl.xs]; exact h.pl.wb
    have hwl := tw.wl
    have hwe := tw.ws
    have hl8 : C.L.length ≤ 8 := by rw [h.pl.len]; exact h.pl.l8
    refine (rsignal_ok (fun w hi => Z_hr hi) (fun w op hi => Z_find hx hl8 op hi) hrc hwb (by rw [hwe]; omega) h.tsl (by rw [hwe]; omega)).mono ?_
    rintro e w1 ⟨rfl, hrc1⟩
    have l1 := (Rest.nilLe (R := lay W0.heap.size (arL a av cs st ++ C.Z a i x) (lay W0.heap.size d.lys R)) (B := W0.heap.size) 3 1).box (B := W0.heap.size) (p := x.g) (cs := #[.pointer (some ⟨x.sb, 0, none⟩), x.one, x.mny, .slice none 0 0]) (U := 149)
    obtain ⟨cv, tv, hcm⟩ := Rc.cmTop (ws' := []) hx (Rc.le hrc1 l1.1 (l1.2 _ hrc1.inv))
    refine ⟨_, _, rfl, hcm.rinv, ?_⟩
    refine (dsignal_ok hcm.dm hy h.pl.l8 h.pl.tim h.pl.wb (by omega) h.msl (by omega)).mono ?_
    rintro e w2 ⟨rfl, v, hd⟩
    have e0 := wks_srt d.ms d.xs y.ws y.ws.length (Nat.le_refl _)
    rw [h.pl.ts, h.pl.xs, hwe, e0]
    have hx1 := wks_bound h.pl.wb (p := (d.ms, d.xs)) y.ws _ (Nat.le_refl _)
    refine ⟨0, rfl, ErrAt.none _, BoN.mk hd (h.pl.ring hx hy rfl rfl (h.pl.arn.same hx rfl rfl) rfl (tw.wait [] _ _ (by simp) (by simp)) h.pl.st0 (by have := h.pl.st1; omega) h.pl.now h.pl.n0 h.pl.n1 (by simp only; rw [h.pl.ts, h.pl.xs, hwe, e0]) (by simp only; rw [h.pl.ts, h.pl.xs, hwe, e0]) (by simp only; rw [hx1.2.1]; exact h.pl.xl) (Tim.wks (p := (d.ms, d.xs)) h.pl.tim _ _ (Nat.le_refl _)) (h.pl.dis.wks d.xs _ _ (Nat.le_refl _)) (hx1.1.up (by omega)) (h.pl.sv.wks d.ms _ _ (Nat.le_refl _))) rfl rfl⟩
theorem pair_enlist (h : Bo R W0 W a cs st C d q) (hq : q ≤ 1000) (z who : Int) :
    Calls Tryz.prog 17 #[.pointer (some ⟨C.r, 0, none⟩), .int .i64 z, .int .i64 who] W fun e w1 => ∃ (E : Value), e = .returned E ∧ R.inv w1 ∧ Calls Tryz.prog 57 #[.pointer (some ⟨d.wb, 0, none⟩), .int .i64 z, .int .i64 who] w1 fun e w2 => ∃ n, e = .returned (.int .i64 n) ∧ ErrAt w2 E n ∧ BoN R W0 w2 a (q + 1) C.r d.wb := by
  by_cases hz : z < 0 ∨ (d.L.length : Int) ≤ z
  · obtain ⟨p, cap, _, c3⟩ := h.cm.c3
    refine (renlist_out c3 (by rw [h.pl.len]; exact h.pl.l8) z who (by rw [h.pl.len]; exact hz)).mono ?_
    rintro e w1 ⟨p, rfl, hc, hb⟩
    have hcm := h.cm.keep hb
    refine ⟨_, rfl, hcm.rinv, ?_⟩
    refine (denlist_none hcm.dm z who hz h.pl.l8).mono ?_
    rintro e w2 ⟨rfl, rfl⟩
    exact ⟨3, rfl, errat1 (by decide) hc, h.same hb⟩
  obtain ⟨i, rfl⟩ : ∃ i : Nat, z = i := ⟨z.toNat, by omega⟩
  obtain ⟨x, y, hx, hy, tw⟩ := h.pl.at (i := i) (by omega)
  obtain ⟨av, hrc⟩ := h.cm.rcTop hx
  have hwl := tw.wl
  have hwe := tw.ws
  have hl8 : C.L.length ≤ 8 := by rw [h.pl.len]; exact h.pl.l8
  rcases wr_or d.xs who with ⟨n, hne, hw⟩ | ⟨j, u, rfl, hu, hs⟩
  · have hrc2 : Rc (lay W0.heap.size (arL a av cs st ++ C.Z a i x) (lay W0.heap.size d.lys R)) W0 W C.c C.t C.ts C.now C.xs := Rc.le hrc (fun k hk => .inl (.inl hk)) hrc.inv.1.1
    refine (renlist_bad (fun w hi => Z_hr hi) (fun w op hi => Z_find hx hl8 op hi) hrc2 who n (by rw [h.pl.xs]; exact hw)).mono ?_
    rintro e w1 ⟨p, rfl, hc, hb⟩
    have hcm := h.cm.keep hb
    refine ⟨_, rfl, hcm.rinv, ?_⟩
    refine (denlist_bad hcm.dm (by omega) h.pl.l8 who n hw hne).mono ?_
    rintro e w2 ⟨rfl, rfl⟩
    exact ⟨n, rfl, errat1 hne hc, h.same hb⟩
  have huC : C.xs[j]? = some u := by rw [h.pl.xs]; exact hu
  by_cases hin : y.ws.contains (j : Int) = true
  · refine (renlist_in (fun w hi => Z_hr hi) (fun w op hi => Z_find hx hl8 op hi) hrc j u huC hs (by rw [hwe]; exact hin) (by rw [hwe]; omega)).mono ?_
    rintro e w1 ⟨rfl, hb⟩
    have hcm := h.cm.keep hb
    refine ⟨_, rfl, hcm.rinv, ?_⟩
    refine (denlist_ok hcm.dm hy h.pl.l8 hu hs (by omega)).mono ?_
    rintro e w2 ⟨rfl, v, hd⟩
    have e1 : enlD y.ws j = y.ws := by unfold enlD; rw [if_pos hin]
    rw [e1] at hd
    refine ⟨0, rfl, ErrAt.none _, BoN.mk hd (h.pl.ring1 (x' := x) (y' := { y with ws := y.ws, wv := v }) hx hy (set_same hx).symm rfl (by rw [set_same hx]; exact h.pl.arn) rfl { tw.up (Nat.le_succ q) with ws := hwe, wl := by simp only; omega, wn := tw.wn } h.pl.st0 (by have := h.pl.st1; omega) rfl rfl rfl rfl rfl rfl) rfl rfl⟩
  · have hin2 : y.ws.contains (j : Int) = false := by simpa using hin
    refine (renlist_new (fun w hi => Z_hr hi) (fun w op hi => Z_find hx hl8 op hi) hrc j u huC hs (by rw [hwe]; exact hin2) (by rw [hwe]; omega)).mono ?_
    rintro e w1 ⟨rfl, wv', hrc1⟩
    obtain ⟨cv, tv, hcm⟩ := Rc.cmTop hx hrc1
    refine ⟨_, rfl, hcm.rinv, ?_⟩
    refine (denlist_ok hcm.dm hy h.pl.l8 hu hs (by omega)).mono ?_
    rintro e w2 ⟨rfl, v, hd⟩
    have e1 : enlD y.ws j = y.ws ++ [(j : Int)] := by unfold enlD; rw [if_neg hin]
    rw [e1] at hd
    have t1 := tw.wait (y.ws ++ [(j : Int)]) wv' v (by simp; omega) (by rw [List.nodup_append]; refine ⟨tw.wn, by simp, fun u hu v hv e => ?_⟩; simp at hv; subst hv; subst e; exact hin (by simpa using hu))
    rw [hwe] at hd
    refine ⟨0, rfl, ErrAt.none _, BoN.mk hd (h.pl.ring1 hx hy rfl rfl (h.pl.arn.same hx rfl rfl) rfl t1 h.pl.st0 (by have := h.pl.st1; omega) rfl rfl rfl rfl rfl rfl) rfl rfl⟩
end
end Go.Proofs.YtdfcfdcekdmcmaaGreat
