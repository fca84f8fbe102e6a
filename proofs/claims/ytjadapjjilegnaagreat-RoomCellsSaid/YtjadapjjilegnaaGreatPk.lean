/-
  RoomCells: what a new room's first ring does, whatever its kind. No condition: a structure of facts.
  RoomCells: a new room's first ring, from which one claims, does what the law asks of it. Conditions: the room is new.
  RoomCells: a new room's first ring, from which many claim, does what the law asks of it. Conditions: the room is new.
-/
import Derived.Test.YtjadapjjilegnaaGreatKt
namespace Go.Proofs.YtjadapjjilegnaaGreat
open Go.RowKit
set_option linter.unusedVariables false

/-- The buffer that a ring shows. -/
def pvOf (z : Bool) (b : Nat) : Value := if z then .pointer (some ⟨b, 0, none⟩) else .pointer none
structure Pk (W0 : World) (r a k : Nat) (z : Bool) (Rb : Rest) (id cur bq sb : Nat) (gp : Addr) (P0 P1 P2 : World → Prop) (S : Int → Int → Int → Rest → World → Prop) (T : Int → Int → Nat → Array Value → Rest → World → Prop) (V : Rest → World → Prop) (F : Int → Int → Rest → World → Prop) : Prop where
  k0 : ∀ w w', P0 w → Below w.heap.size w w' → P0 w'
  k1 : ∀ w w', P1 w → Below w.heap.size w w' → P1 w'
  k2 : ∀ w w', P2 w → Below w.heap.size w w' → P2 w'
  many : ∀ w, P0 w → Calls Tryz.prog 31 #[.pointer (some ⟨r, 0, none⟩), .int .i64 (0 : Nat)] w fun e w' => e = .returned (.bool z) ∧ Below w.heap.size w w'
  shown : ∀ w, P0 w → Calls Tryz.prog 32 #[.pointer (some ⟨r, 0, none⟩), .int .i64 (0 : Nat)] w fun e w' => e = .returned (pvOf z bq) ∧ Below w.heap.size w w'
  ar0 : ∀ w, P0 w → Calls Tryz.prog 33 #[.pointer (some ⟨r, 0, none⟩)] w fun e w' => e = .returned (.pointer (some ⟨a, 0, none⟩)) ∧ w = w'
  ar1 : ∀ w, P1 w → Calls Tryz.prog 33 #[.pointer (some ⟨r, 0, none⟩)] w fun e w' => e = .returned (.pointer (some ⟨a, 0, none⟩)) ∧ w = w'
  alloc : ∀ w, P0 w → Calls Tryz.prog 34 #[.pointer (some ⟨a, 0, none⟩), .int .i64 (-1)] w fun e w' => e = .returned (.tuple #[.int .i64 id, .nilIface]) ∧ P1 w'
  cursor : ∀ w, P1 w → Calls Tryz.prog 36 #[.pointer (some ⟨r, 0, none⟩), .int .i64 (0 : Nat)] w fun e w' => e = .returned (.int .i64 cur) ∧ Below w.heap.size w w'
  load : ∀ w, P1 w → Calls Tryz.prog 35 #[.pointer (some ⟨a, 0, none⟩), .int .i64 cur] w fun e w' => e = .returned (.tuple #[.int .i64 (-1), .nilIface]) ∧ P2 w'
  gate : ∀ w, P2 w → Calls Tryz.prog 37 #[.pointer (some ⟨r, 0, none⟩), .int .i64 (0 : Nat)] w fun e w' => e = .returned (.pointer (some gp)) ∧ Below w.heap.size w w'
  add : ∀ w, P2 w → Calls Tryz.prog 38 #[.pointer (some gp), .int .i64 id] w fun e w' => e = .returned .nilIface ∧ S 0 0 0 Rb w'
  kit : Kit W0 r 0 (two k) (okO (two k) (some id)) S T
  vb : Bx W0 V
  sv : ∀ b lo hi R w, S b lo hi R w → V R w
  tv : ∀ lo n j u R w, T lo n j u R w → V R w
  slots : ∀ (R : Rest) w, V R w → Calls Tryz.prog 39 #[.pointer (some ⟨r, 0, none⟩), .int .i64 (0 : Nat)] w fun e w' => e = .returned (.pointer (some ⟨sb, 0, none⟩)) ∧ Below w.heap.size w w'
  put : ∀ (R : Rest) w x y, V R w → Calls Tryz.prog 40 #[.pointer (some ⟨sb, 0, none⟩), .int .i64 0, .agg #[.int .i64 x, .int .i64 y]] w fun e w' => e = .returned .nilIface ∧ F x y R w'
  slots2 : ∀ (R : Rest) x y w, F x y R w → Calls Tryz.prog 39 #[.pointer (some ⟨r, 0, none⟩), .int .i64 (0 : Nat)] w fun e w' => e = .returned (.pointer (some ⟨sb, 0, none⟩)) ∧ Below w.heap.size w w'
  get : ∀ (R : Rest) x y w, F x y R w → Calls Tryz.prog 41 #[.pointer (some ⟨sb, 0, none⟩), .int .i64 (two k)] w fun e w' => e = .returned (.tuple #[.agg #[.int .i64 x, .int .i64 y], .nilIface]) ∧ Below w.heap.size w w'
  kf : ∀ (R : Rest) x y w w', F x y R w → Below w.heap.size w w' → F x y R w'
  lf : ∀ (R : Rest) x y w, F x y R w → Below W0.heap.size W0 w
  vf : ∀ (R : Rest) x y w, F x y R w → R.inv w
/-- A room has its first ring. -/
def Pkd (W0 : World) (r k : Nat) (z : Bool) (w : World) : Prop := ∃ (a : Nat) (Rb : Rest) (id cur bq sb : Nat) (gp : Addr) (P0 P1 P2 : World → Prop) (S : Int → Int → Int → Rest → World → Prop) (T : Int → Int → Nat → Array Value → Rest → World → Prop) (V : Rest → World → Prop) (F : Int → Int → Rest → World → Prop), P0 w ∧ Pk W0 r a k z Rb id cur bq sb gp P0 P1 P2 S T V F

theorem one4 {x y z u : Value} (h1 : x.oneCell' = true) (h2 : y.oneCell' = true) (h3 : z.oneCell' = true) (h4 : u.oneCell' = true) : (#[x, y, z, u] : Array Value).all (·.oneCell') = true := by simp [h1, h2, h3, h4]
/-! What stands beside, as a room keeps it -/
section
variable {W0 w w' : World} {R : Rest} {r g a c t sb rg rc k : Nat} {rv : Value} {L : List Ev}
def fR (W0 : World) (r g a c t sb rg rc k : Nat) (rv : Value) (G : Array Value) (L : List Ev) (R : Rest) : Rest := (R.rm W0.heap.size r g a c t rv G).slots W0.heap.size sb rg rc k L
theorem fR_bx {P : Rest → World → Prop} (hB : Bm W0 P) (G : Array Value) : Bx W0 fun R w => P (fR W0 r g a c t sb rg rc k rv G L R) w :=
  (bm_box (bm_row (bm_box (bm_box (bm_row hB _ _ _ _ _) _ _ _) _ _ _) _ _ _ _ _) _ _ _).toBx
theorem fR_pr {G : Array Value} {q : Nat} (h : R.prot q) : (fR W0 r g a c t sb rg rc k rv G L R).prot q := .inl (.inl (.inl (.inl (.inl h))))
theorem fR_rm {G : Array Value} (h : (fR W0 r g a c t sb rg rc k rv G L R).inv w) : (R.rm W0.heap.size r g a c t rv G).inv w := h.1.1
theorem fR_rmc {G : Array Value} (h : (fR W0 r g a c t sb rg rc k rv G L R).inv w) : RmC w r a c t := RmC.of (fR_rm h).2.1
theorem fR_at {sl o m u : Value} (h : (fR W0 r g a c t sb rg rc k rv #[sl, o, m, u] L R).inv w) (h1 : (#[sl, o, m, u] : Array Value).all (·.oneCell') = true) : ∃ n cap q, RgAt w r 0 g n cap q sl o m u := by
  obtain ⟨q, cap, _, hr⟩ := rm_at (fR_rm h) h1
  exact ⟨1, cap, q, hr⟩
/-- Behind Put. -/
def FnS (W0 : World) (r g a c t sb rg rc k : Nat) (rv : Value) (G : Array Value) (L : List Ev) (x y : Int) (R : Rest) (w : World) : Prop :=
  Fn R W0 w r g a c t sb rg rc k rv G (L.set 0 (x, y)) ∧ ∀ q, (R.rm W0.heap.size r g a c t rv G).prot q → q < w.heap.size
theorem FnS.keep {G : Array Value} {x y : Int} (h : FnS W0 r g a c t sb rg rc k rv G L x y R w) (hb : Below w.heap.size w w') : FnS W0 r g a c t sb rg rc k rv G L x y R w' :=
  ⟨h.1.keep h.2 hb, fun q hq => Nat.lt_of_lt_of_le (h.2 q hq) hb.size⟩
theorem FnS.inv {G : Array Value} {x y : Int} (h : FnS W0 r g a c t sb rg rc k rv G L x y R w) : R.inv w := h.1.rm.1.1.1
theorem fnS_put {G : Array Value} (h : (fR W0 r g a c t sb rg rc k rv G L R).inv w) (hk : k ≤ 20) (hl : (L.length : Int) = two k) (hbl : Below W0.heap.size W0 w) (hp : ∀ q, (fR W0 r g a c t sb rg rc k rv G L R).prot q → q < w.heap.size) (x y : Int) :
    Calls Tryz.prog 40 #[.pointer (some ⟨sb, 0, none⟩), .int .i64 0, .agg #[.int .i64 x, .int .i64 y]] w fun e w' => e = .returned .nilIface ∧ FnS W0 r g a c t sb rg rc k rv G L x y R w' :=
  fn_put h hk hl hbl (fun q hq => hp q (.inl (.inl hq))) x y
theorem fnS_slots {sl o m u : Value} {x y : Int} (h : FnS W0 r g a c t sb rg rc k rv #[sl, o, m, u] L x y R w) (h1 : (#[sl, o, m, u] : Array Value).all (·.oneCell') = true) :
    Calls Tryz.prog 39 #[.pointer (some ⟨r, 0, none⟩), .int .i64 (0 : Nat)] w fun e w' => e = .returned sl ∧ Below w.heap.size w w' := by
  obtain ⟨q, cap, _, hr⟩ := rm_at h.1.rm h1
  exact rslots_ok hr
end
end Go.Proofs.YtjadapjjilegnaaGreat
namespace Go.Proofs.YtjadapjjilegnaaGreat
open Go.RowKit
set_option linter.unusedVariables false

section
variable {W0 : World} {Rb : Rest} {r g a c t k n : Nat} {rv : Value} {L : List Ev} {i : Ri} {st : Int}
/-- Behind New, behind Alloc, behind Load. -/
def P1a (W0 : World) (Rb : Rest) (r g a c t k : Nat) (rv : Value) (L : List Ev) (i : Ri) (xs : List Int) (st : Int) (w : World) : Prop :=
  Sg (fR W0 r g a c t i.sb i.rg i.rc k rv (gOne i) L Rb) W0 w i.p a k 0 [] (-1) (-1) (-1) 0 xs st
theorem og_h (hk : k ≤ 20) : OgH W0 (fR W0 r g a c t i.sb i.rg i.rc k rv (gOne i) L) (fun _ => True) i.p a k 0 r 0 g (.pointer (some ⟨i.sb, 0, none⟩)) (.slice none 0 0) :=
  ⟨fun ids cl pub sn sc X st => fR_bx (sg_bm W0 i.p a k 0 ids cl pub sn sc X st) (gOne i), fun R w h => fR_at h (one4 rfl rfl rfl rfl), fun _ _ _ => trivial, fun R q h => fR_pr h, hk⟩
theorem pk_one (hk : k ≤ 20) (hl : (L.length : Int) = two k) : Pk W0 r a k false Rb 1 0 0 i.sb ⟨i.p, 3, none⟩ (P1a W0 Rb r g a c t k rv L i [-1] 0) (P1a W0 Rb r g a c t k rv L i [-1, -1] 0) (P1a W0 Rb r g a c t k rv L i [-1, -1] 1)
    (OgS W0 (fR W0 r g a c t i.sb i.rg i.rc k rv (gOne i) L) (fun _ => True) (some 1) i.p a k 0) (OgT W0 (fR W0 r g a c t i.sb i.rg i.rc k rv (gOne i) L) (fun _ => True) (some 1) i.p a k 0) (fun R w => ∃ (ids : List Int) (cl pub sn sc : Int) (X : List Int) (st : Int), Sg (fR W0 r g a c t i.sb i.rg i.rc k rv (gOne i) L R) W0 w i.p a k 0 ids cl pub sn sc X st) (FnS W0 r g a c t i.sb i.rg i.rc k rv (gOne i) L) where
  k0 w w' h hb := Sg.keep h hb
  k1 w w' h hb := Sg.keep h hb
  k2 w w' h hb := Sg.keep h hb
  many w h := by
    obtain ⟨n, cap, q, hr⟩ := fR_at (Sg.inv h) (one4 rfl rfl rfl rfl)
    exact rmany_no hr
  shown w h := by
    obtain ⟨n, cap, q, hr⟩ := fR_at (Sg.inv h) (one4 rfl rfl rfl rfl)
    exact rshown_one hr
  ar0 w h := rarena 0 (fR_rmc (Sg.inv h))
  ar1 w h := rarena 0 (fR_rmc (Sg.inv h))
  alloc w h := alloc_g h (-1) (by decide)
  cursor w h := by
    obtain ⟨n, cap, q, hr⟩ := fR_at (Sg.inv h) (one4 rfl rfl rfl rfl)
    exact rcursor_one hr (Sg.c h)
  load w h := load_g h 0 (-1) rfl (by decide) (by decide)
  gate w h := by
    obtain ⟨n, cap, q, hr⟩ := fR_at (Sg.inv h) (one4 rfl rfl rfl rfl)
    exact rgate_one hr
  add w h := (gadd_g h 1 (by decide) (by decide) (by simp) (by simp)).mono fun e w' ⟨he, hg⟩ => ⟨he, [-1, -1], -1, 0, 1, ⟨by decide, by decide, by decide, by decide, by decide, by decide, by decide, rfl, trivial, fun d hd => by cases hd; exact ⟨rfl, by decide, rfl⟩, by decide⟩, hg⟩
  kit := og_kit (og_h hk)
  vb := bx_ex fun ids => bx_ex fun cl => bx_ex fun pub => bx_ex fun sn => bx_ex fun sc => bx_ex fun X => bx_ex fun st => (og_h (c := c) (t := t) (rv := rv) (L := L) (r := r) (g := g) hk).bm ids cl pub sn sc X st
  sv b lo hi R w h := by
    obtain ⟨X, sn, sc, st, _, hp⟩ := h
    exact ⟨_, _, _, _, _, _, _, hp⟩
  tv lo n j v R w h := by
    obtain ⟨u1, X, cl, sn, sc, st, _, hp⟩ := h
    exact ⟨_, _, _, _, _, _, _, hp⟩
  slots R w h := by
    obtain ⟨ids, cl, pub, sn, sc, X, st, hp⟩ := h
    obtain ⟨n, cap, q, hr⟩ := fR_at (Sg.inv hp) (one4 rfl rfl rfl rfl)
    exact rslots_ok hr
  put R w x y h := by
    obtain ⟨ids, cl, pub, sn, sc, X, st, hp⟩ := h
    exact fnS_put (Sg.inv hp) hk hl (Sg.below hp) (fun q hq => Sg.prot_lt hp hq) x y
  slots2 R x y w h := fnS_slots h (one4 rfl rfl rfl rfl)
  get R x y w h := fn_get h.1
  kf R x y w w' h hb := h.keep hb
  lf R x y w h := h.1.bl
  vf R x y w h := h.inv
theorem ring_pk1 {w : World} (h : RmNew W0 w r a c t) (hk : k ≤ 20) (hn : (n : Int) = two k) :
    Calls Tryz.prog 23 #[.pointer (some ⟨r, 0, none⟩), .int .i64 (two k), .int .i64 0] w fun e w' => e = .returned (.tuple #[.int .i64 0, .nilIface]) ∧ Pkd W0 r k false w' := by
  refine (rring_any gOne (Pd := fun R w => Mv R W0 w a [] 0) (Pe := PeOne W0 a k 0 [] (-1) (-1) (-1) 0 [-1] 0 (List.replicate n (0, 0))) 0 (.inl rfl) hk (mv_bx W0 a [] 0) (fun i => (peOne_bm W0 a k 0 [] (-1) (-1) (-1) 0 [-1] 0 (List.replicate n (0, 0)) i).toBx) (fun i => (peOne_bm W0 a k 0 [] (-1) (-1) (-1) 0 [-1] 0 (List.replicate n (0, 0)) i).more) h.mv (fun R w hm => lay_one hm hk hn (by decide))).mono ?_
  rintro e w' ⟨rfl, i, g, rv, hp⟩
  exact ⟨rfl, a, _, 1, 0, 0, i.sb, _, _, _, _, _, _, _, _, hp, pk_one (g := g) (c := c) (t := t) (rv := rv) (i := i) (L := List.replicate n (0, 0)) hk (by simp; exact hn)⟩
end
end Go.Proofs.YtjadapjjilegnaaGreat
namespace Go.Proofs.YtjadapjjilegnaaGreat
open Go.RowKit
set_option linter.unusedVariables false

section
variable {W0 : World} {Rb : Rest} {r g a c t k n : Nat} {rv : Value} {L : List Ev} {i : Rj}
/-- Behind New, behind Alloc, behind Load. -/
def P2a (W0 : World) (Rb : Rest) (r g a c t k : Nat) (rv : Value) (L : List Ev) (i : Rj) (xs : List Int) (st : Int) (w : World) : Prop :=
  Ms (fR W0 r g a c t i.sb i.rg i.rc k rv (gMany i) L Rb) W0 w i.s [] (-1) xs st
theorem ms_bm (W0 : World) (s : Sh) (ids : List Int) (sw : Int) (xs : List Int) (st : Int) : Bm W0 fun R w => Ms R W0 w s ids sw xs st :=
  ⟨ms_bx W0 s ids sw xs st, fun R w w' T z v n ys h hb ho => h.rowTo hb ho⟩
theorem mg_a (hn : (n : Int) = two i.s.k) (h1 : i.s.cur = 0) (h2 : i.s.cch = 1) (h3 : i.s.f = 2) : MgA (fun _ => True) (some (n + 2)) i.s :=
  ⟨by omega, by omega, by omega, fun d hd => by cases hd; exact ⟨by omega, by omega, fun j hj => by omega⟩, fun _ _ _ => trivial, fun _ _ _ => trivial, fun _ _ _ _ _ => trivial⟩
theorem mg_h (hk : i.s.k ≤ 20) (hA : MgA (fun _ => True) (some (n + 2)) i.s) : MgH W0 (fR W0 r g a c t i.sb i.rg i.rc k rv (gMany i) L) (fun _ => True) (some (n + 2)) i.s r 0 g (.pointer (some ⟨i.sb, 0, none⟩)) (.pointer none) (.slice none 0 0) :=
  ⟨fun ids sw X st => fR_bx (ms_bm W0 i.s ids sw X st) (gMany i), fun R w h => fR_at h (one4 rfl rfl rfl rfl), fun R q h => fR_pr h, hk, hA⟩
theorem mg_j (hn : (n : Int) = two i.s.k) (hk : i.s.k ≤ 20) (h1 : i.s.cur = 0) (h2 : i.s.cch = 1) (h3 : i.s.f = 2) : MgJ (fun _ => True) (some (n + 2)) i.s 0 0 (0 - 1) (mk (-1) (-1) (List.replicate n (-1)) [] ++ [-1]) (-1) (-1) := by
  have t1 := two_le hk
  have hlen : (mk (-1) (-1) (List.replicate n (-1)) [] ++ [-1]).length = n + 3 := by simp [mk]
  have hd : (mk (-1) (-1) (List.replicate n (-1)) [] ++ [-1])[n + 2]? = some (-1) := by simp [mk]
  refine ⟨⟨by rw [h1]; rfl, by rw [h2]; rfl, by omega, by simp [idsO], fun j hj => ?_⟩, by decide, by decide, fun d e => ?_, by rw [hlen, h3]; omega, by rw [hlen]; omega, trivial, fun z z1 z2 => by omega⟩
  · have : j = 0 := by simp [idsO] at hj; omega
    subst this
    rw [hlen]
    simp [idsO]
    omega
  · cases e
    exact ⟨hd, rfl⟩
theorem pk_many (hn : (n : Int) = two i.s.k) (hk : i.s.k ≤ 20) (hkk : i.s.k = k) (hb : i.s.b = a) (h1 : i.s.cur = 0) (h2 : i.s.cch = 1) (h3 : i.s.f = 2) (hl : (L.length : Int) = two k) :
    Pk W0 r a k true Rb (n + 2) 0 i.s.q i.sb ⟨i.s.p, 5, none⟩ (P2a W0 Rb r g a c t k rv L i (mk (-1) (-1) (List.replicate n (-1)) []) 0) (P2a W0 Rb r g a c t k rv L i (mk (-1) (-1) (List.replicate n (-1)) [] ++ [-1]) 0) (P2a W0 Rb r g a c t k rv L i (mk (-1) (-1) (List.replicate n (-1)) [] ++ [-1]) 1)
    (MgS W0 (fR W0 r g a c t i.sb i.rg i.rc k rv (gMany i) L) (fun _ => True) (some (n + 2)) i.s) (MgT W0 (fR W0 r g a c t i.sb i.rg i.rc k rv (gMany i) L) (fun _ => True) (some (n + 2)) i.s) (fun R w => ∃ (ids : List Int) (sw : Int) (X : List Int) (st : Int), Ms (fR W0 r g a c t i.sb i.rg i.rc k rv (gMany i) L R) W0 w i.s ids sw X st) (FnS W0 r g a c t i.sb i.rg i.rc k rv (gMany i) L) where
  k0 w w' h hb := Ms.keep h hb
  k1 w w' h hb := Ms.keep h hb
  k2 w w' h hb := Ms.keep h hb
  many w h := by
    obtain ⟨n, cap, q, hr⟩ := fR_at (Ms.inv h) (one4 rfl rfl rfl rfl)
    exact rmany_yes hr
  shown w h := by
    obtain ⟨n, cap, q, hr⟩ := fR_at (Ms.inv h) (one4 rfl rfl rfl rfl)
    exact rshown_many hr (Ms.c h)
  ar0 w h := rarena 0 (fR_rmc (Ms.inv h))
  ar1 w h := rarena 0 (fR_rmc (Ms.inv h))
  alloc w h := by
    subst hb
    have t1 := two_le hk
    have := alloc_s h (-1) (by simp [mk]; omega)
    have hlen : (mk (-1) (-1) (List.replicate n (-1)) []).length = n + 2 := by simp [mk]
    rw [hlen] at this
    exact this
  cursor w h := by
    obtain ⟨n, cap, q, hr⟩ := fR_at (Ms.inv h) (one4 rfl rfl rfl rfl)
    have := rcursor_many hr (Ms.c h)
    rw [h1] at this
    exact this
  load w h := by
    subst hb
    exact load_s h 0 (-1) rfl (by decide) (by decide)
  gate w h := by
    obtain ⟨n, cap, q, hr⟩ := fR_at (Ms.inv h) (one4 rfl rfl rfl rfl)
    exact rgate_many hr
  add w h := by
    have t1 := two_le hk
    refine (gadd_s h ((n + 2 : Nat) : Int) (by omega) (by omega) (by simp) (by simp)).mono ?_
    rintro e w' ⟨he, hg⟩
    exact ⟨he, _, -1, -1, 1, ⟨by decide, by decide, by decide, by decide, by decide, mg_j hn hk h1 h2 h3⟩, hg⟩
  kit := by
    have := mg_kit (W0 := W0) (mg_h (r := r) (g := g) (a := a) (c := c) (t := t) (k := k) (rv := rv) (L := L) hk (mg_a hn h1 h2 h3))
    rw [hkk] at this
    exact this
  vb := bx_ex fun ids => bx_ex fun sw => bx_ex fun X => bx_ex fun st => (mg_h (a := a) (c := c) (t := t) (k := k) (rv := rv) (L := L) (r := r) (g := g) hk (mg_a hn h1 h2 h3)).bm ids sw X st
  sv b lo hi R w h := by
    obtain ⟨X, sn, sw, st, _, hp⟩ := h
    exact ⟨_, _, _, _, hp⟩
  tv lo m j v R w h := by
    obtain ⟨ts, t, X, xs, sn, sw0, sw, st, _, hp⟩ := h
    exact ⟨_, _, _, _, hp⟩
  slots R w h := by
    obtain ⟨ids, sw, X, st, hp⟩ := h
    obtain ⟨n, cap, q, hr⟩ := fR_at (Ms.inv hp) (one4 rfl rfl rfl rfl)
    exact rslots_ok hr
  put R w x y h := by
    obtain ⟨ids, sw, X, st, hp⟩ := h
    exact fnS_put (Ms.inv hp) (by omega) hl (Ms.below hp) (fun q hq => Ms.prot_lt hp hq) x y
  slots2 R x y w h := fnS_slots h (one4 rfl rfl rfl rfl)
  get R x y w h := fn_get h.1
  kf R x y w w' h hb := h.keep hb
  lf R x y w h := h.1.bl
  vf R x y w h := h.inv
theorem ring_pk2 {w : World} (h : RmNew W0 w r a c t) (hk : k ≤ 20) (hn : (n : Int) = two k) :
    Calls Tryz.prog 23 #[.pointer (some ⟨r, 0, none⟩), .int .i64 (two k), .int .i64 1] w fun e w' => e = .returned (.tuple #[.int .i64 0, .nilIface]) ∧ Pkd W0 r k true w' := by
  refine (rring_any gMany (Pd := fun R w => Mv R W0 w a [] 0) (Pe := PeMany W0 a k (-1) (-1) (List.replicate n (-1)) [] (-1) 0 (List.replicate n (0, 0))) 1 (.inr rfl) hk (mv_bx W0 a [] 0) (fun i => (peMany_bm W0 a k (-1) (-1) (List.replicate n (-1)) [] (-1) 0 (List.replicate n (0, 0)) i).toBx) (fun i => (peMany_bm W0 a k (-1) (-1) (List.replicate n (-1)) [] (-1) 0 (List.replicate n (0, 0)) i).more) h.mv (fun R w hm => lay_many hm hk hn)).mono ?_
  rintro e w' ⟨rfl, i, g, rv, ⟨hb, hkk⟩, hp⟩
  subst hkk
  have hms : Ms (fR W0 r g a c t i.sb i.rg i.rc i.s.k rv (gMany i) (List.replicate n (0, 0)) ((R0.box W0.heap.size c #[.int .i64 0, .slice none 0 0] 106).box W0.heap.size t #[.slice none 0 0] 142)) W0 w' i.s [] (-1) (mk (-1) (-1) (List.replicate n (-1)) []) 0 := by
    have := hp.ms
    simp only [List.length_nil, idsN, List.range_zero, List.map_nil] at this
    exact this
  exact ⟨rfl, a, _, n + 2, 0, i.s.q, i.sb, _, _, _, _, _, _, _, _, hms, pk_many (g := g) (c := c) (t := t) (rv := rv) (i := i) (L := List.replicate n (0, 0)) hn hk rfl hb hp.cur hp.cch hp.f (by simp; exact hn)⟩
end
end Go.Proofs.YtjadapjjilegnaaGreat
