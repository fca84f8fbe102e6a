/-
  TraceParts, walked. Conditions: as the statement has them.
-/
import Derived.Test.YtnblkkmandlllaaTu
import Derived.Test.YtnblkkmandlllaaTow
import Derived.Laws.AppendOwnNone
namespace Go.Proofs.Ytnblkkmandlllaa
open Go.RowKit Go.Shelf Go.Maps
set_option linter.unusedVariables false
set_option linter.unusedSimpArgs false

theorem wpList_append_rows {P : Program} {w : World} {ops : Array Oper} {rest : List Oper} {o : Oper} {a : Act} {Q : Exit → Act → World → Prop} (hgd : o.guard = none) (s x : Operand) (t : TypeId)
    (ho : o.op = .call { callee := .builtin .append, args := #[s, x], argTypes := #[t, t] })
    (base : Nat) (e : TypeId) (i : TypeInfo) (z : Value) (size bytes : Nat) (ht : P.underlying t = some (.slice e)) (hi : P.info? e = some i) (hz : i.zero = some z)
    (hsize : i.size = size) (hby : i.bytes = bytes) (hzs : z.cells.size = size) (hsz : 0 < size)
    (v : Value) (n : Nat) (xs : List Value) (hs : a.eval s = v) (hown : w.ownsRow base e size v n xs)
    (v2 : Value) (b2 m : Nat) (news : List Value) (hx : a.eval x = v2) (hown2 : w.ownsRow b2 e size v2 m news) (h1 : ∀ u ∈ news, u.oneCell' = true)
    (h63 : n + m ≤ maxLen) (hbytes : (n + m) * bytes ≤ 140737488355328) (hbase : base ≤ w.heap.size)
    (h : ∀ v' w', w'.ownsRow base e size v' (n + m) (xs ++ news) → w.grownBy w' v.ownBlock → wpList P ops Q rest (a.put o.dst v') w') : wpList P ops Q (o :: rest) a w := by
  have ho2 := hown2
  obtain ⟨hl, h2⟩ := hown2
  rcases h2 with ⟨rfl, rfl⟩ | ⟨g, cap, cur, rfl, -⟩
  · obtain rfl : news = [] := List.eq_nil_of_length_eq_zero (by simpa using hl)
    refine wpList_append_own_none hgd s x t ho base e i size ht hi v n xs hs hown hx ?_
    refine h v w (by simpa using hown) ?_
    exact ⟨rfl, rfl, rfl, Nat.le_refl _, fun _ _ _ => rfl⟩
  · exact wpList_append_own _ hgd s x t ho base e i z size bytes ht hi hz hsize hby hzs hsz v n xs hs hown ⟨g, 0, none⟩ m cap news hx hl (fun j u hj => by
      rw [Addr.add_lit, Nat.zero_add]
      have hjl : j < news.length := (List.getElem?_eq_some_iff.1 hj).1
      exact (ho2.cellAt j (by omega)).trans hj) h1 h63 hbytes hbase fun v' w' a b _ => h v' w' a b

theorem NtsAt.suffix_ {w : World} {p : Option Addr} {n c : Nat} {l : List Nt} (h : NtsAt w (.slice p n c) l) {k : Nat} (hk : k ≤ l.length) : NtsAt w (sliced p k l.length c 8) (l.drop k) := by
  obtain ⟨p', c', hv, h1, h2, hw, h3⟩ := h
  simp only [Value.slice.injEq] at hv
  obtain ⟨rfl, -, rfl⟩ := hv
  have hl : (l.drop k).length = l.length - k := by rw [List.length_drop]
  refine ⟨_, c - k, by rw [hl]; rfl, by omega, by omega, fun x hx => hw x (List.mem_of_mem_drop hx), ?_⟩
  rcases h3 with h3 | ⟨b, off, rfl, hlt, hc⟩
  · exact .inl (by omega)
  · by_cases hck : c = k
    · exact .inl (by omega)
    · refine .inr ⟨b, off + k * 8, by rw [if_neg hck, Option.map_some, Addr.add_lit], hlt, fun j x hj => ?_⟩
      rw [List.getElem?_drop] at hj
      have := hc (k + j) x hj
      rwa [show off + (k + j) * 8 = off + k * 8 + j * 8 by omega] at this
theorem deedsP_app (a b : List Nt) (d : Nat) : deedsP (a ++ b) d = deedsP a d + deedsP b d := by unfold deedsP; rw [List.filter_append, List.length_append]; omega
theorem deedsP_cut (l : List Nt) (k d : Nat) : deedsP (l.take k) d + deedsP (l.drop k) d = deedsP l d := by
  rw [← deedsP_app, List.take_append_drop]
theorem filter_cut {f : Nt → Bool} (l : List Nt) (k : Nat) : (l.take k).filter f ++ (l.drop k).filter f = l.filter f := by
  rw [← List.filter_append, List.take_append_drop]
theorem pubN_rev (l : List Nt) (ring : Int) : (pubN l.reverse ring).Perm (pubN l ring) := by
  unfold pubN
  exact (((List.reverse_perm l).filter _).filter _).map _
theorem shownP_rev {l : List Nt} {ring : Int} {s t : List Sp} (h : ShownP l ring s) (k : ShownP l.reverse ring t) : s = t :=
  canon_unique _ _ _ h.canon (k.canon.congr fun i => InP.perm (pubN_rev l ring) i)
theorem eqSp (a b c d : Int) (w : World) : (Op.equalIn 10000 43 (.agg #[.int .i64 a, .int .i64 b]) (.agg #[.int .i64 c, .int .i64 d])).run Try.prog w = .ok (a == c && b == d) w := by
  have u3 := Try.underlying2
  rw [show (10000 : Nat) = 9999 + 1 from rfl, run_equalIn_agg w 9999 43 _ _ (by kernel_rfl) (by kernel_rfl)]
  simp only [Program.fieldsOf, Try.underlying43]
  go_simp
  by_cases h1 : a = c <;> by_cases h2 : b = d <;> simp [h1, h2]
theorem neqSp_same (a b : Int) (w : World) : (binOp .neq 43 (.agg #[.int .i64 a, .int .i64 b]) (.agg #[.int .i64 a, .int .i64 b])).run Try.prog w = .ok (.bool false) w := by
  rw [run_neq_struct, eqSp]; simp
theorem flatN_one' {l : List Nt} : ∀ u ∈ flatN l, u.oneCell' = true := by
  intro u hu
  unfold flatN at hu
  obtain ⟨x, -, hx⟩ := List.mem_flatMap.1 hu
  exact nt_one x u hx

def zrow : Obj := .cells (arr8 fun _ => 0) 28 (0, 0)
def three (w : World) : World := ((w.alloc (.cells (arr8 fun _ => 0) 28)).alloc (.cells (arr8 fun _ => 0) 28)).alloc (.cells (arr8 fun _ => 0) 28)
theorem three_at (w : World) : (three w).heap[w.heap.size]? = some zrow ∧ (three w).heap[w.heap.size + 1]? = some zrow ∧ (three w).heap[w.heap.size + 1 + 1]? = some zrow := by
  refine ⟨obj_old _ (obj_old _ (obj_new _ _)), ?_, ?_⟩
  · have := obj_new (w.alloc (.cells (arr8 fun _ => 0) 28)) (.cells (arr8 fun _ => 0) 28)
    rw [World.alloc_size] at this
    exact obj_old _ this
  · have := obj_new ((w.alloc (.cells (arr8 fun _ => 0) 28)).alloc (.cells (arr8 fun _ => 0) 28)) (.cells (arr8 fun _ => 0) 28)
    rw [World.alloc_size, World.alloc_size] at this
    exact this
theorem set_other {w : World} {b g : Nat} {o : Obj} (cs : Array Value) (h : w.heap[b]? = some o) (hne : b ≠ g) : (w.setRow g cs).heap[b]? = some o :=
  ((Frm.refl (fun k => k = g) w).setRow rfl cs).obj h hne
structure ThreeAt (w : World) (b : Nat) (F G H : Array Value) : Prop where
  r0 : w.heap[b]? = some (.cells F 28 (0, 0))
  r1 : w.heap[b + 1]? = some (.cells G 28 (0, 0))
  r2 : w.heap[b + 1 + 1]? = some (.cells H 28 (0, 0))
theorem three_set (w : World) (F G H : Array Value) : (three w).heap[w.heap.size]? = some zrow ∧ ((three w).setRow w.heap.size F).heap[w.heap.size + 1]? = some zrow ∧ (((three w).setRow w.heap.size F).setRow (w.heap.size + 1) G).heap[w.heap.size + 1 + 1]? = some zrow ∧
    ThreeAt ((((three w).setRow w.heap.size F).setRow (w.heap.size + 1) G).setRow (w.heap.size + 1 + 1) H) w.heap.size F G H ∧ Below w.heap.size w ((((three w).setRow w.heap.size F).setRow (w.heap.size + 1) G).setRow (w.heap.size + 1 + 1) H) := by
  obtain ⟨z0, z1, z2⟩ := three_at w
  unfold zrow at z0 z1 z2 ⊢
  have a1 : ((three w).setRow w.heap.size F).heap[w.heap.size]? = some (.cells F 28 (0, 0)) := setRow_heap _ _ _ _ _ _ z0
  have b1 := set_other F z1 (show w.heap.size + 1 ≠ w.heap.size by omega)
  have c1 := set_other F z2 (show w.heap.size + 1 + 1 ≠ w.heap.size by omega)
  have a2 := set_other G a1 (show w.heap.size ≠ w.heap.size + 1 by omega)
  have b2 : (((three w).setRow w.heap.size F).setRow (w.heap.size + 1) G).heap[w.heap.size + 1]? = some (.cells G 28 (0, 0)) := setRow_heap _ _ _ _ _ _ b1
  have c2 := set_other G c1 (show w.heap.size + 1 + 1 ≠ w.heap.size + 1 by omega)
  have a3 := set_other H a2 (show w.heap.size ≠ w.heap.size + 1 + 1 by omega)
  have b3 := set_other H b2 (show w.heap.size + 1 ≠ w.heap.size + 1 + 1 by omega)
  have c3 : ((((three w).setRow w.heap.size F).setRow (w.heap.size + 1) G).setRow (w.heap.size + 1 + 1) H).heap[w.heap.size + 1 + 1]? = some (.cells H 28 (0, 0)) := setRow_heap _ _ _ _ _ _ c2
  refine ⟨z0, b1, c2, ⟨a3, b3, c3⟩, ?_⟩
  refine bsetRow (bsetRow (bsetRow ?_ (Nat.le_refl _) _) (by omega) _) (by omega) _
  exact (((Below.refl _ _).alloc (Nat.le_refl _) _).alloc (by simp) _).alloc (by simp; omega) _

set_option maxRecDepth 100000 in
set_option maxHeartbeats 8000000 in
theorem parts_walk {W : World} {v : Value} {l : List Nt} {at_ ring who : Int} (hl : NtsAt W v l) (ha0 : 0 ≤ at_) (ha1 : at_ ≤ 255) :
    Calls Try.prog 9 #[v, .int .u8 at_, .int .i64 ring, .int .i64 who] W fun e w' => e = .returned (.bool true) ∧ Below W.heap.size W w' := by
  have HL := Lib.hid hl
  obtain ⟨p, c, rfl, hc, hm⟩ := hl.form
  clear hl
  by_cases h120 : l.length ≤ 120
  · have HS : Hid (decide (l.length ≤ 120) = true) := Lib.hid (by simpa using h120)
    go_enter Try.func9, Try.ntmps9
    go_upto_region 3 with (go_at_call 10; refine (tsmall HL.out).mono ?_; rintro e w1 ⟨rfl, rfl⟩; rw [HS.out])
    go_wp2_with fail
    obtain ⟨k, hke, hkl⟩ : ∃ k : Nat, min at_ (l.length : Int) = (k : Int) ∧ k ≤ l.length := ⟨(min at_ (l.length : Int)).toNat, by omega, by omega⟩
    rw [hke]
    clear hke
    have hkc : k ≤ c := by omega
    go_quiet (fail)
    have HB1 : Hid (Below W.heap.size W (W.drewN nq)) := Lib.hid (bdrewN (Below.refl _ _) nq)
    have HPR : Hid (NtsAt W (.slice p k c) (l.take k)) := Lib.hid (HL.out.prefix_ hkl)
    have HSU : Hid (NtsAt W (.slice (if c = k then p else Option.map (fun x => x.add (k * 8)) p) (l.length - k) (c - k)) (l.drop k)) := Lib.hid (HL.out.suffix_ hkl)
    have HLE : Hid ((l.take k).length ≤ 120 ∧ (l.drop k).length ≤ 120) := Lib.hid ⟨by rw [List.length_take]; omega, by rw [List.length_drop]; omega⟩
    have HCF : Hid (∀ f : Nt → Bool, (l.take k).filter f ++ (l.drop k).filter f = l.filter f) := Lib.hid fun f => filter_cut l k
    have HCD : Hid (∀ d, deedsP (l.take k) d + deedsP (l.drop k) d = deedsP l d) := Lib.hid fun d => deedsP_cut l k d
    generalize World.drewN _ nq = w1 at HB1 ⊢
    generalize (if c = k then p else Option.map (fun x => x.add (k * 8)) p) = p2 at HSU ⊢
    generalize l.length - k = n2 at HSU ⊢
    generalize c - k = c2 at HSU ⊢
    generalize l.take k = la at *
    generalize l.drop k = lb at *
    obtain ⟨i0, hi, hz0, hz1, hz2⟩ := info_parts infoNt
    have HALL : Hid (∀ w, Below W.heap.size W w → NtsAt w (.slice p l.length c) l ∧ NtsAt w (.slice p k c) la ∧ NtsAt w (.slice p2 n2 c2) lb) := Lib.hid fun w hw => ⟨HL.out.keep hw, HPR.out.keep hw, HSU.out.keep hw⟩
    have HOA := Lib.hid fun w (hw : Below W.heap.size W w) => tof (who := who) (HALL.out w hw).2.1 (by have := HLE.out.1; omega)
    have HOB := Lib.hid fun w (hw : Below W.heap.size W w) => tof (who := who) (HALL.out w hw).2.2 (by have := HLE.out.2; omega)
    have HFL : Hid ((la.filter fun x => x.who == who).length ≤ 120 ∧ (lb.filter fun x => x.who == who).length ≤ 120) := Lib.hid ⟨Nat.le_trans (List.length_filter_le _ _) HLE.out.1, Nat.le_trans (List.length_filter_le _ _) HLE.out.2⟩
    have HFF := Lib.hid (HCF.out fun x => x.who == who)
    generalize (la.filter fun x => x.who == who) = fa at *
    generalize (lb.filter fun x => x.who == who) = fb at *
    have hfl1 := HFL.out.1
    have hfl2 := HFL.out.2
    clear HPR HSU HCF
    go_upto_region 6 with (first
      | (at_builtin; refine wpList_append_rows rfl _ _ 22 rfl W.heap.size 33 i0 _ 8 64 Try.underlying22 hi hz0 hz1 hz2 rfl (by decide) v7 fa.length (flatN fa) rfl HO8.out.own v8 _ fb.length (flatN fb) rfl HO8B.out.own flatN_one' (by unfold maxLen; omega) (by omega) H8.out.size ?_; intro v9 w9 hown hg; have HO9 := Lib.hid hown; have H9 := Lib.hid (H8.out.grown hg (by have := H8.out.size; omega) fun k hk => (HO8.out.own.lt k hk).1); clear hown hg)
      | (go_at_call 13; refine (HOB.out _ H7.out).mono ?_; rintro e w8 ⟨v8, rfl, ho, hb⟩; have HO8B := Lib.hid ho; have HO8 := Lib.hid (HO7.out.keep hb); have H8 := Lib.hid (bthen H7.out hb); clear ho hb)
      | (at_builtin; refine wpList_append_rows rfl _ _ 22 rfl W.heap.size 33 i0 _ 8 64 Try.underlying22 hi hz0 hz1 hz2 rfl (by decide) (.slice none 0 0) 0 [] rfl (World.ownsRow_nil _ _ _ _) v6 _ fa.length (flatN fa) rfl HO6.out.own flatN_one' (by unfold maxLen; omega) (by omega) H6.out.size ?_; intro v7 w7 hown hg; have HO7 : Hid (NtsOwn W.heap.size w7 v7 fa) := Lib.hid ⟨by simpa using hown, HO6.out.wf⟩; have H7 := Lib.hid (H6.out.grown hg (by have := H6.out.size; omega) fun k hk => by simp [Value.ownBlock] at hk); clear hown hg)
      | (go_at_call 13; refine (HOA.out _ HB1.out).mono ?_; rintro e w6 ⟨v6, rfl, ho, hb⟩; have HO6 := Lib.hid ho; have H6 := Lib.hid (bthen HB1.out hb); clear ho hb))
    have HK9 : Hid (NtsOwn W.heap.size w9 v9 (l.filter fun x => x.who == who)) := Lib.hid (by
      rw [← HFF.out]
      exact ⟨by rw [flatN_append, List.length_append]; exact HO9.out, fun x hx => by
        rcases List.mem_append.1 hx with h | h
        · exact HO8.out.wf x h
        · exact HO8B.out.wf x h⟩)
    obtain ⟨p9, c9, rfl, -⟩ := row_form HK9.out.own
    clear HOA HOB HO6 HO7 HO8 HO8B HO9 HFL HFF H6 H7 H8 hfl1 hfl2
    have HN9 := Lib.hid HK9.out.read
    have HCA := Lib.hid fun w (hw : Below W.heap.size W w) => tcounts (HALL.out w hw).2.1 (by have := HLE.out.1; omega)
    have HCB := Lib.hid fun w (hw : Below W.heap.size W w) => tcounts (HALL.out w hw).2.2 (by have := HLE.out.2; omega)
    have HCL := Lib.hid fun w (hw : Below W.heap.size W w) => tcounts (HALL.out w hw).1 (by omega)
    obtain ⟨FA, hFA⟩ : ∃ F, arr8 (deedsP la) = F := ⟨_, rfl⟩
    obtain ⟨FB, hFB⟩ : ∃ F, arr8 (deedsP lb) = F := ⟨_, rfl⟩
    obtain ⟨FL, hFL⟩ : ∃ F, arr8 (deedsP l) = F := ⟨_, rfl⟩
    have HEA := Lib.hid hFA
    have HEB := Lib.hid hFB
    have HEL := Lib.hid hFL
    have HIA : Hid ((Try.prog.info? 28).map (·.size) = some FA.size ∧ (arr8 fun _ => 0).size = FA.size ∧ FA.all (·.oneCell') = true) := Lib.hid (by rw [← hFA]; exact ⟨by unfold arr8; kernel_rfl, rfl, arr8_one _⟩)
    have HIB : Hid ((Try.prog.info? 28).map (·.size) = some FB.size ∧ (arr8 fun _ => 0).size = FB.size ∧ FB.all (·.oneCell') = true) := Lib.hid (by rw [← hFB]; exact ⟨by unfold arr8; kernel_rfl, rfl, arr8_one _⟩)
    have HIL : Hid ((Try.prog.info? 28).map (·.size) = some FL.size ∧ (arr8 fun _ => 0).size = FL.size ∧ FL.all (·.oneCell') = true) := Lib.hid (by rw [← hFL]; exact ⟨by unfold arr8; kernel_rfl, rfl, arr8_one _⟩)
    rw [hFA] at HCA
    rw [hFB] at HCB
    rw [hFL] at HCL
    clear hFA hFB hFL
    have HZ := Lib.hid fun w => three_set w FA FB FL
    unfold zrow three at HZ
    go_upto_region 7 with (first
      | (refine wpList_store_row rfl 28 (.tmp 13) (.tmp 46) rfl wC.heap.size FA rfl rfl 28 _ (HZ.out wC).1 HIA.out.1 HIA.out.2.1 HIA.out.2.2 ?_)
      | (refine wpList_store_row rfl 28 (.tmp 14) (.tmp 48) rfl (wC.heap.size + 1) FB rfl rfl 28 _ (HZ.out wC).2.1 HIB.out.1 HIB.out.2.1 HIB.out.2.2 ?_)
      | (refine wpList_store_row rfl 28 (.tmp 15) (.tmp 50) rfl (wC.heap.size + 1 + 1) FL rfl rfl 28 _ (HZ.out wC).2.2.1 HIL.out.1 HIL.out.2.1 HIL.out.2.2 ?_)
      | (go_at_call 15; refine (HCL.out _ HB.out).mono ?_; rintro e wC ⟨rfl, hb⟩; have HC := Lib.hid (bthen HB.out hb); have HNC := Lib.hid (HNB.out.keep hb); clear hb)
      | (go_at_call 15; refine (HCB.out _ HA.out).mono ?_; rintro e wB ⟨rfl, hb⟩; have HB := Lib.hid (bthen HA.out hb); have HNB := Lib.hid (HNA.out.keep hb); clear hb)
      | (go_at_call 15; refine (HCA.out _ H9.out).mono ?_; rintro e wA ⟨rfl, hb⟩; have HA := Lib.hid (bthen H9.out hb); have HNA := Lib.hid (HN9.out.keep hb); clear hb))
    generalize hw2 : World.setRow _ (wC.heap.size + 1 + 1) FL = w2
    have HT : Hid (ThreeAt w2 wC.heap.size FA FB FL ∧ Below wC.heap.size wC w2) := Lib.hid (by rw [← hw2]; exact (HZ.out wC).2.2.2)
    clear hw2 HZ HIA HIB HIL HCA HCB HCL H9 HA HB HK9 HN9 HNA HNB
    have HB2 := Lib.hid (bthen HC.out HT.out.2)
    have HN2 := Lib.hid (HNC.out.keep HT.out.2)
    clear HC HNC
    have HCE : Hid (∀ i, i < 8 → ∃ x y z : Int, x + y = z ∧ 0 ≤ x ∧ x ≤ 120 ∧ 0 ≤ y ∧ y ≤ 120 ∧ ∀ w, Below w2.heap.size w2 w → w.cell? ⟨wC.heap.size, i, none⟩ = some (.int .i64 x) ∧ w.cell? ⟨wC.heap.size + 1, i, none⟩ = some (.int .i64 y) ∧ w.cell? ⟨wC.heap.size + 1 + 1, i, none⟩ = some (.int .i64 z)) := Lib.hid fun i hi => by
      have l1 := deedsP_le la i
      have l2 := deedsP_le lb i
      have l3 := HLE.out
      refine ⟨deedsP la i, deedsP lb i, deedsP l i, HCD.out i, l1.1, by omega, l2.1, by omega, fun w hw => ⟨keepc hw ?_, keepc hw ?_, keepc hw ?_⟩⟩
      · exact (obj_cell HT.out.1.r0 i).trans (by rw [← HEA.out]; exact arr8_get _ i hi)
      · exact (obj_cell HT.out.1.r1 i).trans (by rw [← HEB.out]; exact arr8_get _ i hi)
      · exact (obj_cell HT.out.1.r2 i).trans (by rw [← HEL.out]; exact arr8_get _ i hi)
    clear HEA HEB HEL HT HCD HLE
    generalize wC.heap.size = g at *
    go_wp2_with fail
    go_loopw [51] (fun iv wl => ∃ d : Nat, d ≤ 8 ∧ iv = .int .i64 d ∧ Hid (Below w2.heap.size w2 wl)) (fun iv _ => 8 - (intOf iv).toNat)
    case atStart => exact ⟨0, Nat.zero_le _, rfl, Lib.hid (Below.refl _ _)⟩
    case round =>
      obtain ⟨d, hd, rfl, HJ⟩ := hrel
      by_cases hlt : d < 8
      · obtain ⟨x, y, z, rfl, hx0, hx1, hy0, hy1, hcc⟩ := HCE.out d hlt
        obtain ⟨c0, c1, c2⟩ := hcc wr HJ.out
        have HBB := Lib.hid fun n => bdrewN HJ.out n
        clear hcc
        go_upto_region 10 with (fail)
        go_quiet (fail)
        have HB9 := Lib.hid (HBB.out nq)
        clear c0 c1 c2
        generalize wr.drewN nq = w9 at HB9 ⊢
        go_wp2
        exact ⟨⟨d + 1, by omega, by go_num, HB9⟩, by simp [intOf]; omega⟩
      · obtain rfl : d = 8 := by omega
        go_wp2_with fail
        have HB3 := Lib.hid (bthen HB2.out HJ.out)
        have HN3 := Lib.hid (HN2.out.keep HJ.out)
        obtain ⟨w3, hw3⟩ : ∃ w3, w3 = wr := ⟨_, rfl⟩
        rw [← hw3] at HB3 HN3 ⊢
        clear HJ HB2 HN2 HCE hw3 hlt hd
        go_loopw [17, 18] (fun ov iv wl => ∃ m : Nat, m ≤ l.length ∧ iv = .int .i64 ((m : Int) - 1) ∧ Hid (NtsOwn w3.heap.size wl ov (l.drop m).reverse ∧ Below w3.heap.size w3 wl)) (fun _ iv _ => (intOf iv + 1).toNat)
        case atStart => exact ⟨l.length, Nat.le_refl _, rfl, Lib.hid ⟨by rw [List.drop_length]; exact NtsOwn.nil _ _, Below.refl _ _⟩⟩
        case round =>
          obtain ⟨m, hml, rfl, HJ⟩ := hrel
          by_cases hm0 : 0 < m
          · obtain ⟨j, rfl⟩ : ∃ j, m = j + 1 := ⟨m - 1, by omega⟩
            rw [show (((j + 1 : Nat) : Int) - 1) = (j : Int) by omega]
            obtain ⟨b, off, x, rfl, hx, hb, hwf, ⟨c0, c1, c2', c3, c4, c5, c6, c7⟩⟩ := ((HALL.out _ (bthen HB3.out HJ.out.2)).1).at_ (k := j) (by omega)
            have HT : Hid ((l.drop j).reverse = (l.drop (j + 1)).reverse ++ [x]) := Lib.hid (by
              obtain ⟨hk1, he⟩ := List.getElem?_eq_some_iff.1 hx
              rw [List.drop_eq_getElem_cons hk1, he, List.reverse_cons])
            have HW := Lib.hid hwf
            have HLK : Hid ((l.drop (j + 1)).reverse.length ≤ 120) := Lib.hid (by rw [List.length_reverse, List.length_drop]; omega)
            clear hx hb hwf
            generalize (l.drop (j + 1)).reverse = ss at *
            have hlk := HLK.out
            go_wp2_with (at_builtin; refine wpList_append_own _ rfl _ _ 22 rfl w3.heap.size 33 i0 _ 8 64 Try.underlying22 hi hz0 hz1 hz2 rfl (by decide) u17 ss.length _ rfl (HJ.out.1.own.alloc _) ⟨wr.heap.size, 0, none⟩ 1 1 x.cs rfl rfl (nt_cell _ _ _) (nt_one x) (by unfold maxLen; omega) (by omega) (by have := HJ.out.2.size; simp at this ⊢; omega) ?_; intro v' w4 hown hg hnil; have HO := Lib.hid hown; have HG := Lib.hid hg; clear hown hg hnil)
            exact ⟨⟨_, _, _, _, _, _, _, _, _, _, _, _, _, ⟨j, by omega, rfl, Lib.hid ⟨by rw [HT.out]; exact NtsOwn.app HO.out HJ.out.1.wf HW.out, Below.app HJ.out.2 HJ.out.2.size HJ.out.1.own HG.out⟩⟩, rfl⟩, by first | (simp [intOf]; done) | (simp [intOf]; omega)⟩
          · obtain rfl : m = 0 := by omega
            rw [List.drop_zero] at HJ
            obtain ⟨pr, cr, rfl, -⟩ := row_form HJ.out.1.own
            have HB4 := Lib.hid (bthen HB3.out HJ.out.2)
            have HN4 := Lib.hid (HN3.out.keep HJ.out.2)
            have HR4 : Hid (NtsAt wr (.slice pr l.length cr) l.reverse) := Lib.hid (by have := HJ.out.1.read; rwa [List.length_reverse] at this)
            rw [List.length_reverse]
            obtain ⟨w4, hw4⟩ : ∃ w4, w4 = wr := ⟨_, rfl⟩
            rw [← hw4] at HB4 HN4 HR4 ⊢
            clear HJ HB3 HN3 hw4 hm0 hml
            have HS1 := Lib.hid fun w (hw : Below W.heap.size W w) => tshown (ring := ring) (HALL.out w hw).1 (by omega)
            have HS2 := Lib.hid fun w (hw : Below w4.heap.size w4 w) => tshown (ring := ring) (HR4.out.keep hw) (by rw [List.length_reverse]; omega)
            have HOL := Lib.hid fun w (hw : Below W.heap.size W w) => tof (who := who) (HALL.out w hw).1 (by omega)
            have HLF : Hid ((l.filter fun x => x.who == who).length ≤ 1000) := Lib.hid (Nat.le_trans (List.length_filter_le _ _) (by omega))
            have HI4 : Hid (Below w4.heap.size w4 w4) := Lib.hid (Below.refl _ _)
            generalize (l.filter fun x => x.who == who) = fl at *
            go_upto_region 19 with (first
              | (go_at_call 16; refine (HS2.out _ H5.out).mono ?_; rintro e w6 ⟨v6, t, rfl, hat, hs, hol, hb⟩; obtain rfl := shownP_rev HSH.out hs; have HA6 := Lib.hid hat; have HA5' := Lib.hid (HA5.out.keep hb); have H6 := Lib.hid (bthen H5.out hb); obtain ⟨p6, c6, rfl, -⟩ := hat.form; clear hat hs hb)
              | (go_at_call 16; refine (HS1.out _ HB4.out).mono ?_; rintro e w5 ⟨v5, s, rfl, hat, hs, hol, hb⟩; have HA5 := Lib.hid hat; have HSH := Lib.hid hs; have H5 := Lib.hid (bthen HI4.out hb); obtain ⟨p5, c5, rfl, -⟩ := hat.form; clear hat hs hb hol))
            have HB6 := Lib.hid (bthen HB4.out H6.out)
            have HN6 := Lib.hid (HN4.out.keep H6.out)
            clear HS1 HS2 HR4 HI4 HB4 H5 H6 HSH HA5 HN4
            go_upto_region 21 with (first
              | (go_at_call 13; refine (HOL.out _ HB6.out).mono ?_; rintro e w7 ⟨v7, rfl, ho, hb⟩; have HO7 := Lib.hid ho.read; have H7 := Lib.hid (bthen HB6.out hb); have HN7 := Lib.hid (HN6.out.keep hb); have HA7 := Lib.hid (HA6.out.keep hb); have HA7' := Lib.hid (HA5'.out.keep hb); obtain ⟨p7, c7, rfl, -⟩ := row_form ho.own; clear ho hb)
              | (go_at_call 12; refine (tsame HO7.out HN7.out HLF.out).mono ?_; rintro e w8 ⟨rfl, hb⟩; have H8 := Lib.hid (bthen H7.out hb); have HA8 := Lib.hid (HA7.out.keep hb); have HA8' := Lib.hid (HA7'.out.keep hb); clear hb))
            clear HO7 H7 HN7 HA7 HA7' HB6 HN6 HA6 HA5' HOL HLF HALL
            go_wp2_with fail
            go_loopw [101] (fun iv wl => ∃ k : Nat, k ≤ s.length ∧ iv = .int .i64 k ∧ Hid (Below w8.heap.size w8 wl)) (fun iv _ => s.length - (intOf iv).toNat)
            case atStart => exact ⟨0, Nat.zero_le _, rfl, Lib.hid (Below.refl _ _)⟩
            case round =>
              obtain ⟨k, hk, rfl, HJ⟩ := hrel
              by_cases hlt : k < s.length
              · obtain ⟨b, off, x, rfl, hx, hbb, c0, c1⟩ := (HA8'.out.keep HJ.out).at_ hlt
                obtain ⟨b', off', y, rfl, hy, hbb', d0, d1⟩ := (HA8.out.keep HJ.out).at_ hlt
                obtain rfl : x = y := by rw [hx] at hy; simpa using hy
                have hq := neqSp_same x.1 x.2
                have HBB := Lib.hid fun n => bdrewN HJ.out n
                obtain ⟨x0, x1⟩ := x
                simp only at c0 c1 d0 d1 hq
                clear hx hy hbb hbb'
                go_upto_region 24 with (fail)
                go_quiet (fail)
                have HB9 := Lib.hid (HBB.out nq)
                clear c0 c1 d0 d1 hq
                generalize wr.drewN nq = w9 at HB9 ⊢
                go_wp2
                exact ⟨⟨k + 1, by omega, by go_num, HB9⟩, by simp [intOf]; omega⟩
              · obtain rfl : k = s.length := by omega
                go_wp2_with (go_at_call 11; refine (awake22 _).mono ?_; rintro e w9 ⟨rfl, hb⟩; have HE := Lib.hid (bthen H8.out (bthen HJ.out hb)); clear hb)
                go_ret
                exact ⟨rfl, HE.out⟩
  · have HS : Hid (decide (l.length ≤ 120) = false) := Lib.hid (by simpa using h120)
    go_enter Try.func9, Try.ntmps9
    go_wp2_with (first
      | (go_at_call 10; refine (tsmall HL.out).mono ?_; rintro e w1 ⟨rfl, rfl⟩; rw [HS.out])
      | (go_at_call 11; refine (awake22 _).mono ?_; rintro e w2 ⟨rfl, hb⟩; have HB := Lib.hid hb; clear hb))
    go_ret
    exact ⟨rfl, HB.out⟩
end Go.Proofs.Ytnblkkmandlllaa
