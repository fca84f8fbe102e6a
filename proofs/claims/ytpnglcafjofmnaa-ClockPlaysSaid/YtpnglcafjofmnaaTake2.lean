/-
  clock.take by contract: the walk. Conditions: as each names.
-/
import Derived.Test.YtpnglcafjofmnaaTake
import Derived.BigQuiet
namespace Go.Proofs.Ytpnglcafjofmnaa
open Go.RowKit

theorem two_cell (w : World) (x y : Value) (t : TypeId) : ∀ j u, [x, y][j]? = some u → (w.alloc (.cells #[x, y] t)).cell? ((⟨w.heap.size, 0, none⟩ : Addr).add j) = some u := by
  intro j u hu
  have e : ∀ j : Nat, ((⟨w.heap.size, 0, none⟩ : Addr).add j) = ⟨w.heap.size, j, none⟩ := fun j => by unfold Addr.add; split <;> simp_all
  rw [e, obj_cell (obj_new w _)]
  rcases j with _ | _ | j
  · simpa using hu
  · simpa using hu
  · simp at hu
theorem infoInt : (Try.prog.info? 3).map (fun i => (i.zero, i.size, i.bytes)) = some (some (.int .i64 0), 1, 8) := by kernel_rfl
theorem infoTimer : (Try.prog.info? 117).map (fun i => i.size) = some 2 := by kernel_rfl

theorem TK.cells {W : World} {g cap : Nat} {ts : List (Int × Int)} {p : Int × Int → Bool} {k : Nat} {who : Value} {wl : World} {t : Int × Int} (h : TK W g cap ts p k who wl) (hk : k < ts.length) (ht : ts[k]? = some t) :
    wl.cell? ⟨g, k * 2, none⟩ = some (.int .i64 t.1) ∧ wl.cell? ⟨g, k * 2 + 1, none⟩ = some (.int .i64 t.2) := by
  obtain ⟨_, _, ⟨cur, h3, _, _, h6⟩, _⟩ := h
  have e : ts[k] = t := by rw [List.getElem?_eq_getElem hk] at ht; simpa using ht
  obtain ⟨f1, f2⟩ := flat_get ts k hk
  rw [e] at f1 f2
  constructor
  · rw [obj_cell h3, show k * 2 = 2 * k by omega, h6 _ (by omega) (by omega)]; exact f1
  · rw [obj_cell h3, show k * 2 + 1 = 2 * k + 1 by omega, h6 _ (by omega) (by omega)]; exact f2

/-- What take leaves. -/
def TakeOk (W w' : World) (b : Nat) (v : Value) (ts : List (Int × Int)) (p : Int × Int → Bool) (now : Int) (e : Ending) : Prop :=
  ∃ r v', e = .returned r ∧ w'.ownsRow 0 3 1 r (whoL ts p ts.length).length ((whoL ts p ts.length).map (Value.int .i64)) ∧ (∀ q, r.ownBlock = some q → W.heap.size ≤ q) ∧ Ck w' b v' (keptL ts p ts.length) now ∧ v'.ownBlock = v.ownBlock ∧ Frm (fun k => k = b ∨ v.ownBlock = some k) W w'

theorem take_end {W wl : World} {b g cap : Nat} {ts : List (Int × Int)} {p : Int × Int → Bool} {now : Int} {who : Value} (h : Ck W b (.slice (some ⟨g, 0, none⟩) ts.length cap) ts now) (hc : ts.length ≤ cap) (hcm : cap ≤ maxLen) (ht : TK W g cap ts p ts.length who wl) :
    TakeOk W (wl.setCell ⟨b, 1, none⟩ (.slice (some ⟨g, 0, none⟩) (keptL ts p ts.length).length cap)) b (.slice (some ⟨g, 0, none⟩) ts.length cap) ts p now (.returned who) := by
  obtain ⟨h1, h2, ⟨cur, h3, h4, h5, _⟩, h7⟩ := ht
  have hgb : g ≠ b := fun e => h.ne (by simp [Value.ownBlock, e])
  have hob : wl.heap[b]? = some (.cells #[.int .i64 now, .slice (some ⟨g, 0, none⟩) ts.length cap] 51 (0, 0)) := h7.obj h.1 (by omega)
  have hF : Frm (fun k => k = b) wl (wl.setCell ⟨b, 1, none⟩ (.slice (some ⟨g, 0, none⟩) (keptL ts p ts.length).length cap)) := (Frm.refl (fun k => k = b) wl).setCell (p := ⟨b, 1, none⟩) rfl _
  have hk := keptL_le ts p ts.length
  refine ⟨who, _, rfl, hF.row h1 fun q hq e => row_ne h1 hob (by decide) (by rw [hq, e]), h2, ⟨obj_setCell _ hob, ?_⟩, rfl, (h7.mono fun k _ e => .inr (by simp [Value.ownBlock, e])).then hF fun k _ e => .inl e⟩
  refine ⟨by rw [flat_len], .inr ⟨g, cap, cur, rfl, Nat.zero_le _, hF.obj h3 hgb, by omega, hcm, h4, h5⟩⟩

set_option maxRecDepth 100000 in
set_option maxHeartbeats 2000000 in
theorem take_some (W : World) (b g cap : Nat) (ts : List (Int × Int)) (now : Int) (F cp : Nat) (p : Int × Int → Bool) (h : Ck W b (.slice (some ⟨g, 0, none⟩) ts.length cap) ts now) (hc : ts.length ≤ cap) (hcm : cap ≤ maxLen) (hn : (ts.length : Int) ≤ 1048576)
    (he : ∀ (x y : Int) (w : World), (callFunc F #[.agg #[.int .i64 x, .int .i64 y], .pointer (some ⟨cp, 0, none⟩)]).run Try.prog w = .ok (.enter F #[.agg #[.int .i64 x, .int .i64 y], .pointer (some ⟨cp, 0, none⟩)]) w)
    (hcl : ∀ W' : World, Frm (fun q => q = g) W W' → ∀ t : Int × Int, Calls Try.prog F #[.agg #[.int .i64 t.1, .int .i64 t.2], .pointer (some ⟨cp, 0, none⟩)] W' fun e w' => e = .returned (.bool (p t)) ∧ Below W'.heap.size W' w') :
    Calls Try.prog 62 #[.pointer (some ⟨b, 0, none⟩), .func (.func F) #[] #[.pointer (some ⟨cp, 0, none⟩)]] W fun e w' => TakeOk W w' b (.slice (some ⟨g, 0, none⟩) ts.length cap) ts p now e := by
  obtain ⟨i0, hi0, hz0, hz1, hz2⟩ := info_parts infoInt
  obtain ⟨i1, hi1, hy1⟩ := Option.map_eq_some_iff.1 infoTimer
  have c1 := h.c1
  have HC := Lib.hid h
  have HE := Lib.hid he
  have HCL := Lib.hid hcl
  have HS := Lib.hid (TK.start p h.2)
  have HCM := Lib.hid hcm
  have hcn : ts.length ≤ 9223372036854775807 := by omega
  clear h hcl he hcm
  go_enter Try.func62, Try.ntmps62
  go_wp2_with fail
  go_loopw [5, 6, 19] (fun who kept i wl => ∃ k : Nat, k ≤ ts.length ∧ i = .int .i64 k ∧ kept = .slice (some ⟨g, 0, none⟩) (keptL ts p k).length cap ∧ TK W g cap ts p k who wl) (fun _ _ i _ => ts.length - (intOf i).toNat)
  case atStart => exact ⟨0, Nat.zero_le _, rfl, rfl, HS.out⟩
  case round =>
    obtain ⟨k, hk, rfl, rfl, htk⟩ := hrel
    have HTK := Lib.hid htk
    clear htk
    by_cases hlt : k < ts.length
    · have ht : ts[k]? = some ts[k] := List.getElem?_eq_getElem hlt
      generalize ts[k] = t at ht
      have HT := Lib.hid ht
      have g0 := (HTK.out.cells hlt ht).1
      have g1 := (HTK.out.cells hlt ht).2
      have hcall := fun w => HE.out t.1 t.2 w
      clear ht
      go_wp2_with fail
      refine (HCL.out _ (HTK.out.2.2.2.alloc _) t).mono ?_
      rintro e w4 ⟨rfl, hb4⟩
      have HTK4 := Lib.hid ((HTK.out.keep (balloc (Below.refl _ _) (.cells #[.int .i64 t.1, .int .i64 t.2] 117))).keep hb4)
      have hO := (hb4.block wr.heap.size (by simp)).trans (obj_new wr (.cells #[.int .i64 t.1, .int .i64 t.2] 117))
      have o0 : w4.cell? ⟨wr.heap.size, 0, none⟩ = some (.int .i64 t.1) := (obj_cell hO 0).trans rfl
      have o1 : w4.cell? ⟨wr.heap.size, 1, none⟩ = some (.int .i64 t.2) := (obj_cell hO 1).trans rfl
      clear g0 g1 hcall hO hb4
      generalize wr.heap.size = ob at *
      have hwl := whoL_le ts p k
      have hkl := keptL_le ts p k
      cases hp : p t with
      | true =>
        have HP := Lib.hid hp
        clear hp
        go_wp2_with (at_builtin; refine wpList_append_row rfl _ _ 62 rfl 3 i0 (.int .i64 0) 1 8 Try.underlying62 hi0 hz0 hz1 hz2 rfl (by decide) u5 (whoL ts p k).length _ rfl (HTK4.out.1.alloc _) ⟨w4.heap.size, 0, none⟩ 1 1 [.int .i64 t.2] rfl rfl (one_cell _ _ _) (fun x hx => by simp at hx; subst hx; rfl) (by unfold maxLen; omega) (by omega) ?_; intro v' w5 hown5 hf5 hv5; have HE5 := Lib.hid (TK.who HTK4.out HT.out HP.out hown5 hf5 hv5); clear hown5 hf5 hv5)
        exact ⟨⟨k + 1, by omega, by go_num, by rw [keptL_yes HT.out HP.out], HE5.out⟩, by simp [intOf]; omega⟩
      | false =>
        have HP := Lib.hid hp
        obtain ⟨cur, hcur, hcs, hcr⟩ := HTK4.out.2.2.1
        clear hcr
        have HE5 := Lib.hid ((HTK4.out.keep (balloc (Below.refl _ _) (.cells #[.int .i64 t.1, .int .i64 t.2] 117))).kept HT.out HP.out hlt hc cur (obj_old _ hcur))
        have HCUR := Lib.hid hcur
        have HCS := Lib.hid hcs
        have HKL := Lib.hid hkl
        clear hp hcur hcs
        go_wp2_with (at_builtin; refine wpList_append_at rfl _ _ 49 rfl 117 i1 2 Try.underlying49 hi1 hy1 g (keptL ts p k).length cap cur rfl (obj_old _ HCUR.out) ⟨w4.heap.size, 0, none⟩ 1 1 [.int .i64 t.1, .int .i64 t.2] rfl rfl (two_cell _ _ _ _) (fun x hx => by simp at hx; rcases hx with rfl | rfl <;> rfl) (by omega) (by have := HCS.out; simp; omega) ?_)
        exact ⟨⟨k + 1, by omega, by go_num, by rw [keptL_no HT.out HP.out]; simp, by simpa using HE5.out⟩, by simp [intOf]; omega⟩
    · obtain rfl : k = ts.length := by omega
      clear hlt
      have hkl := keptL_le ts p ts.length
      have hob := HTK.out.2.2.2.obj HC.out.1 (fun e => HC.out.ne (by simp [Value.ownBlock, e]))
      have b1 : wr.cell? ⟨b, 1, none⟩ = some (.slice (some ⟨g, 0, none⟩) ts.length cap) := (obj_cell hob 1).trans rfl
      have bf := obj_free hob 1
      have HEND := Lib.hid (take_end HC.out hc HCM.out HTK.out)
      clear hob
      go_wp2
      go_ret
      exact HEND.out
end Go.Proofs.Ytpnglcafjofmnaa
