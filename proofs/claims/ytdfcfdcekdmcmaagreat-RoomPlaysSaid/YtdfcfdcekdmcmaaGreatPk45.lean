/-
  A room's Claim where it refuses: no such ring, too few or too many; by contract. Conditions: as each theorem names them.
-/
import Derived.Test.YtdfcfdcekdmcmaaGreatPk43
import Derived.Test.YtdfcfdcekdmcmaaGreatPk44
set_option linter.unusedVariables false
set_option linter.unusedSimpArgs false
namespace Go.Proofs.YtdfcfdcekdmcmaaGreat
open Go.RowKit
set_option linter.unusedVariables false
set_option linter.unusedSimpArgs false
theorem NewE.ofR {W w : World} {q : Nat} {n : Int} (h : Refused W w (Flt q) n) : NewE W w q n := by
  obtain ⟨q', e, h1, h2⟩ := h
  exact ⟨h1, h2⟩
theorem claz_cl : claz = clA false tsZ tyz := by kernel_rfl
section
variable {R : Rest} {W0 W w : World} {p a k cur : Nat} {ids xs : List Int} {cl pub sn sc st : Int}
theorem snext_bad (h : SgC W p a k cur cl pub sn sc) (hk : k ≤ 20) (op : ByteArray) (n : Int) (hn : n < 1 ∨ two k < n) :
    Calls Tryz.prog 125 #[.pointer (some ⟨p, 0, none⟩), .string op, .int .i64 n] W fun e w' => ∃ q, e = .returned (.tuple #[.int .i64 0, Flt q]) ∧ Refused W w' (Flt q) 1 := by
  have c1 := h.c1
  clear h
  by_cases h1 : n < 1
  · have d1 : decide (n < 1) = true := decide_eq_true h1
    clear hn h1
    go_enter Tryz.func125, Tryz.ntmps125
    go_wp2_with (go_at_call 75; refine (wrap_q _ _ _).mono ?_; rintro e w1 ⟨q, rfl, hr⟩)
    go_ret2
    exact ⟨q, rfl, hr⟩
  · have h2 : two k < n := by omega
    have d1 : decide (n < 1) = false := decide_eq_false h1
    have d2 : decide (two k < n) = true := decide_eq_true h2
    clear hn h1 h2
    go_enter Tryz.func125, Tryz.ntmps125
    go_wp2_with (first
      | (go_at_call 51; refine (slots_any k hk _).mono ?_; rintro e w3 ⟨rfl, hw⟩; have HB := Lib.hid (slots_below hw); clear hw)
      | (go_at_call 75; refine (wrap_q _ _ _).mono ?_; rintro e w1 ⟨q, rfl, hr⟩; have HR := Lib.hid (hr.after HB.out); clear hr))
    go_ret2
    exact ⟨q, rfl, HR.out⟩
theorem gtry_bad (h : Sg R W0 W p a k cur ids cl pub sn sc xs st) (hk : k ≤ 20) (n : Int) (hn : n < 1 ∨ two k < n) :
    Calls Tryz.prog 82 #[.pointer (some ⟨p, 0, none⟩), .int .i64 n] W fun e w' => ∃ q, e = .returned (.tuple #[.agg tsZ, Flt q]) ∧ Refused W w' (Flt q) 1 := by
  have HNX : Hid (∀ (op : ByteArray) (ob : Obj), Calls Tryz.prog 125 #[.pointer (some ⟨p, 0, none⟩), .string op, .int .i64 n] (W.alloc ob) fun e w' => ∃ q, e = .returned (.tuple #[.int .i64 0, Flt q]) ∧ Refused (W.alloc ob) w' (Flt q) 1) := Lib.hid fun op ob => snext_bad (h.c.later (balloc (Below.refl _ _) ob)) hk op n hn
  have HBU : Hid (Tryz.prog.built 60 [] = some tsZ) := Lib.hid built_tsz
  have HSZ := Lib.hid tsZ_size
  have HON := Lib.hid tsZ_one
  have HI : Hid ((Tryz.prog.info? 60).map (·.size) = some tsZ.size) := Lib.hid (by rw [tsZ_size]; kernel_rfl)
  clear h hn
  generalize tsZ = cs at *
  go_enter Tryz.func82, Tryz.ntmps82
  go_wp2_with (first
    | (refine wpList_alloc_ts rfl rfl ?_; intro zs hz; have HZ := Lib.hid hz; have HG := Lib.hid (obj_new W (.cells zs 60)); clear hz)
    | (go_at_call 125; refine (HNX.out _ _).mono ?_; rintro e w1 ⟨q, rfl, hr⟩; have HG1 := Lib.hid ((hr.below.block _ (by simp)).trans HG.out); have HR := Lib.hid (Refused.box hr); clear hr)
    | (refine wpList_build0 rfl 60 rfl cs ?_ ?_; exact HBU.out)
    | (refine wpList_store_row rfl 60 (.tmp 4) (.tmp 17) rfl W.heap.size cs rfl rfl 60 _ HG1.out HI.out (by rw [HSZ.out]; exact HZ.out) HON.out ?_))
  exact bodyPost_ret (results_row_fault (p := 4) (u := 5) (by kernel_rfl) _ _ W.heap.size 60 cs (0, 0) _ _ rfl rfl (setRow_heap _ _ _ _ _ _ HG1.out) Tryz.underlying60 rfl HI.out) rfl ⟨_, rfl, HR.out.rowT (Nat.le_refl _) HG1.out (by decide) cs⟩
end
section
variable {R : Rest} {W0 W w : World} {Pd : Rest → World → Prop} {r g p : Nat} {i0 : Int}
set_option maxHeartbeats 1000000 in
set_option maxRecDepth 100000 in
theorem rclaim_out {n : Nat} {cap : Nat} {pp : Option Addr} (c3 : W.cell? ⟨r, 3, none⟩ = some (.slice pp n cap)) (hn : n ≤ 8) (id m : Int) (hid : id < 0 ∨ (n : Int) ≤ id) :
    Calls Tryz.prog 24 #[.pointer (some ⟨r, 0, none⟩), .int .i64 id, .int .i64 m] W fun e w' => ∃ q, e = .returned (.tuple #[.agg (clA false tsZ tyz), Flt q]) ∧ Refused W w' (Flt q) 3 := by
  have HB : Hid (Tryz.prog.built 66 [] = some (clA false tsZ tyz)) := Lib.hid (claz_cl ▸ built_claz)
  have HS : Hid (ClaZ (clA false tsZ tyz)) := Lib.hid (claz_cl ▸ claz_f)
  have HI := Lib.hid HS.out.info
  have HF : Hid (∀ (op : ByteArray) (ob : Obj), Calls Tryz.prog 69 #[.pointer (some ⟨r, 0, none⟩), .string op, .int .i64 id] (W.alloc ob) fun e w' => ∃ q, e = .returned (.tuple #[.pointer none, Flt q]) ∧ Refused (W.alloc ob) w' (Flt q) 3) := Lib.hid fun op ob => (rfind_out op (keepc (balloc (Below.refl _ _) ob) c3) hn id hid).mono fun e w' ⟨q, he, hn⟩ => ⟨q, he, q, rfl, hn.1, hn.2⟩
  clear c3 hid
  generalize clA false tsZ tyz = cs at *
  go_enter Tryz.func24, Tryz.ntmps24
  go_wp2_with (first
    | (refine wpList_alloc_cla rfl rfl ?_; intro zs hz; have HZ := Lib.hid hz; have HG := Lib.hid (obj_new W (.cells zs 66)); clear hz)
    | (go_at_call 69; refine (HF.out _ _).mono ?_; rintro e w1 ⟨q, rfl, hr⟩; have HG1 := Lib.hid ((hr.below.block _ (by simp)).trans HG.out); have HR := Lib.hid (Refused.box hr); clear hr)
    | (refine wpList_build0 rfl 66 rfl cs ?_ ?_; exact HB.out)
    | (refine wpList_store_row rfl 66 (.tmp 6) (.tmp 19) rfl W.heap.size cs rfl rfl 66 _ HG1.out HI.out (by rw [HS.out.size, HZ.out]) HS.out.one ?_))
  exact bodyPost_ret (results_row_fault (p := 6) (u := 7) (by kernel_rfl) _ _ W.heap.size 66 cs (0, 0) _ _ rfl rfl (setRow_heap _ _ _ _ _ _ HG1.out) Tryz.underlying66 rfl HI.out) rfl ⟨_, rfl, HR.out.rowT (Nat.le_refl _) HG1.out (by decide) cs⟩
set_option maxHeartbeats 2000000 in
set_option maxRecDepth 100000 in
theorem rclaim_bad_one {i0 : Nat} (hB : Bx W0 Pd) (hm : Pd R W) (n : Int)
    (hf : ∀ (op : ByteArray) (w : World), R.inv w → Calls Tryz.prog 69 #[.pointer (some ⟨r, 0, none⟩), .string op, .int .i64 i0] w fun e w' => e = .returned (.tuple #[.pointer (some ⟨g, 0, none⟩), .nilIface]) ∧ Below w.heap.size w w')
    (hg : ∀ w : World, R.inv w → w.cell? ⟨g, 1, none⟩ = some (.pointer (some ⟨p, 0, none⟩)) ∧ w.cell? ⟨g, 2, none⟩ = some (.pointer none))
    (hs : ∀ (R : Rest) (w : World), Pd R w → Calls Tryz.prog 82 #[.pointer (some ⟨p, 0, none⟩), .int .i64 n] w fun e w' => ∃ q, e = .returned (.tuple #[.agg tsZ, Flt q]) ∧ NewE w w' q 1) :
    Calls Tryz.prog 24 #[.pointer (some ⟨r, 0, none⟩), .int .i64 i0, .int .i64 n] W fun e w' => ∃ q, e = .returned (.tuple #[.agg (clA false tsZ tyz), Flt q]) ∧ Chain w' (Flt q) 2 1 ∧ Pd R w' := by
  have h2 : tyz.size = 40 := tyz_f.size
  have HBU := Lib.hid built_clf
  have HB0 : Hid (Tryz.prog.built 66 [] = some (clA false tsZ tyz)) := Lib.hid (claz_cl ▸ built_claz)
  have HC0 : Hid ((clA false tsZ tyz)[0]? = some (.bool false)) := Lib.hid clA_0
  have HPUT : Hid ((clA false tsZ tyz).toList.take 1 ++ tsZ.toList ++ (clA false tsZ tyz).toList.drop (1 + tsZ.toList.length) = (clA false tsZ tyz).toList) := Lib.hid (clA_put1 tsZ_size h2 tsZ_size)
  have HSZ1 := Lib.hid (clA_size (m := false) tsZ_size h2)
  have HON1 := Lib.hid (clA_one (m := false) tsZ_one tyz_f.one)
  have HCI1 := Lib.hid (clA_info (m := false) tsZ_size h2)
  have HU1 := Lib.hid tsZ_size
  have HU2 := Lib.hid tsZ_one
  have HUI := Lib.hid (one_info tsZ_size)
  have HB := Lib.hid hB
  have HM := Lib.hid hm
  have HF := Lib.hid hf
  have HG := Lib.hid hg
  have HS := Lib.hid hs
  generalize clA false tsZ tyz = cs at *
  generalize tsZ = u at *
  clear hB hm hf hg hs h2
  go_enter Tryz.func24, Tryz.ntmps24
  go_upto_region 4 with (first
    | (refine wpList_alloc_cl rfl rfl ?_; intro zs hz; have HZ := Lib.hid hz; have H1 := Lib.hid (HB.out.new zs 66 HM.out); generalize W.alloc (.cells zs 66) = w1 at *; generalize W.heap.size = b at *; clear hz)
    | (go_at_call 69; refine (HF.out _ _ (HB.out.inv H1.out).1).mono ?_; rintro e w2 ⟨rfl, hb⟩; have H2 := Lib.hid (HB.out.keep H1.out hb); clear hb))
  have g2 := (HG.out _ (HB.out.inv H2.out).1).2
  go_upto_region 5 with (first
    | (refine wpList_build1 rfl 66 0 (.tmp 25) rfl _ rfl cs ?_ ?_; exact HBU.out)
    | (refine wpList_alloc_cl rfl rfl ?_; intro ys hy; have HY := Lib.hid hy; have hn := HB.out.new ys 66 H2.out; have HA := Lib.hid (HB.out.is hn); have H3 := Lib.hid (HB.out.row hn cs); generalize w2.alloc (.cells ys 66) = w3 at *; generalize w2.heap.size = c at *; clear hy hn)
    | (refine wpList_store_row rfl 66 (.tmp 10) (.tmp 26) rfl c cs rfl rfl 66 _ HA.out HCI1.out (by rw [HSZ1.out]; exact HY.out) HON1.out ?_; generalize World.setRow _ c cs = w4 at *))
  have k0 := (obj_cell (HB.out.is H3.out) 0).trans HC0.out
  have g1 := (HG.out _ (HB.out.inv H3.out).1.1).1
  go_upto_region 8 with (first
    | (go_at_call 82; refine (HS.out _ _ H3.out).mono ?_; rintro e w5 ⟨q, rfl, hr⟩; have HCH := Lib.hid hr.1; have H5 := Lib.hid (HB.out.keep H3.out hr.2); clear k0 g1)
    | (refine wpList_store_mid rfl 60 (.tmp 48) (.tmp 46) rfl c 1 u rfl rfl (HB.out.there H5.out 1 u.size (by rw [HU1.out, HSZ1.out]; omega)) (by rw [HUI.out, Array.length_toList]) HU2.out ?_; have HC6 := Lib.hid (chain_frmG (frm_setCells u.toList 1 _ _ (Frm.refl (fun k => k = c) w5)) (not_fault (HB.out.is H5.out) (by decide)) HCH.out); have H6 := Lib.hid (HB.out.cells H5.out 1 u.toList (by rw [Array.length_toList, HU1.out, HSZ1.out]; omega) HPUT.out); generalize w5.setCells c 1 u.toList = w6 at *))
  have H7 := Lib.hid (HB.out.drop H6.out)
  clear H5 H6 HCH
  go_wp2_with (first
    | (refine wpList_build0 rfl 66 rfl cs ?_ ?_; exact HB0.out)
    | (go_at_call 75; refine (wrap_deep _ _ HC6.out).mono ?_; rintro e w7 ⟨q7, rfl, hc, hb⟩; have H8 := Lib.hid (HB.out.keep H7.out hb); have HC8 := Lib.hid hc; clear hb hc)
    | (refine wpList_store_row rfl 66 (.tmp 6) (.tmp 51) rfl b cs rfl rfl 66 _ (HB.out.is H8.out) HCI1.out (by rw [HSZ1.out]; exact HZ.out) HON1.out ?_))
  exact bodyPost_ret (results_row_fault (p := 6) (u := 7) (by kernel_rfl) _ _ b 66 cs (0, 0) _ _ rfl rfl (HB.out.is (HB.out.row H8.out cs)) Tryz.underlying66 rfl HCI1.out) rfl ⟨q7, rfl, chain_frmG ((Frm.refl (fun k => k = b) w7).setRow rfl cs) (not_fault (HB.out.is H8.out) (by decide)) HC8.out, HB.out.drop (HB.out.row H8.out cs)⟩
set_option maxHeartbeats 2000000 in
set_option maxRecDepth 100000 in
theorem rclaim_bad_all {i0 : Nat} (hB : Bx W0 Pd) (hm : Pd R W) (n : Int)
    (hf : ∀ (op : ByteArray) (w : World), R.inv w → Calls Tryz.prog 69 #[.pointer (some ⟨r, 0, none⟩), .string op, .int .i64 i0] w fun e w' => e = .returned (.tuple #[.pointer (some ⟨g, 0, none⟩), .nilIface]) ∧ Below w.heap.size w w')
    (hg : ∀ w : World, R.inv w → w.cell? ⟨g, 2, none⟩ = some (.pointer (some ⟨p, 0, none⟩)))
    (hs : ∀ (R : Rest) (w : World), Pd R w → Calls Tryz.prog 81 #[.pointer (some ⟨p, 0, none⟩), .int .i64 n] w fun e w' => ∃ u q, e = .returned (.tuple #[.agg u, Flt q]) ∧ TyZ u ∧ NewE w w' q 1) :
    Calls Tryz.prog 24 #[.pointer (some ⟨r, 0, none⟩), .int .i64 i0, .int .i64 n] W fun e w' => ∃ q, e = .returned (.tuple #[.agg (clA false tsZ tyz), Flt q]) ∧ Chain w' (Flt q) 2 1 ∧ Pd R w' := by
  have h2 : tyz.size = 40 := tyz_f.size
  have HBU := Lib.hid built_clt
  have HB0 : Hid (Tryz.prog.built 66 [] = some (clA false tsZ tyz)) := Lib.hid (claz_cl ▸ built_claz)
  have HC0 : Hid ((clA true tsZ tyz)[0]? = some (.bool true)) := Lib.hid clA_0
  have HPUT : Hid (∀ u : Array Value, u.size = 40 → (clA true tsZ tyz).toList.take 42 ++ u.toList ++ (clA true tsZ tyz).toList.drop (42 + u.toList.length) = (clA true tsZ u).toList) := Lib.hid fun u hu => clA_put2 tsZ_size h2 hu
  have HSZ1 := Lib.hid (clA_size (m := true) tsZ_size h2)
  have HON1 := Lib.hid (clA_one (m := true) tsZ_one tyz_f.one)
  have HCI1 := Lib.hid (clA_info (m := true) tsZ_size h2)
  have HSZ2 := Lib.hid (clA_size (m := false) tsZ_size h2)
  have HON2 := Lib.hid (clA_one (m := false) tsZ_one tyz_f.one)
  have HCI2 := Lib.hid (clA_info (m := false) tsZ_size h2)
  have HB := Lib.hid hB
  have HM := Lib.hid hm
  have HF := Lib.hid hf
  have HG := Lib.hid hg
  have HS := Lib.hid hs
  generalize clA false tsZ tyz = cz at *
  generalize clA true tsZ tyz = cs at *
  clear hB hm hf hg hs h2
  go_enter Tryz.func24, Tryz.ntmps24
  go_upto_region 4 with (first
    | (refine wpList_alloc_cl rfl rfl ?_; intro zs hz; have HZ := Lib.hid hz; have H1 := Lib.hid (HB.out.new zs 66 HM.out); generalize W.alloc (.cells zs 66) = w1 at *; generalize W.heap.size = b at *; clear hz)
    | (go_at_call 69; refine (HF.out _ _ (HB.out.inv H1.out).1).mono ?_; rintro e w2 ⟨rfl, hb⟩; have H2 := Lib.hid (HB.out.keep H1.out hb); clear hb))
  have g2 := HG.out _ (HB.out.inv H2.out).1
  go_upto_region 5 with (first
    | (refine wpList_build1 rfl 66 0 (.tmp 25) rfl _ rfl cs ?_ ?_; exact HBU.out)
    | (refine wpList_alloc_cl rfl rfl ?_; intro ys hy; have HY := Lib.hid hy; have hn := HB.out.new ys 66 H2.out; have HA := Lib.hid (HB.out.is hn); have H3 := Lib.hid (HB.out.row hn cs); generalize w2.alloc (.cells ys 66) = w3 at *; generalize w2.heap.size = c at *; clear hy hn)
    | (refine wpList_store_row rfl 66 (.tmp 10) (.tmp 26) rfl c cs rfl rfl 66 _ HA.out HCI1.out (by rw [HSZ1.out]; exact HY.out) HON1.out ?_; generalize World.setRow _ c cs = w4 at *))
  have k0 := (obj_cell (HB.out.is H3.out) 0).trans HC0.out
  have g1 := HG.out _ (HB.out.inv H3.out).1.1
  go_upto_region 8 with (first
    | (go_at_call 81; refine (HS.out _ _ H3.out).mono ?_; rintro e w5 ⟨u, q, rfl, hz, hr⟩; have HU1 := Lib.hid hz.size; have HU2 := Lib.hid hz.one; have HUI := Lib.hid (all_info hz.size); have HCH := Lib.hid hr.1; have H5 := Lib.hid (HB.out.keep H3.out hr.2); clear hz k0 g1)
    | (refine wpList_store_mid rfl 64 (.tmp 38) (.tmp 36) rfl c 42 u rfl rfl (HB.out.there H5.out 42 u.size (by rw [HU1.out, HSZ1.out]; omega)) (by rw [HUI.out, Array.length_toList]) HU2.out ?_; have HC6 := Lib.hid (chain_frmG (frm_setCells u.toList 42 _ _ (Frm.refl (fun k => k = c) w5)) (not_fault (HB.out.is H5.out) (by decide)) HCH.out); have H6 := Lib.hid (HB.out.cells H5.out 42 u.toList (by rw [Array.length_toList, HU1.out, HSZ1.out]; omega) (HPUT.out u HU1.out)); generalize w5.setCells c 42 u.toList = w6 at *))
  have H7 := Lib.hid (HB.out.drop H6.out)
  clear H5 H6 HCH
  go_wp2_with (first
    | (refine wpList_build0 rfl 66 rfl cz ?_ ?_; exact HB0.out)
    | (go_at_call 75; refine (wrap_deep _ _ HC6.out).mono ?_; rintro e w7 ⟨q7, rfl, hc, hb⟩; have H8 := Lib.hid (HB.out.keep H7.out hb); have HC8 := Lib.hid hc; clear hb hc)
    | (refine wpList_store_row rfl 66 (.tmp 6) (.tmp 51) rfl b cz rfl rfl 66 _ (HB.out.is H8.out) HCI2.out (by rw [HSZ2.out]; exact HZ.out) HON2.out ?_))
  exact bodyPost_ret (results_row_fault (p := 6) (u := 7) (by kernel_rfl) _ _ b 66 cz (0, 0) _ _ rfl rfl (HB.out.is (HB.out.row H8.out cz)) Tryz.underlying66 rfl HCI2.out) rfl ⟨q7, rfl, chain_frmG ((Frm.refl (fun k => k = b) w7).setRow rfl cz) (not_fault (HB.out.is H8.out) (by decide)) HC8.out, HB.out.drop (HB.out.row H8.out cz)⟩
end
end Go.Proofs.YtdfcfdcekdmcmaaGreat
