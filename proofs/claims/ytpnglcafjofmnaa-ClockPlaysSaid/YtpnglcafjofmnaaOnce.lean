/-
  ClockOnce: the walk. Condition: the ticks are read as a row of bytes.
-/
import Derived.Test.YtpnglcafjofmnaaCClone
import Derived.LoopTactic
namespace Go.Proofs.Ytpnglcafjofmnaa
open Go.RowKit

theorem waiting_one (W : World) (b : Nat) (v : Value) (t : Int × Int) (now : Int) (h : Ck W b v [t] now) : Calls Try.prog 32 #[.pointer (some ⟨b, 0, none⟩)] W fun e w' => e = .returned (.int .i64 1) ∧ W = w' := waiting_some W b v [t] now h
theorem waiting_zero (W : World) (b : Nat) (v : Value) (now : Int) (h : Ck W b v [] now) : Calls Try.prog 32 #[.pointer (some ⟨b, 0, none⟩)] W fun e w' => e = .returned (.int .i64 0) ∧ W = w' := waiting_some W b v [] now h

/-- What holds at the head of a round: who waits is woken once, by the first tick that comes to the time. -/
def RelO (W w3 : World) (bc : Nat) (v2 : Value) (t : Int × Int) (n : Nat) (nowV wok i : Value) (wl : World) : Prop :=
  ∃ (k : Nat) (now : Int), k ≤ n ∧ i = .int .i64 k ∧ nowV = .int .i64 now ∧ 0 ≤ now ∧ now ≤ 256 * (k : Int) ∧ Below W.heap.size W wl ∧ Frm (fun q => q = bc ∨ v2.ownBlock = some q) w3 wl ∧
    ((now < t.1 ∧ wok = .int .i64 0 ∧ ∃ v, Ck wl bc v [t] now ∧ v.ownBlock = v2.ownBlock) ∨ (t.1 ≤ now ∧ wok = .int .i64 1 ∧ ∃ v, Ck wl bc v [] now ∧ v.ownBlock = v2.ownBlock))

theorem Ticked.frm {w3 wl w5 : World} {bc : Nat} {v v2 : Value} {ts : List (Int × Int)} {now : Int} (h : Ticked wl w5 bc v ts now) (hv : v.ownBlock = v2.ownBlock) (hf : Frm (fun q => q = bc ∨ v2.ownBlock = some q) w3 wl) : Frm (fun q => q = bc ∨ v2.ownBlock = some q) w3 w5 := by
  obtain ⟨_, _, _, hf5⟩ := h
  exact hf.then hf5 fun k _ e => by rw [← hv]; exact e

set_option maxRecDepth 100000 in
set_option maxHeartbeats 4000000 in
theorem once_walk (W : World) (t : Int × Int) (wh : Int) (n cap : Nat) (p : Option Addr) (z : Nat → Int) (h1 : 1 ≤ t.1) (h2 : t.1 ≤ 2000) (hw0 : 0 ≤ wh) (hw1 : wh ≤ 255) (hw : wh % 64 = t.2) (hn : n ≤ 60)
    (hc : n = 0 ∨ ∃ b off, p = some ⟨b, off, none⟩ ∧ ∀ j, j < n → W.cell? ⟨b, off + j, none⟩ = some (.int .u8 (z j)) ∧ 0 ≤ z j ∧ z j ≤ 255) :
    Calls Try.prog 7 #[.int .i64 t.1, .int .u8 wh, .slice p n cap] W fun e w' => e = .returned (.bool true) ∧ Below W.heap.size W w' := by
  have HC := Lib.hid hc
  have HW := Lib.hid hw
  have ht0 : 0 ≤ t.2 := by omega
  have ht1 : t.2 < 64 := by omega
  clear hc hw
  go_enter Try.func7, Try.ntmps7
  go_wp2_with fail
  rw [HW.out]
  refine (set_empty _ W.heap.size t ⟨obj_new W _, World.ownsRow_nil _ _ _ _⟩ h1 (by omega) ht0 ht1).mono ?_
  rintro e w2 ⟨v2, rfl, hk2, hg2, hf2⟩
  have hb2 : Below W.heap.size W w2 := (balloc (Below.refl _ _) _).trans (hf2.below (by simp) fun k h => by omega)
  have ho2 : ∀ g, v2.ownBlock = some g → W.heap.size ≤ g := fun g hg => by have := hg2 g hg; simp at this; omega
  have HB2 := Lib.hid hb2
  have HO2 := Lib.hid ho2
  have HK2 := Lib.hid hk2
  clear hg2 hf2 hb2 ho2 hk2
  go_wp2_with fail
  refine (cclone_some w2 W.heap.size v2 [t] 0 HK2.out (by simp)).mono ?_
  rintro e w3 ⟨bd, vd, rfl, hkd, hbd, hld, hgd⟩
  have HS := Lib.hid (show RelO W w3 W.heap.size v2 t n (.int .i64 0) (.int .i64 0) (.int .i64 0) w3 from ⟨0, 0, Nat.zero_le _, rfl, rfl, Int.le_refl _, by decide, bthen HB2.out hbd, Frm.refl _ _, Or.inl ⟨by omega, rfl, v2, HK2.out.keepB hbd, rfl⟩⟩)
  have HKD := Lib.hid hkd
  have hbc : W.heap.size < w2.heap.size := lt_of_block HK2.out.1
  have hne : bd ≠ W.heap.size := by omega
  have HND : Hid (∀ q, (q = W.heap.size ∨ v2.ownBlock = some q) → q < w2.heap.size) := fun q h => by
    rcases h with rfl | h
    · exact hbc
    · exact row_lt HK2.out.2 h
  have HLD := Lib.hid hld
  have HGD := Lib.hid hgd
  clear hkd hbd hgd hld
  go_wp2_with fail
  generalize hbcn : W.heap.size = bc at *
  have HBC := Lib.hid hbcn
  clear hbcn
  go_loopw [10, 11, 43] (fun nowV wok i wl => RelO W w3 bc v2 t n nowV wok i wl) (fun _ _ i _ => n - (intOf i).toNat)
  case atStart => exact HS.out
  case round =>
    obtain ⟨k, now, hk, rfl, rfl, hn0, hn1, hb, hf, hst⟩ := hrel
    have HB := Lib.hid hb
    have HF := Lib.hid hf
    clear hb hf
    by_cases hlt : k < n
    · obtain ⟨b, off, rfl, hcell⟩ := HC.out.resolve_left (by omega)
      obtain ⟨hz, hz0, hz1⟩ := hcell k hlt
      have q0 := keepc HB.out hz
      generalize z k = x at q0 hz0 hz1
      clear hcell hz
      rcases hst with ⟨hlo, rfl, v, hck, hv⟩ | ⟨hhi, rfl, v, hck, hv⟩
      · have HK := Lib.hid hck
        have HV := Lib.hid hv
        clear hck hv
        by_cases hx : now + (x + 1) < t.1
        · go_wp2_with (go_at_call 28; refine (tick_one_no _ bc v t now (x + 1) HK.out (by omega) hn0 (by omega) hx).mono ?_; rintro e w5 ⟨q5, c5, rfl, ht5⟩; have HT5 := Lib.hid ht5; clear ht5)
          exact ⟨⟨k + 1, now + (x + 1), by omega, by go_num, rfl, by omega, by omega, HT5.out.under HB.out (by have := HBC.out; omega) (fun g hg => by have := HBC.out; have := HO2.out g (HV.out ▸ hg); omega), HT5.out.frm HV.out HF.out, Or.inl ⟨hx, rfl, by
            obtain ⟨v5, hk5, hv5, _⟩ := HT5.out
            exact ⟨v5, hk5, hv5.trans HV.out⟩⟩⟩, by simp [intOf]; omega⟩
        · have hx' : t.1 ≤ now + (x + 1) := by omega
          clear hx
          go_wp2_with (go_at_call 28; refine (tick_one_yes _ bc v t now (x + 1) HK.out (by omega) hn0 (by omega) hx').mono ?_; rintro e w5 ⟨g5, c5, rfl, hc5, ht5⟩; have HT5 := Lib.hid ht5; clear ht5)
          exact ⟨⟨k + 1, now + (x + 1), by omega, by go_num, rfl, by omega, by omega, HT5.out.under HB.out (by have := HBC.out; omega) (fun g hg => by have := HBC.out; have := HO2.out g (HV.out ▸ hg); omega), HT5.out.frm HV.out HF.out, Or.inr ⟨hx', rfl, by
            obtain ⟨v5, hk5, hv5, _⟩ := HT5.out
            exact ⟨v5, hk5, hv5.trans HV.out⟩⟩⟩, by simp [intOf]; omega⟩
      · have HK := Lib.hid hck
        have HV := Lib.hid hv
        clear hck hv
        go_wp2_with (go_at_call 28; refine (tick_zero _ bc v now (x + 1) HK.out (by omega) hn0 (by omega)).mono ?_; rintro e w5 ⟨q5, c5, rfl, ht5⟩; have HT5 := Lib.hid ht5; clear ht5)
        exact ⟨⟨k + 1, now + (x + 1), by omega, by go_num, rfl, by omega, by omega, HT5.out.under HB.out (by have := HBC.out; omega) (fun g hg => by have := HBC.out; have := HO2.out g (HV.out ▸ hg); omega), HT5.out.frm HV.out HF.out, Or.inr ⟨by omega, rfl, by
            obtain ⟨v5, hk5, hv5, _⟩ := HT5.out
            exact ⟨v5, hk5, hv5.trans HV.out⟩⟩⟩, by simp [intOf]; omega⟩
    · obtain rfl : k = n := by omega
      clear hlt
      have HKW := Lib.hid (HKD.out.keep HF.out (fun h => by have := HND.out bd h; have := HLD.out; omega) (fun g hg h => by have := HND.out g h; have := HGD.out g hg; omega))
      rcases hst with ⟨hlo, rfl, v, hck, hv⟩ | ⟨hhi, rfl, v, hck, hv⟩
      · have HK := Lib.hid hck
        clear hck hv
        go_wp2_with (first
          | (go_at_call_of 31 (Value.pointer (some ⟨bd, 0, none⟩)); refine (now_some _ bd vd [t] 0 HKW.out).mono ?_; rintro e w6 ⟨rfl, rfl⟩)
          | (go_at_call_of 32 (Value.pointer (some ⟨bd, 0, none⟩)); refine (waiting_one _ bd vd t 0 HKW.out).mono ?_; rintro e w6 ⟨rfl, rfl⟩)
          | (go_at_call_of 32 (Value.pointer (some ⟨bc, 0, none⟩)); refine (waiting_one _ bc v t now HK.out).mono ?_; rintro e w6 ⟨rfl, rfl⟩)
          | (go_at_call 28; refine (tick_nil _ _).mono ?_; rintro e w7 ⟨b7, rfl, hc7, hb7⟩; have HC7 := Lib.hid hc7; have HB7 := Lib.hid (bthen HB.out hb7); clear hc7 hb7)
          | (go_at_call 22; refine (awake4 _).mono ?_; rintro e w8 ⟨rfl, hb8⟩; have HC8 := Lib.hid (HC7.out.keep hb8); have HB8 := Lib.hid (bthen HB7.out hb8); clear hb8)
          | (go_at_call_of 21 (Value.iface 131 (.pointer (some ⟨b7, 0, none⟩))); refine (isN_chain 2 _ 1 2 HC8.out (by decide)).mono ?_; rintro e w9 ⟨rfl, rfl⟩)
          | (go_at_call 24; refine (set_nil _ _ _).mono ?_; rintro e w9 ⟨b9, rfl, hc9, hb9⟩; have HC9 := Lib.hid hc9; have HB9 := Lib.hid (bthen HB8.out hb9); clear hc9 hb9)
          | (go_at_call 21; refine (isN_chain 2 _ 1 2 HC9.out (by decide)).mono ?_; rintro e w10 ⟨rfl, rfl⟩)
          | (go_at_call 26; refine (drop_nil _ _).mono ?_; rintro e w10 ⟨rfl, hb10⟩; have HB10 := Lib.hid (bthen HB9.out hb10); clear hb10)
          | (go_at_call_of 31 (Value.pointer none); refine (now_nil _).mono ?_; rintro e w11 ⟨rfl, rfl⟩)
          | (go_at_call_of 32 (Value.pointer none); refine (waiting_nil _).mono ?_; rintro e w11 ⟨rfl, rfl⟩)
          | (go_at_call_of 33 (Value.pointer none); refine (cclone_nil _).mono ?_; rintro e w11 ⟨rfl, rfl⟩))
        go_ret
        exact ⟨rfl, HB10.out⟩
      · have HK := Lib.hid hck
        clear hck hv
        go_wp2_with (first
          | (go_at_call_of 31 (Value.pointer (some ⟨bd, 0, none⟩)); refine (now_some _ bd vd [t] 0 HKW.out).mono ?_; rintro e w6 ⟨rfl, rfl⟩)
          | (go_at_call_of 32 (Value.pointer (some ⟨bd, 0, none⟩)); refine (waiting_one _ bd vd t 0 HKW.out).mono ?_; rintro e w6 ⟨rfl, rfl⟩)
          | (go_at_call_of 32 (Value.pointer (some ⟨bc, 0, none⟩)); refine (waiting_zero _ bc v now HK.out).mono ?_; rintro e w6 ⟨rfl, rfl⟩)
          | (go_at_call 28; refine (tick_nil _ _).mono ?_; rintro e w7 ⟨b7, rfl, hc7, hb7⟩; have HC7 := Lib.hid hc7; have HB7 := Lib.hid (bthen HB.out hb7); clear hc7 hb7)
          | (go_at_call 22; refine (awake4 _).mono ?_; rintro e w8 ⟨rfl, hb8⟩; have HC8 := Lib.hid (HC7.out.keep hb8); have HB8 := Lib.hid (bthen HB7.out hb8); clear hb8)
          | (go_at_call_of 21 (Value.iface 131 (.pointer (some ⟨b7, 0, none⟩))); refine (isN_chain 2 _ 1 2 HC8.out (by decide)).mono ?_; rintro e w9 ⟨rfl, rfl⟩)
          | (go_at_call 24; refine (set_nil _ _ _).mono ?_; rintro e w9 ⟨b9, rfl, hc9, hb9⟩; have HC9 := Lib.hid hc9; have HB9 := Lib.hid (bthen HB8.out hb9); clear hc9 hb9)
          | (go_at_call 21; refine (isN_chain 2 _ 1 2 HC9.out (by decide)).mono ?_; rintro e w10 ⟨rfl, rfl⟩)
          | (go_at_call 26; refine (drop_nil _ _).mono ?_; rintro e w10 ⟨rfl, hb10⟩; have HB10 := Lib.hid (bthen HB9.out hb10); clear hb10)
          | (go_at_call_of 31 (Value.pointer none); refine (now_nil _).mono ?_; rintro e w11 ⟨rfl, rfl⟩)
          | (go_at_call_of 32 (Value.pointer none); refine (waiting_nil _).mono ?_; rintro e w11 ⟨rfl, rfl⟩)
          | (go_at_call_of 33 (Value.pointer none); refine (cclone_nil _).mono ?_; rintro e w11 ⟨rfl, rfl⟩))
        go_ret
        exact ⟨rfl, HB10.out⟩
end Go.Proofs.Ytpnglcafjofmnaa
