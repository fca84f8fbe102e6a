/-
  FaultNests: the walk. Condition: the links are read as a list; the library's own two variables hold what they hold from the start.
-/
import Derived.Test.YtekligmejngkaaaDoorLaw2
namespace Go.Proofs.YtekligmejngkaaaDoor
open Go.RowKit Go.Extern.Stop Go.Stop Go.Extern

theorem smallB_len {l : List (ByteArray × Int)} (h : smallB l = true) : l.length ≤ 50 := by
  unfold smallB at h
  rw [Bool.and_eq_true] at h
  simpa using h.1

set_option maxRecDepth 100000 in
set_option maxHeartbeats 2000000 in
theorem nests_nil (v : Value) (l : List (ByteArray × Int)) (n : Int) (op : ByteArray) (seq : Int) (hl : l = []) (h0 : 0 ≤ n) (h1 : n ≤ 255) (hop : op.size ≤ 100) (hsm : smallB l = true) (W : World) (hL : Links W v l) (hg : Glob W) (ht : Tab W) :
    Calls Tryd.prog 5 #[v, .int .u8 n, .string op, .int .i64 seq] W fun e w' => e = .returned (.bool true) ∧ Below W.heap.size W w' := by
  have hlen := smallB_len hsm
  have HLE := Lib.hid hl
  clear hl
  have HL := Lib.hid hL
  have HG := Lib.hid hg
  have HT := Lib.hid ht
  have HS := Lib.hid hsm
  obtain ⟨aa, cap, rfl⟩ := hL.slice
  clear hL hg ht hsm
  go_enter Tryd.func5, Tryd.ntmps5
  go_wp2_with fail
  refine (small_any _ l HL.out (by omega)).mono ?_
  rw [HS.out]
  rintro e w1 ⟨rfl, hb1⟩
  go_wp2_with fail
  refine (chain_any _ l _ (HL.out.keep hb1) hlen).mono ?_
  rintro e w2 ⟨E, rfl, hE, hb2⟩
  have hx2 := bthen hb1 hb2
  have HE := Lib.hid hE
  obtain ⟨u, x, rfl⟩ := hE.chain.iface
  clear hE hb1 hb2
  go_wp2_with fail
  refine (wrap_iface _ _ _ _).mono ?_
  rintro e w3 ⟨rfl, hw3⟩
  have hb3 : Below w2.heap.size w2 w3 := hw3 ▸ balloc (Below.refl _ _) _
  have hF0 : w3.heap[w2.heap.size]? = some (.cells #[.string op, .int .i64 seq, .iface u x] 40 (0, 0)) := hw3 ▸ heap_at _ _ _ rfl
  have HCE := Lib.hid (HE.out.keep hb3)
  have HCF := Lib.hid (ChainL.fault _ op seq _ l _ hF0 HCE.out)
  have hx3 := bthen hx2 hb3
  have HG3 := Lib.hid (HG.out.keep hx3)
  have HT3 := Lib.hid (HT.out.keep hx3)
  have HF0 := Lib.hid hF0
  clear hw3 hb3 hF0 hx2
  go_wp2_with fail
  refine (As_fault ⟨w2.heap.size, 0, none⟩ w3.heap.size (.pointer none) (up_cell HG3.out) (new_cell rfl) (new_frozen rfl)).mono ?_
  rintro e w5 ⟨rfl, w5', hb5', hw5⟩
  have hp5 : Put (w3.alloc (.cells #[.pointer none] 36)) w3.heap.size (.pointer (some ⟨w2.heap.size, 0, none⟩)) w5 := hw5 ▸ put_set hb5' (new_cell rfl) (new_frozen rfl) _
  have hb5 : Below w3.heap.size w3 w5 := put_from hp5 (balloc (Below.refl _ _) _) (Nat.le_refl _)
  have hc5 := hp5.2.2.1
  have hop5 : w5.cell? ⟨w2.heap.size, 0, none⟩ = some (.string op) := keepc hb5 (heap_cell HF0.out 0)
  have hse5 : w5.cell? ⟨w2.heap.size, 1, none⟩ = some (.int .i64 seq) := keepc hb5 (heap_cell HF0.out 1)
  have hun5 : w5.cell? ⟨w2.heap.size, 2, none⟩ = some (.iface u x) := keepc hb5 (heap_cell HF0.out 2)
  clear hw5 hb5' hp5
  go_wp2_with fail
  refine (unwrap_any w2.heap.size _ _ hun5).mono ?_
  rintro e w5x ⟨rfl, rfl⟩
  go_wp2_with fail
  refine (at_nil _ l _ (HCE.out.keep hb5) (by omega) (HG3.out.keep hb5) HLE.out).mono ?_
  rintro e w6 ⟨rfl, hb6⟩
  have hy6 := bthen hb5 hb6
  go_wp2_with fail
  refine (at_nil _ l _ (HCE.out.keep hy6) (by omega) (HG3.out.keep hy6) HLE.out).mono ?_
  rintro e w7 ⟨rfl, hb7⟩
  have hy7 := bthen hy6 hb7
  go_wp2_with fail
  refine (at_last _ _ _ (HCF.out.keep hy7) (by simp; omega) (HG3.out.keep hy7) [] op seq (by rw [HLE.out]; rfl)).mono ?_
  rintro e w8 ⟨rfl, hb8⟩
  have hy8 := bthen hy7 hb8
  have hc8 := keepc hb8 (keepc hb7 (keepc hb6 hc5))
  clear hc5 hop5 hse5 hun5
  go_wp2_with fail
  refine (awake1 (HG3.out.keep hy8) (HT3.out.keep hy8)).mono ?_
  rintro e w9 ⟨rfl, hb9⟩
  have hy9 := bthen hy8 hb9
  go_wp2_with fail
  refine (code_chain _ (l.length + 1) _ (HCF.out.keep hy9).chain (by omega) (HG3.out.keep hy9)).mono ?_
  rintro e w10 ⟨rfl, hb10⟩
  have hy10 := bthen hy9 hb10
  go_wp2_with fail
  refine (code_chain _ l.length _ (HCE.out.keep hy10).chain (by omega) (HG3.out.keep hy10)).mono ?_
  rintro e w11 ⟨rfl, hb11⟩
  have hy11 := bthen hy10 hb11
  go_wp2_with fail
  refine (deep_list _ _ _ (HCF.out.keep hy11) (by simp; omega) (HG3.out.keep hy11)).mono ?_
  rintro e w12 ⟨rfl, hb12⟩
  have hy12 := bthen hy11 hb12
  go_wp2_with fail
  refine (deep_list _ _ _ (HCE.out.keep hy12) (by omega) (HG3.out.keep hy12)).mono ?_
  rintro e w13 ⟨rfl, hb13⟩
  have hy13 := bthen hy12 hb13
  have hc13 := keepc hb13 (keepc hb12 (keepc hb11 (keepc hb10 (keepc hb9 hc8))))
  clear hc8
  go_wp2_with fail
  refine (unwrap_any w2.heap.size _ _ (keepc hy13 (heap_cell HF0.out 2))).mono ?_
  rintro e w13x ⟨rfl, rfl⟩
  go_wp2_with fail
  refine (deep_list _ _ _ (HCE.out.keep hy13) (by omega) (HG3.out.keep hy13)).mono ?_
  rintro e w14 ⟨rfl, hb14⟩
  have hy14 := bthen hy13 hb14
  go_wp2_with fail
  refine (deep_list _ _ _ (HCE.out.keep hy14) (by omega) (HG3.out.keep hy14)).mono ?_
  rintro e w15 ⟨rfl, hb15⟩
  go_wp2
  go_ret
  exact ⟨rfl, bthen hx3 (bthen hy14 hb15)⟩

set_option maxRecDepth 100000 in
set_option maxHeartbeats 2000000 in
theorem nests_last (v : Value) (l : List (ByteArray × Int)) (n : Int) (op : ByteArray) (seq : Int) (p : List (ByteArray × Int)) (o : ByteArray) (s : Int) (hl : l = p ++ [(o, s)]) (h0 : 0 ≤ n) (h1 : n ≤ 255) (hop : op.size ≤ 100) (hsm : smallB l = true) (W : World) (hL : Links W v l) (hg : Glob W) (ht : Tab W) :
    Calls Tryd.prog 5 #[v, .int .u8 n, .string op, .int .i64 seq] W fun e w' => e = .returned (.bool true) ∧ Below W.heap.size W w' := by
  have hlen := smallB_len hsm
  have HLE := Lib.hid hl
  clear hl
  have HL := Lib.hid hL
  have HG := Lib.hid hg
  have HT := Lib.hid ht
  have HS := Lib.hid hsm
  obtain ⟨aa, cap, rfl⟩ := hL.slice
  clear hL hg ht hsm
  go_enter Tryd.func5, Tryd.ntmps5
  go_wp2_with fail
  refine (small_any _ l HL.out (by omega)).mono ?_
  rw [HS.out]
  rintro e w1 ⟨rfl, hb1⟩
  go_wp2_with fail
  refine (chain_any _ l _ (HL.out.keep hb1) hlen).mono ?_
  rintro e w2 ⟨E, rfl, hE, hb2⟩
  have hx2 := bthen hb1 hb2
  have HE := Lib.hid hE
  obtain ⟨u, x, rfl⟩ := hE.chain.iface
  clear hE hb1 hb2
  go_wp2_with fail
  refine (wrap_iface _ _ _ _).mono ?_
  rintro e w3 ⟨rfl, hw3⟩
  have hb3 : Below w2.heap.size w2 w3 := hw3 ▸ balloc (Below.refl _ _) _
  have hF0 : w3.heap[w2.heap.size]? = some (.cells #[.string op, .int .i64 seq, .iface u x] 40 (0, 0)) := hw3 ▸ heap_at _ _ _ rfl
  have HCE := Lib.hid (HE.out.keep hb3)
  have HCF := Lib.hid (ChainL.fault _ op seq _ l _ hF0 HCE.out)
  have hx3 := bthen hx2 hb3
  have HG3 := Lib.hid (HG.out.keep hx3)
  have HT3 := Lib.hid (HT.out.keep hx3)
  have HF0 := Lib.hid hF0
  clear hw3 hb3 hF0 hx2
  go_wp2_with fail
  refine (As_fault ⟨w2.heap.size, 0, none⟩ w3.heap.size (.pointer none) (up_cell HG3.out) (new_cell rfl) (new_frozen rfl)).mono ?_
  rintro e w5 ⟨rfl, w5', hb5', hw5⟩
  have hp5 : Put (w3.alloc (.cells #[.pointer none] 36)) w3.heap.size (.pointer (some ⟨w2.heap.size, 0, none⟩)) w5 := hw5 ▸ put_set hb5' (new_cell rfl) (new_frozen rfl) _
  have hb5 : Below w3.heap.size w3 w5 := put_from hp5 (balloc (Below.refl _ _) _) (Nat.le_refl _)
  have hc5 := hp5.2.2.1
  have hop5 : w5.cell? ⟨w2.heap.size, 0, none⟩ = some (.string op) := keepc hb5 (heap_cell HF0.out 0)
  have hse5 : w5.cell? ⟨w2.heap.size, 1, none⟩ = some (.int .i64 seq) := keepc hb5 (heap_cell HF0.out 1)
  have hun5 : w5.cell? ⟨w2.heap.size, 2, none⟩ = some (.iface u x) := keepc hb5 (heap_cell HF0.out 2)
  clear hw5 hb5' hp5
  go_wp2_with fail
  refine (unwrap_any w2.heap.size _ _ hun5).mono ?_
  rintro e w5x ⟨rfl, rfl⟩
  go_wp2_with fail
  refine (at_last _ l _ (HCE.out.keep hb5) (by omega) (HG3.out.keep hb5) p o s HLE.out).mono ?_
  rintro e w6 ⟨rfl, hb6⟩
  have hy6 := bthen hb5 hb6
  go_wp2_with fail
  refine (at_last _ l _ (HCE.out.keep hy6) (by omega) (HG3.out.keep hy6) p o s HLE.out).mono ?_
  rintro e w7 ⟨rfl, hb7⟩
  have hy7 := bthen hy6 hb7
  go_wp2_with fail
  refine (at_last _ _ _ (HCF.out.keep hy7) (by simp; omega) (HG3.out.keep hy7) ((op, seq) :: p) o s (by rw [HLE.out]; rfl)).mono ?_
  rintro e w8 ⟨rfl, hb8⟩
  have hy8 := bthen hy7 hb8
  have hc8 := keepc hb8 (keepc hb7 (keepc hb6 hc5))
  clear hc5 hop5 hse5 hun5
  go_wp2_with fail
  refine (awake1 (HG3.out.keep hy8) (HT3.out.keep hy8)).mono ?_
  rintro e w9 ⟨rfl, hb9⟩
  have hy9 := bthen hy8 hb9
  go_wp2_with fail
  refine (code_chain _ (l.length + 1) _ (HCF.out.keep hy9).chain (by omega) (HG3.out.keep hy9)).mono ?_
  rintro e w10 ⟨rfl, hb10⟩
  have hy10 := bthen hy9 hb10
  go_wp2_with fail
  refine (code_chain _ l.length _ (HCE.out.keep hy10).chain (by omega) (HG3.out.keep hy10)).mono ?_
  rintro e w11 ⟨rfl, hb11⟩
  have hy11 := bthen hy10 hb11
  go_wp2_with fail
  refine (deep_list _ _ _ (HCF.out.keep hy11) (by simp; omega) (HG3.out.keep hy11)).mono ?_
  rintro e w12 ⟨rfl, hb12⟩
  have hy12 := bthen hy11 hb12
  go_wp2_with fail
  refine (deep_list _ _ _ (HCE.out.keep hy12) (by omega) (HG3.out.keep hy12)).mono ?_
  rintro e w13 ⟨rfl, hb13⟩
  have hy13 := bthen hy12 hb13
  have hc13 := keepc hb13 (keepc hb12 (keepc hb11 (keepc hb10 (keepc hb9 hc8))))
  clear hc8
  go_wp2_with fail
  refine (unwrap_any w2.heap.size _ _ (keepc hy13 (heap_cell HF0.out 2))).mono ?_
  rintro e w13x ⟨rfl, rfl⟩
  go_wp2_with fail
  refine (deep_list _ _ _ (HCE.out.keep hy13) (by omega) (HG3.out.keep hy13)).mono ?_
  rintro e w14 ⟨rfl, hb14⟩
  have hy14 := bthen hy13 hb14
  go_wp2_with fail
  refine (deep_list _ _ _ (HCE.out.keep hy14) (by omega) (HG3.out.keep hy14)).mono ?_
  rintro e w15 ⟨rfl, hb15⟩
  go_wp2
  go_ret
  exact ⟨rfl, bthen hx3 (bthen hy14 hb15)⟩
end Go.Proofs.YtekligmejngkaaaDoor
