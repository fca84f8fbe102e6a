/-
  slices.Insert of one timer, wherever; Set of package clock, by contract. Conditions: the row is the call's own; at most 2^20 timers.
-/
import Derived.Test.YtpnglcafjofmnaaInsert2
namespace Go.Proofs.Ytpnglcafjofmnaa
open Go.RowKit

theorem one_news {W : World} {q : Nat} {t : Int × Int} (h : W.heap[q]? = some (.cells #[.int .i64 t.1, .int .i64 t.2] 117 (0, 0))) : ∀ j u, (flat [t])[j]? = some u → W.cell? ((⟨q, 0, none⟩ : Addr).add j) = some u := by
  intro j u hu
  have e : ((⟨q, 0, none⟩ : Addr).add j) = ⟨q, j, none⟩ := by unfold Addr.add; split <;> simp_all
  rw [e, obj_cell h]
  rcases j with _ | _ | j
  · simpa [flat] using hu
  · simpa [flat] using hu
  · simp [flat] at hu

theorem end_end {W w3 : World} {g n cap : Nat} {p' : Option Addr} {c' : Nat} {ts : List (Int × Int)} {t : Int × Int} (hn : n = ts.length) (ho : w3.ownsRow 0 117 2 (.slice p' (n + 1) c') (n + 1) (flat ts ++ flat [t])) (hf : Frm (fun k => (Value.slice (some ⟨g, 0, none⟩) n cap).ownBlock = some k) W w3)
    (hv : (Value.slice p' (n + 1) c').ownBlock = (Value.slice (some ⟨g, 0, none⟩) n cap).ownBlock ∨ ∀ k, (Value.slice p' (n + 1) c').ownBlock = some k → W.heap.size ≤ k) : Put1 W w3 (.slice (some ⟨g, 0, none⟩) n cap) (ts ++ [t]) (.returned (.slice p' (n + 1) c')) := by
  have hl : (ts ++ [t]).length = n + 1 := by rw [List.length_append, hn]; rfl
  exact ⟨p', c', by rw [hl], by rw [hl, flat_append]; exact ho, hf, by rw [hl]; exact hv⟩

set_option maxHeartbeats 1000000 in
set_option maxRecDepth 100000 in
theorem insert_end (W : World) (g cap q n : Nat) (ts : List (Int × Int)) (t : Int × Int) (hnl : n = ts.length) (hc : n ≤ cap) (hcm : cap ≤ maxLen) (hn : (n : Int) ≤ 1048576)
    (hown : W.ownsRow 0 117 2 (.slice (some ⟨g, 0, none⟩) n cap) n (flat ts)) (hq : W.heap[q]? = some (.cells #[.int .i64 t.1, .int .i64 t.2] 117 (0, 0))) :
    Calls Try.prog 61 #[.slice (some ⟨g, 0, none⟩) n cap, .int .i64 n, .slice (some ⟨q, 0, none⟩) 1 1] W fun e w' => Put1 W w' (.slice (some ⟨g, 0, none⟩) n cap) (ts ++ [t]) e := by
  obtain ⟨i1, hi1, hy0, hy1, hy2⟩ := info_parts infoTimer3
  have HN := Lib.hid (one_news hq)
  have HO := Lib.hid hown
  have HL := Lib.hid hnl
  have hc9 : cap ≤ 9223372036854775807 := by unfold maxLen at hcm; exact hcm
  have hn9 : n ≤ 9223372036854775807 := by omega
  clear hq hown hnl hcm
  rcases Nat.eq_or_lt_of_le hc with rfl | hlt
  · clear hc
    go_enter Try.func61, Try.ntmps61
    go_wp2_with (at_builtin; refine wpList_append_row rfl (.tmp 23) (.tmp 24) 49 rfl 117 i1 (.agg #[.int .i64 0, .int .i64 0]) 2 16 Try.underlying49 hi1 hy0 hy1 hy2 rfl (by decide) _ n (flat ts) rfl HO.out ⟨q, 0, none⟩ 1 1 (flat [t]) rfl rfl HN.out (flat_cells [t]) (by unfold maxLen; omega) (by omega) ?_; intro v' w3 hown3 hf3 hv3; obtain ⟨p', c', rfl, hc'⟩ := row_form hown3; have HE := Lib.hid (end_end HL.out hown3 hf3 hv3); clear hown3 hf3 hv3 hc')
    go_ret
    exact HE.out
  · have hcn : ¬ (cap = n) := by omega
    go_enter Try.func61, Try.ntmps61
    go_wp2_with (at_builtin; refine wpList_append_row rfl (.tmp 23) (.tmp 24) 49 rfl 117 i1 (.agg #[.int .i64 0, .int .i64 0]) 2 16 Try.underlying49 hi1 hy0 hy1 hy2 rfl (by decide) _ n (flat ts) rfl HO.out ⟨q, 0, none⟩ 1 1 (flat [t]) rfl rfl HN.out (flat_cells [t]) (by unfold maxLen; omega) (by omega) ?_; intro v' w3 hown3 hf3 hv3; obtain ⟨p', c', rfl, hc'⟩ := row_form hown3; have HE := Lib.hid (end_end HL.out hown3 hf3 hv3); clear hown3 hf3 hv3 hc')
    go_ret
    exact HE.out

/-- Wherever: at the place of the first that is later. -/
theorem insert_any (W : World) (g cap q : Nat) (ts : List (Int × Int)) (t : Int × Int) (hn : (ts.length : Int) ≤ 1048576) (hc : ts.length ≤ cap) (hcm : cap ≤ maxLen)
    (hown : W.ownsRow 0 117 2 (.slice (some ⟨g, 0, none⟩) ts.length cap) ts.length (flat ts)) (hq : W.heap[q]? = some (.cells #[.int .i64 t.1, .int .i64 t.2] 117 (0, 0))) (hqg : q ≠ g) :
    Calls Try.prog 61 #[.slice (some ⟨g, 0, none⟩) ts.length cap, .int .i64 (later t.1 ts), .slice (some ⟨q, 0, none⟩) 1 1] W fun e w' => Put1 W w' (.slice (some ⟨g, 0, none⟩) ts.length cap) (ins t ts) e := by
  have hle := later_le t.1 ts
  rw [ins_later]
  rcases Nat.eq_or_lt_of_le hle with he | hlt
  · rw [he, List.take_length, List.drop_length]
    exact insert_end W g cap q ts.length ts t rfl hc hcm hn hown hq
  · by_cases hroom : ts.length + 1 ≤ cap
    · rcases hown.2 with ⟨h', _⟩ | ⟨g', cap', cur, h', _, hg, _, _, hcs, htake⟩
      · simp at h'
      · simp only [Value.slice.injEq, Option.some.injEq, Addr.mk.injEq, and_true, true_and] at h'
        obtain ⟨rfl, rfl⟩ := h'
        refine (insert_shift W g cap (later t.1 ts) q ts t cur hlt hroom (by unfold maxLen at hcm; exact hcm) hn hg hcs htake hq hqg).mono ?_
        rintro e w' ⟨rfl, ⟨cur2, h1, h2, h3⟩, hf⟩
        have hl : (ts.take (later t.1 ts) ++ t :: ts.drop (later t.1 ts)).length = ts.length + 1 := by rw [List.length_append, List.length_take, List.length_cons, List.length_drop]; omega
        refine ⟨some ⟨g, 0, none⟩, cap, by rw [hl], ?_, hf.mono fun k _ e => by simp [Value.ownBlock, e], .inl rfl⟩
        rw [hl]
        exact ⟨by rw [flat_len, hl], .inr ⟨g, cap, cur2, rfl, Nat.zero_le _, h1, hroom, hcm, h2, h3⟩⟩
    · refine (insert_grow W g cap (later t.1 ts) q ts t hlt hc (by omega) hn hown hq).mono ?_
      rintro e w' ⟨q', c', he, ho, hf, hv⟩
      refine ⟨q', c', he, ho, hf.mono fun k _ e => by simp [Value.ownBlock] at e, ?_⟩
      rcases hv with hv | hv
      · exact .inr fun k hk => by rw [hv] at hk; simp [Value.ownBlock] at hk
      · exact .inr hv
end Go.Proofs.Ytpnglcafjofmnaa
