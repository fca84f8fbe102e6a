/-
  One thing done to both arenas (norialaw03.play), whatever it is: by contract. Conditions: both arenas are the same, at most 1000 cells and steps; the numbers are 64-bit numbers.
-/
import Derived.Test.YtofkcjoonjhdpaaPlayA
import Derived.Test.YtofkcjoonjhdpaaPlayB
import Derived.Test.YtofkcjoonjhdpaaPlayC
import Derived.Test.YtofkcjoonjhdpaaPlayD
import Derived.Test.YtofkcjoonjhdpaaPlayE
namespace Go.Proofs.Ytofkcjoonjhdpaa
open Go.RowKit

theorem play_any (W0 W : World) (ba bm k : Nat) (hps : PS W0 W ba bm k) (hk : k ≤ 1000) (kind id old x : Int) (hx1 : -9223372036854775808 ≤ x) (hx2 : x ≤ 9223372036854775807) :
    Calls Try.prog 10 #[.pointer (some ⟨ba, 0, none⟩), .pointer (some ⟨bm, 0, none⟩), .agg #[.int .i64 kind, .int .i64 id, .int .i64 old, .int .i64 x]] W fun e w' => e = .returned (.bool true) ∧ PS W0 w' ba bm (k + 1) := by
  obtain ⟨v, u, xs, st, h, hl, hs0, hs1, hx⟩ := hps
  by_cases k0 : kind = 0
  · subst k0
    exact play0 W0 W ba bm v u xs st k h hk hl hs0 hs1 hx id old x hx1 hx2
  · by_cases hr : 0 ≤ id ∧ id < xs.length
    · obtain ⟨i, rfl⟩ : ∃ i : Nat, id = i := ⟨id.toNat, by omega⟩
      have hi : i < xs.length := by omega
      have hy : xs[i]? = some xs[i] := List.getElem?_eq_getElem hi
      have hyr := hx xs[i] (List.getElem_mem hi)
      generalize xs[i] = y at hy hyr
      by_cases k1 : kind = 1
      · subst k1; exact play1_right W0 W ba bm v u xs st k h hk hl hs0 hs1 hx i y old x hy
      · by_cases k2 : kind = 2
        · subst k2; exact play2_right W0 W ba bm v u xs st k h hk hl hs0 hs1 hx i y old x hy hx1 hx2
        · by_cases k3 : kind = 3
          · subst k3
            by_cases ho : y = old
            · subst ho; exact play3_yes W0 W ba bm v u xs st k h hk hl hs0 hs1 hx i y x hy hx1 hx2
            · exact play3_no W0 W ba bm v u xs st k h hk hl hs0 hs1 hx i y old x hy (by simpa using ho)
          · by_cases k4 : kind = 4
            · subst k4
              by_cases hq : -9223372036854775808 ≤ y + x ∧ y + x ≤ 9223372036854775807
              · exact play4_yes W0 W ba bm v u xs st k h hk hl hs0 hs1 hx i y old x hy hx1 hx2 hq.1 hq.2
              · exact play4_no W0 W ba bm v u xs st k h hk hl hs0 hs1 hx i y old x hy hx1 hx2 (by omega)
            · by_cases k5 : kind < 0
              · exact playo_low_right W0 W ba bm v u xs st k h hk hl hs0 hs1 hx kind k5 i y old x hy
              · exact playo_high_right W0 W ba bm v u xs st k h hk hl hs0 hs1 hx kind (by omega) i y old x hy
    · have hid : id < 0 ∨ (xs.length : Int) ≤ id := by omega
      by_cases k1 : kind = 1
      · subst k1; exact play1_none W0 W ba bm v u xs st k h hk hl hs0 hs1 hx id old x hid
      · by_cases k2 : kind = 2
        · subst k2; exact play2_none W0 W ba bm v u xs st k h hk hl hs0 hs1 hx id old x hid
        · by_cases k3 : kind = 3
          · subst k3; exact play3_none W0 W ba bm v u xs st k h hk hl hs0 hs1 hx id old x hid
          · by_cases k4 : kind = 4
            · subst k4; exact play4_none W0 W ba bm v u xs st k h hk hl hs0 hs1 hx id old x hid
            · by_cases k5 : kind < 0
              · exact playo_low_none W0 W ba bm v u xs st k h hk hl hs0 hs1 hx kind k5 id old x hid
              · exact playo_high_none W0 W ba bm v u xs st k h hk hl hs0 hs1 hx kind (by omega) id old x hid
end Go.Proofs.Ytofkcjoonjhdpaa
