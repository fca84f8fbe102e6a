/-
  No cell of these rows narrows 'for every input' (looked for: loops, veiled, ifaces, maps, wideKeys, modest, calm, conditions, laid).
  DERIVED. THE GIVEN ROWS OF THIS SEAT. 7 by the template 'for every input the law returns true; each argument reads behind the call as it read before'; 0 by the template 'total and deterministic' (their statements: YtpnglcafjofmnaaTotals.lean).
  GIVEN WITH THE SEED: the statements are not yours to turn. If you find one false, say at which input.
  Laid BY PROGRAM, IN A SANDBOX (cutbox-rows.mjs): the forced cells as the released guide's own fill.sh prints them over the translation 6ba3e2cc443d6912… (all of the seat's roots in one cut). By AI agents, Wed Nov 11 2026. No macro, syntax, notation, axiom, sorry.
-/
import Derived.Test.YtpnglcafjofmnaaChecked
import GoSem.Claim
import GoSem.ClaimJoined
import GoSem.ClaimMapViews
import Derived.JoinedTies
import Derived.KernelRfl
namespace Go.Proofs.Ytpnglcafjofmnaa
/- THE CELL 'sum', in the pinned program and in every row, IS THE sha256 OF THE DUMP (.gsa) THAT YtpnglcafjofmnaaProg.lean LOADS. Nothing in Lean hashes anything: it is a label: what it is worth is what the hold of that sum in a sandbox is worth. -/
noncomputable def Try.pinned : Pinned := { name := "ytpnglcafjofmnaa", sum := "6ba3e2cc443d6912818bd90b7806521249eea52a12ddcfa4da0d1f8412a9f9a6", checked := Try.checked }
namespace Rows
def none {H : Type} : Left H := { results := [], args := [] }

/-- 'norialaw03.CellsPlays': WHATEVER THE INPUT: true; the input reads as it did. -/
def cellsPlaysSpec : ChangeSpec := { name := "cellsPlays", fn := fun _ => fun
  | [d] => { results := [.lit (.bool true)], args := [d] }
  | _ => none }
def cellsPlaysRow : OpenClaim := { program := "ytpnglcafjofmnaa", sum := "6ba3e2cc443d6912818bd90b7806521249eea52a12ddcfa4da0d1f8412a9f9a6", func := "noria/norialaw03.CellsPlays", spec := "cellsPlays", inPlace := ["internal/reflectlite.TypeOf"], unfollowed := true, recurses := true, apart := false }
def CellsPlaysSaid : Prop := cellsPlaysRow.holds Try.pinned (OpenSpec.ofChange cellsPlaysSpec)

/-- ITS FALSE NEIGHBOUR: 'it returns false'. Refute it at one input. -/
def cellsPlaysWrong : ChangeSpec := { name := "cellsPlays", fn := fun _ => fun
  | [d] => { results := [.lit (.bool false)], args := [d] }
  | _ => none }
def CellsPlaysWrongFalsely : Prop := cellsPlaysRow.holds Try.pinned (OpenSpec.ofChange cellsPlaysWrong)

/-- 'norialaw03.CellsSwaps': WHATEVER THE INPUT: true; the input reads as it did. -/
def cellsSwapsSpec : ChangeSpec := { name := "cellsSwaps", fn := fun _ => fun
  | [d1, d2, d3] => { results := [.lit (.bool true)], args := [d1, d2, d3] }
  | _ => none }
def cellsSwapsRow : OpenClaim := { program := "ytpnglcafjofmnaa", sum := "6ba3e2cc443d6912818bd90b7806521249eea52a12ddcfa4da0d1f8412a9f9a6", func := "noria/norialaw03.CellsSwaps", spec := "cellsSwaps", apart := false }
def CellsSwapsSaid : Prop := cellsSwapsRow.holds Try.pinned (OpenSpec.ofChange cellsSwapsSpec)

/-- ITS FALSE NEIGHBOUR: 'it returns false'. Refute it at one input. -/
def cellsSwapsWrong : ChangeSpec := { name := "cellsSwaps", fn := fun _ => fun
  | [d1, d2, d3] => { results := [.lit (.bool false)], args := [d1, d2, d3] }
  | _ => none }
def CellsSwapsWrongFalsely : Prop := cellsSwapsRow.holds Try.pinned (OpenSpec.ofChange cellsSwapsWrong)

/-- 'norialaw03.CellsNil': WHATEVER THE INPUT: true; the input reads as it did. -/
def cellsNilSpec : ChangeSpec := { name := "cellsNil", fn := fun _ => fun
  | [d1, d2] => { results := [.lit (.bool true)], args := [d1, d2] }
  | _ => none }
def cellsNilRow : OpenClaim := { program := "ytpnglcafjofmnaa", sum := "6ba3e2cc443d6912818bd90b7806521249eea52a12ddcfa4da0d1f8412a9f9a6", func := "noria/norialaw03.CellsNil", spec := "cellsNil", inPlace := ["internal/reflectlite.TypeOf"], unfollowed := true, recurses := true, apart := false }
def CellsNilSaid : Prop := cellsNilRow.holds Try.pinned (OpenSpec.ofChange cellsNilSpec)

/-- ITS FALSE NEIGHBOUR: 'it returns false'. Refute it at one input. -/
def cellsNilWrong : ChangeSpec := { name := "cellsNil", fn := fun _ => fun
  | [d1, d2] => { results := [.lit (.bool false)], args := [d1, d2] }
  | _ => none }
def CellsNilWrongFalsely : Prop := cellsNilRow.holds Try.pinned (OpenSpec.ofChange cellsNilWrong)

/-- 'norialaw04.ClockPlays': WHATEVER THE INPUT: true; the input reads as it did. -/
def clockPlaysSpec : ChangeSpec := { name := "clockPlays", fn := fun _ => fun
  | [d] => { results := [.lit (.bool true)], args := [d] }
  | _ => none }
def clockPlaysRow : OpenClaim := { program := "ytpnglcafjofmnaa", sum := "6ba3e2cc443d6912818bd90b7806521249eea52a12ddcfa4da0d1f8412a9f9a6", func := "noria/norialaw04.ClockPlays", spec := "clockPlays", inPlace := ["slices.overlaps[noria/clock.timer]", "internal/reflectlite.TypeOf"], unfollowed := true, recurses := true, apart := false }
def ClockPlaysSaid : Prop := clockPlaysRow.holds Try.pinned (OpenSpec.ofChange clockPlaysSpec)

/-- ITS FALSE NEIGHBOUR: 'it returns false'. Refute it at one input. -/
def clockPlaysWrong : ChangeSpec := { name := "clockPlays", fn := fun _ => fun
  | [d] => { results := [.lit (.bool false)], args := [d] }
  | _ => none }
def ClockPlaysWrongFalsely : Prop := clockPlaysRow.holds Try.pinned (OpenSpec.ofChange clockPlaysWrong)

/-- 'norialaw04.ClockOnce': WHATEVER THE INPUT: true; the input reads as it did. -/
def clockOnceSpec : ChangeSpec := { name := "clockOnce", fn := fun _ => fun
  | [d1, d2, d3] => { results := [.lit (.bool true)], args := [d1, d2, d3] }
  | _ => none }
def clockOnceRow : OpenClaim := { program := "ytpnglcafjofmnaa", sum := "6ba3e2cc443d6912818bd90b7806521249eea52a12ddcfa4da0d1f8412a9f9a6", func := "noria/norialaw04.ClockOnce", spec := "clockOnce", inPlace := ["slices.overlaps[noria/clock.timer]", "internal/reflectlite.TypeOf"], unfollowed := true, recurses := true, apart := false }
def ClockOnceSaid : Prop := clockOnceRow.holds Try.pinned (OpenSpec.ofChange clockOnceSpec)

/-- ITS FALSE NEIGHBOUR: 'it returns false'. Refute it at one input. -/
def clockOnceWrong : ChangeSpec := { name := "clockOnce", fn := fun _ => fun
  | [d1, d2, d3] => { results := [.lit (.bool false)], args := [d1, d2, d3] }
  | _ => none }
def ClockOnceWrongFalsely : Prop := clockOnceRow.holds Try.pinned (OpenSpec.ofChange clockOnceWrong)

/-- 'norialaw05.ActorPlays': WHATEVER THE INPUT: true; the input reads as it did. -/
def actorPlaysSpec : ChangeSpec := { name := "actorPlays", fn := fun _ => fun
  | [d1, d2] => { results := [.lit (.bool true)], args := [d1, d2] }
  | _ => none }
def actorPlaysRow : OpenClaim := { program := "ytpnglcafjofmnaa", sum := "6ba3e2cc443d6912818bd90b7806521249eea52a12ddcfa4da0d1f8412a9f9a6", func := "noria/norialaw05.ActorPlays", spec := "actorPlays", inPlace := ["internal/reflectlite.TypeOf"], unfollowed := true, recurses := true, apart := false }
def ActorPlaysSaid : Prop := actorPlaysRow.holds Try.pinned (OpenSpec.ofChange actorPlaysSpec)

/-- ITS FALSE NEIGHBOUR: 'it returns false'. Refute it at one input. -/
def actorPlaysWrong : ChangeSpec := { name := "actorPlays", fn := fun _ => fun
  | [d1, d2] => { results := [.lit (.bool false)], args := [d1, d2] }
  | _ => none }
def ActorPlaysWrongFalsely : Prop := actorPlaysRow.holds Try.pinned (OpenSpec.ofChange actorPlaysWrong)

/-- 'norialaw05.ActorWakes': WHATEVER THE INPUT: true; the input reads as it did. -/
def actorWakesSpec : ChangeSpec := { name := "actorWakes", fn := fun _ => fun
  | [d1, d2] => { results := [.lit (.bool true)], args := [d1, d2] }
  | _ => none }
def actorWakesRow : OpenClaim := { program := "ytpnglcafjofmnaa", sum := "6ba3e2cc443d6912818bd90b7806521249eea52a12ddcfa4da0d1f8412a9f9a6", func := "noria/norialaw05.ActorWakes", spec := "actorWakes", apart := false }
def ActorWakesSaid : Prop := actorWakesRow.holds Try.pinned (OpenSpec.ofChange actorWakesSpec)

/-- ITS FALSE NEIGHBOUR: 'it returns false'. Refute it at one input. -/
def actorWakesWrong : ChangeSpec := { name := "actorWakes", fn := fun _ => fun
  | [d1, d2] => { results := [.lit (.bool false)], args := [d1, d2] }
  | _ => none }
def ActorWakesWrongFalsely : Prop := actorWakesRow.holds Try.pinned (OpenSpec.ofChange actorWakesWrong)

/- THE SECOND FORM. 'bulk': how many values and letters a reading holds, each counted each time it is reached (what is shared counts as often as it is met; a slice's spare places count too). A statement '..UptoSaid' is the law's where the arguments, and the package variables that the reading takes, are together of bulk at most 1048576: NARROWER than '..Said'. Prove '..Said' where nothing that the law and all that it calls make is longer than what came in: it says more and counts as full. Else prove '..UptoSaid'. A law counts once. -/
mutual
def uptoBulk {H : Type} : DataW H → Nat
  | .lit (.string bytes) => bytes.length + 1
  | .lit _ => 1
  | .nil => 1
  | .ptr d => uptoBulk d + 1
  | .slice elems spare => uptoBulkAll elems + uptoBulkAll spare + 1
  | .agg parts => uptoBulkAll parts + 1
  | .iface _ d => uptoBulk d + 1
  | .map entries => uptoBulkEntries entries + 1
  | .held _ => 1
def uptoBulkAll {H : Type} : List (DataW H) → Nat
  | [] => 0
  | d :: r => uptoBulk d + uptoBulkAll r
def uptoBulkEntries {H : Type} : List (Lit × DataW H) → Nat
  | [] => 0
  | x :: r => uptoBulkEntry x + uptoBulkEntries r
def uptoBulkEntry {H : Type} : Lit × DataW H → Nat
  | (.string bytes, d) => bytes.length + uptoBulk d + 1
  | (_, d) => uptoBulk d + 1
 end
def uptoSmall : (H : Type) → List (DataW H) → Bool := fun _ ds => decide (uptoBulkAll ds ≤ 1048576)
def OpenSpec.upto (s : _root_.Go.ChangeSpec) : _root_.Go.OpenSpec := { _root_.Go.OpenSpec.ofChange s with cond := some uptoSmall }

/-- 'norialaw03.CellsPlays', WHERE WHAT IT READS IS OF BULK AT MOST 1048576: true; the input reads as it did. -/
def cellsPlaysUptoRow : OpenClaim := { program := "ytpnglcafjofmnaa", sum := "6ba3e2cc443d6912818bd90b7806521249eea52a12ddcfa4da0d1f8412a9f9a6", func := "noria/norialaw03.CellsPlays", spec := "cellsPlays", inPlace := ["internal/reflectlite.TypeOf"], unfollowed := true, recurses := true, apart := false, narrowed := true }
def CellsPlaysUptoSaid : Prop := cellsPlaysUptoRow.holds Try.pinned (OpenSpec.upto cellsPlaysSpec)

/-- 'norialaw03.CellsSwaps', WHERE WHAT IT READS IS OF BULK AT MOST 1048576: true; the input reads as it did. -/
def cellsSwapsUptoRow : OpenClaim := { program := "ytpnglcafjofmnaa", sum := "6ba3e2cc443d6912818bd90b7806521249eea52a12ddcfa4da0d1f8412a9f9a6", func := "noria/norialaw03.CellsSwaps", spec := "cellsSwaps", apart := false, narrowed := true }
def CellsSwapsUptoSaid : Prop := cellsSwapsUptoRow.holds Try.pinned (OpenSpec.upto cellsSwapsSpec)

/-- 'norialaw03.CellsNil', WHERE WHAT IT READS IS OF BULK AT MOST 1048576: true; the input reads as it did. -/
def cellsNilUptoRow : OpenClaim := { program := "ytpnglcafjofmnaa", sum := "6ba3e2cc443d6912818bd90b7806521249eea52a12ddcfa4da0d1f8412a9f9a6", func := "noria/norialaw03.CellsNil", spec := "cellsNil", inPlace := ["internal/reflectlite.TypeOf"], unfollowed := true, recurses := true, apart := false, narrowed := true }
def CellsNilUptoSaid : Prop := cellsNilUptoRow.holds Try.pinned (OpenSpec.upto cellsNilSpec)

/-- 'norialaw04.ClockPlays', WHERE WHAT IT READS IS OF BULK AT MOST 1048576: true; the input reads as it did. -/
def clockPlaysUptoRow : OpenClaim := { program := "ytpnglcafjofmnaa", sum := "6ba3e2cc443d6912818bd90b7806521249eea52a12ddcfa4da0d1f8412a9f9a6", func := "noria/norialaw04.ClockPlays", spec := "clockPlays", inPlace := ["slices.overlaps[noria/clock.timer]", "internal/reflectlite.TypeOf"], unfollowed := true, recurses := true, apart := false, narrowed := true }
def ClockPlaysUptoSaid : Prop := clockPlaysUptoRow.holds Try.pinned (OpenSpec.upto clockPlaysSpec)

/-- 'norialaw04.ClockOnce', WHERE WHAT IT READS IS OF BULK AT MOST 1048576: true; the input reads as it did. -/
def clockOnceUptoRow : OpenClaim := { program := "ytpnglcafjofmnaa", sum := "6ba3e2cc443d6912818bd90b7806521249eea52a12ddcfa4da0d1f8412a9f9a6", func := "noria/norialaw04.ClockOnce", spec := "clockOnce", inPlace := ["slices.overlaps[noria/clock.timer]", "internal/reflectlite.TypeOf"], unfollowed := true, recurses := true, apart := false, narrowed := true }
def ClockOnceUptoSaid : Prop := clockOnceUptoRow.holds Try.pinned (OpenSpec.upto clockOnceSpec)

/-- 'norialaw05.ActorPlays', WHERE WHAT IT READS IS OF BULK AT MOST 1048576: true; the input reads as it did. -/
def actorPlaysUptoRow : OpenClaim := { program := "ytpnglcafjofmnaa", sum := "6ba3e2cc443d6912818bd90b7806521249eea52a12ddcfa4da0d1f8412a9f9a6", func := "noria/norialaw05.ActorPlays", spec := "actorPlays", inPlace := ["internal/reflectlite.TypeOf"], unfollowed := true, recurses := true, apart := false, narrowed := true }
def ActorPlaysUptoSaid : Prop := actorPlaysUptoRow.holds Try.pinned (OpenSpec.upto actorPlaysSpec)

/-- 'norialaw05.ActorWakes', WHERE WHAT IT READS IS OF BULK AT MOST 1048576: true; the input reads as it did. -/
def actorWakesUptoRow : OpenClaim := { program := "ytpnglcafjofmnaa", sum := "6ba3e2cc443d6912818bd90b7806521249eea52a12ddcfa4da0d1f8412a9f9a6", func := "noria/norialaw05.ActorWakes", spec := "actorWakes", apart := false, narrowed := true }
def ActorWakesUptoSaid : Prop := actorWakesUptoRow.holds Try.pinned (OpenSpec.upto actorWakesSpec)

end Rows
end Go.Proofs.Ytpnglcafjofmnaa
