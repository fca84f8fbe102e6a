/-
  No cell of these rows narrows 'for every input' (looked for: loops, veiled, ifaces, maps, wideKeys, modest, calm, conditions, laid).
  DERIVED. THE GIVEN ROWS OF THIS SEAT. 11 by the template 'for every input the law returns true; each argument reads behind the call as it read before'; 0 by the template 'total and deterministic' (their statements: YtnimmkgdgdhkfaaTotals.lean).
  GIVEN WITH THE SEED: the statements are not yours to turn. If you find one false, say at which input.
  Laid BY PROGRAM, IN A SANDBOX (cutbox-rows.mjs): the forced cells as the released guide's own fill.sh prints them over the translation 6cca990c775025b1… (all of the seat's roots in one cut). By AI agents, Wed Nov 11 2026. No macro, syntax, notation, axiom, sorry.
-/
import Derived.Test.YtnimmkgdgdhkfaaChecked
import GoSem.Claim
import GoSem.ClaimJoined
import GoSem.ClaimMapViews
import Derived.JoinedTies
import Derived.KernelRfl
namespace Go.Proofs.Ytnimmkgdgdhkfaa
/- THE CELL 'sum', in the pinned program and in every row, IS THE sha256 OF THE DUMP (.gsa) THAT YtnimmkgdgdhkfaaProg.lean LOADS. Nothing in Lean hashes anything: it is a label: what it is worth is what the hold of that sum in a sandbox is worth. -/
noncomputable def Try.pinned : Pinned := { name := "ytnimmkgdgdhkfaa", sum := "6cca990c775025b11bafeff0c5527f609c2e5777efd758442c8687e321ac28a1", checked := Try.checked }
namespace Rows
def none {H : Type} : Left H := { results := [], args := [] }

/-- 'norialaw02.PowSizes': WHATEVER THE INPUT: true; the input reads as it did. -/
def powSizesSpec : ChangeSpec := { name := "powSizes", fn := fun _ => fun
  | [d] => { results := [.lit (.bool true)], args := [d] }
  | _ => none }
def powSizesRow : OpenClaim := { program := "ytnimmkgdgdhkfaa", sum := "6cca990c775025b11bafeff0c5527f609c2e5777efd758442c8687e321ac28a1", func := "noria/norialaw02.PowSizes", spec := "powSizes", inPlace := ["internal/reflectlite.TypeOf"], unfollowed := true, recurses := true, apart := false }
def PowSizesSaid : Prop := powSizesRow.holds Try.pinned (OpenSpec.ofChange powSizesSpec)

/-- ITS FALSE NEIGHBOUR: 'it returns false'. Refute it at one input. -/
def powSizesWrong : ChangeSpec := { name := "powSizes", fn := fun _ => fun
  | [d] => { results := [.lit (.bool false)], args := [d] }
  | _ => none }
def PowSizesWrongFalsely : Prop := powSizesRow.holds Try.pinned (OpenSpec.ofChange powSizesWrong)

/-- 'norialaw02.PowPlaces': WHATEVER THE INPUT: true; the input reads as it did. -/
def powPlacesSpec : ChangeSpec := { name := "powPlaces", fn := fun _ => fun
  | [d1, d2] => { results := [.lit (.bool true)], args := [d1, d2] }
  | _ => none }
def powPlacesRow : OpenClaim := { program := "ytnimmkgdgdhkfaa", sum := "6cca990c775025b11bafeff0c5527f609c2e5777efd758442c8687e321ac28a1", func := "noria/norialaw02.PowPlaces", spec := "powPlaces", inPlace := ["internal/reflectlite.TypeOf"], unfollowed := true, recurses := true, apart := false }
def PowPlacesSaid : Prop := powPlacesRow.holds Try.pinned (OpenSpec.ofChange powPlacesSpec)

/-- ITS FALSE NEIGHBOUR: 'it returns false'. Refute it at one input. -/
def powPlacesWrong : ChangeSpec := { name := "powPlaces", fn := fun _ => fun
  | [d1, d2] => { results := [.lit (.bool false)], args := [d1, d2] }
  | _ => none }
def PowPlacesWrongFalsely : Prop := powPlacesRow.holds Try.pinned (OpenSpec.ofChange powPlacesWrong)

/-- 'norialaw02.PowTurns': WHATEVER THE INPUT: true; the input reads as it did. -/
def powTurnsSpec : ChangeSpec := { name := "powTurns", fn := fun _ => fun
  | [d1, d2, d3] => { results := [.lit (.bool true)], args := [d1, d2, d3] }
  | _ => none }
def powTurnsRow : OpenClaim := { program := "ytnimmkgdgdhkfaa", sum := "6cca990c775025b11bafeff0c5527f609c2e5777efd758442c8687e321ac28a1", func := "noria/norialaw02.PowTurns", spec := "powTurns", apart := false }
def PowTurnsSaid : Prop := powTurnsRow.holds Try.pinned (OpenSpec.ofChange powTurnsSpec)

/-- ITS FALSE NEIGHBOUR: 'it returns false'. Refute it at one input. -/
def powTurnsWrong : ChangeSpec := { name := "powTurns", fn := fun _ => fun
  | [d1, d2, d3] => { results := [.lit (.bool false)], args := [d1, d2, d3] }
  | _ => none }
def PowTurnsWrongFalsely : Prop := powTurnsRow.holds Try.pinned (OpenSpec.ofChange powTurnsWrong)

/-- 'norialaw03.CellsPlays': WHATEVER THE INPUT: true; the input reads as it did. -/
def cellsPlaysSpec : ChangeSpec := { name := "cellsPlays", fn := fun _ => fun
  | [d] => { results := [.lit (.bool true)], args := [d] }
  | _ => none }
def cellsPlaysRow : OpenClaim := { program := "ytnimmkgdgdhkfaa", sum := "6cca990c775025b11bafeff0c5527f609c2e5777efd758442c8687e321ac28a1", func := "noria/norialaw03.CellsPlays", spec := "cellsPlays", inPlace := ["internal/reflectlite.TypeOf"], unfollowed := true, recurses := true, apart := false }
def CellsPlaysSaid : Prop := cellsPlaysRow.holds Try.pinned (OpenSpec.ofChange cellsPlaysSpec)

/-- ITS FALSE NEIGHBOUR: 'it returns false'. Refute it at one input. -/
def cellsPlaysWrong : ChangeSpec := { name := "cellsPlays", fn := fun _ => fun
  | [d] => { results := [.lit (.bool false)], args := [d] }
  | _ => none }
def CellsPlaysWrongFalsely : Prop := cellsPlaysRow.holds Try.pinned (OpenSpec.ofChange cellsPlaysWrong)

/-- 'norialaw03.CellsNil': WHATEVER THE INPUT: true; the input reads as it did. -/
def cellsNilSpec : ChangeSpec := { name := "cellsNil", fn := fun _ => fun
  | [d1, d2] => { results := [.lit (.bool true)], args := [d1, d2] }
  | _ => none }
def cellsNilRow : OpenClaim := { program := "ytnimmkgdgdhkfaa", sum := "6cca990c775025b11bafeff0c5527f609c2e5777efd758442c8687e321ac28a1", func := "noria/norialaw03.CellsNil", spec := "cellsNil", inPlace := ["internal/reflectlite.TypeOf"], unfollowed := true, recurses := true, apart := false }
def CellsNilSaid : Prop := cellsNilRow.holds Try.pinned (OpenSpec.ofChange cellsNilSpec)

/-- ITS FALSE NEIGHBOUR: 'it returns false'. Refute it at one input. -/
def cellsNilWrong : ChangeSpec := { name := "cellsNil", fn := fun _ => fun
  | [d1, d2] => { results := [.lit (.bool false)], args := [d1, d2] }
  | _ => none }
def CellsNilWrongFalsely : Prop := cellsNilRow.holds Try.pinned (OpenSpec.ofChange cellsNilWrong)

/-- 'norialaw06.SlotsPlays': WHATEVER THE INPUT: true; the input reads as it did. -/
def slotsPlaysSpec : ChangeSpec := { name := "slotsPlays", fn := fun _ => fun
  | [d1, d2, d3] => { results := [.lit (.bool true)], args := [d1, d2, d3] }
  | _ => none }
def slotsPlaysRow : OpenClaim := { program := "ytnimmkgdgdhkfaa", sum := "6cca990c775025b11bafeff0c5527f609c2e5777efd758442c8687e321ac28a1", func := "noria/norialaw06.SlotsPlays", spec := "slotsPlays", inPlace := ["internal/reflectlite.TypeOf"], unfollowed := true, recurses := true, apart := false }
def SlotsPlaysSaid : Prop := slotsPlaysRow.holds Try.pinned (OpenSpec.ofChange slotsPlaysSpec)

/-- ITS FALSE NEIGHBOUR: 'it returns false'. Refute it at one input. -/
def slotsPlaysWrong : ChangeSpec := { name := "slotsPlays", fn := fun _ => fun
  | [d1, d2, d3] => { results := [.lit (.bool false)], args := [d1, d2, d3] }
  | _ => none }
def SlotsPlaysWrongFalsely : Prop := slotsPlaysRow.holds Try.pinned (OpenSpec.ofChange slotsPlaysWrong)

/-- 'norialaw06.SlotsSpans': WHATEVER THE INPUT: true; the input reads as it did. -/
def slotsSpansSpec : ChangeSpec := { name := "slotsSpans", fn := fun _ => fun
  | [d1, d2, d3, d4, d5] => { results := [.lit (.bool true)], args := [d1, d2, d3, d4, d5] }
  | _ => none }
def slotsSpansRow : OpenClaim := { program := "ytnimmkgdgdhkfaa", sum := "6cca990c775025b11bafeff0c5527f609c2e5777efd758442c8687e321ac28a1", func := "noria/norialaw06.SlotsSpans", spec := "slotsSpans", inPlace := ["internal/reflectlite.TypeOf"], unfollowed := true, recurses := true, apart := false }
def SlotsSpansSaid : Prop := slotsSpansRow.holds Try.pinned (OpenSpec.ofChange slotsSpansSpec)

/-- ITS FALSE NEIGHBOUR: 'it returns false'. Refute it at one input. -/
def slotsSpansWrong : ChangeSpec := { name := "slotsSpans", fn := fun _ => fun
  | [d1, d2, d3, d4, d5] => { results := [.lit (.bool false)], args := [d1, d2, d3, d4, d5] }
  | _ => none }
def SlotsSpansWrongFalsely : Prop := slotsSpansRow.holds Try.pinned (OpenSpec.ofChange slotsSpansWrong)

/-- 'norialaw06.SlotsWrong': WHATEVER THE INPUT: true; the input reads as it did. -/
def slotsWrongSpec : ChangeSpec := { name := "slotsWrong", fn := fun _ => fun
  | [d1, d2] => { results := [.lit (.bool true)], args := [d1, d2] }
  | _ => none }
def slotsWrongRow : OpenClaim := { program := "ytnimmkgdgdhkfaa", sum := "6cca990c775025b11bafeff0c5527f609c2e5777efd758442c8687e321ac28a1", func := "noria/norialaw06.SlotsWrong", spec := "slotsWrong", inPlace := ["internal/reflectlite.TypeOf"], unfollowed := true, recurses := true, apart := false }
def SlotsWrongSaid : Prop := slotsWrongRow.holds Try.pinned (OpenSpec.ofChange slotsWrongSpec)

/-- ITS FALSE NEIGHBOUR: 'it returns false'. Refute it at one input. -/
def slotsWrongWrong : ChangeSpec := { name := "slotsWrong", fn := fun _ => fun
  | [d1, d2] => { results := [.lit (.bool false)], args := [d1, d2] }
  | _ => none }
def SlotsWrongWrongFalsely : Prop := slotsWrongRow.holds Try.pinned (OpenSpec.ofChange slotsWrongWrong)

/-- 'norialaw07.AvailPlays': WHATEVER THE INPUT: true; the input reads as it did. -/
def availPlaysSpec : ChangeSpec := { name := "availPlays", fn := fun _ => fun
  | [d1, d2, d3, d4, d5] => { results := [.lit (.bool true)], args := [d1, d2, d3, d4, d5] }
  | _ => none }
def availPlaysRow : OpenClaim := { program := "ytnimmkgdgdhkfaa", sum := "6cca990c775025b11bafeff0c5527f609c2e5777efd758442c8687e321ac28a1", func := "noria/norialaw07.AvailPlays", spec := "availPlays", inPlace := ["internal/reflectlite.TypeOf"], unfollowed := true, recurses := true, apart := false }
def AvailPlaysSaid : Prop := availPlaysRow.holds Try.pinned (OpenSpec.ofChange availPlaysSpec)

/-- ITS FALSE NEIGHBOUR: 'it returns false'. Refute it at one input. -/
def availPlaysWrong : ChangeSpec := { name := "availPlays", fn := fun _ => fun
  | [d1, d2, d3, d4, d5] => { results := [.lit (.bool false)], args := [d1, d2, d3, d4, d5] }
  | _ => none }
def AvailPlaysWrongFalsely : Prop := availPlaysRow.holds Try.pinned (OpenSpec.ofChange availPlaysWrong)

/-- 'norialaw07.AvailRounds': WHATEVER THE INPUT: true; the input reads as it did. -/
def availRoundsSpec : ChangeSpec := { name := "availRounds", fn := fun _ => fun
  | [d1, d2, d3] => { results := [.lit (.bool true)], args := [d1, d2, d3] }
  | _ => none }
def availRoundsRow : OpenClaim := { program := "ytnimmkgdgdhkfaa", sum := "6cca990c775025b11bafeff0c5527f609c2e5777efd758442c8687e321ac28a1", func := "noria/norialaw07.AvailRounds", spec := "availRounds", apart := false }
def AvailRoundsSaid : Prop := availRoundsRow.holds Try.pinned (OpenSpec.ofChange availRoundsSpec)

/-- ITS FALSE NEIGHBOUR: 'it returns false'. Refute it at one input. -/
def availRoundsWrong : ChangeSpec := { name := "availRounds", fn := fun _ => fun
  | [d1, d2, d3] => { results := [.lit (.bool false)], args := [d1, d2, d3] }
  | _ => none }
def AvailRoundsWrongFalsely : Prop := availRoundsRow.holds Try.pinned (OpenSpec.ofChange availRoundsWrong)

/-- 'norialaw07.AvailNil': WHATEVER THE INPUT: true; the input reads as it did. -/
def availNilSpec : ChangeSpec := { name := "availNil", fn := fun _ => fun
  | [d] => { results := [.lit (.bool true)], args := [d] }
  | _ => none }
def availNilRow : OpenClaim := { program := "ytnimmkgdgdhkfaa", sum := "6cca990c775025b11bafeff0c5527f609c2e5777efd758442c8687e321ac28a1", func := "noria/norialaw07.AvailNil", spec := "availNil", inPlace := ["internal/reflectlite.TypeOf"], unfollowed := true, recurses := true, apart := false }
def AvailNilSaid : Prop := availNilRow.holds Try.pinned (OpenSpec.ofChange availNilSpec)

/-- ITS FALSE NEIGHBOUR: 'it returns false'. Refute it at one input. -/
def availNilWrong : ChangeSpec := { name := "availNil", fn := fun _ => fun
  | [d] => { results := [.lit (.bool false)], args := [d] }
  | _ => none }
def AvailNilWrongFalsely : Prop := availNilRow.holds Try.pinned (OpenSpec.ofChange availNilWrong)

/- THE SECOND FORM. 'bulk': how many values and letters a reading holds, each counted each time it is reached (what is shared counts as often as it is met; a slice's spare places count too). A statement '..UptoSaid' is the law's where the arguments, and the package variables that the reading takes, are together of bulk at most 1048576: NARROWER than '..Said'. Prove '..Said' where nothing that the law and all that it calls make is longer than what came in: it says more and counts as full. Else prove '..UptoSaid'. A law counts once. -/
mutual
def uptoBulk {H : Type} : DataW H → Nat
  | .lit (.string bytes) => bytes.length + 1
  | .lit _ => 1
  | .nil => 1
  | .ptr d => uptoBulk d + 1
  | .slice elems spare => uptoBulkAll elems + uptoBulkAll spare + 1
  | .agg parts => uptoBulkAll parts + 1
  | .iface _ d => uptoBulk d + 1
  | .map entries => uptoBulkEntries entries + 1
  | .held _ => 1
def uptoBulkAll {H : Type} : List (DataW H) → Nat
  | [] => 0
  | d :: r => uptoBulk d + uptoBulkAll r
def uptoBulkEntries {H : Type} : List (Lit × DataW H) → Nat
  | [] => 0
  | x :: r => uptoBulkEntry x + uptoBulkEntries r
def uptoBulkEntry {H : Type} : Lit × DataW H → Nat
  | (.string bytes, d) => bytes.length + uptoBulk d + 1
  | (_, d) => uptoBulk d + 1
 end
def uptoSmall : (H : Type) → List (DataW H) → Bool := fun _ ds => decide (uptoBulkAll ds ≤ 1048576)
def OpenSpec.upto (s : _root_.Go.ChangeSpec) : _root_.Go.OpenSpec := { _root_.Go.OpenSpec.ofChange s with cond := some uptoSmall }

/-- 'norialaw02.PowSizes', WHERE WHAT IT READS IS OF BULK AT MOST 1048576: true; the input reads as it did. -/
def powSizesUptoRow : OpenClaim := { program := "ytnimmkgdgdhkfaa", sum := "6cca990c775025b11bafeff0c5527f609c2e5777efd758442c8687e321ac28a1", func := "noria/norialaw02.PowSizes", spec := "powSizes", inPlace := ["internal/reflectlite.TypeOf"], unfollowed := true, recurses := true, apart := false, narrowed := true }
def PowSizesUptoSaid : Prop := powSizesUptoRow.holds Try.pinned (OpenSpec.upto powSizesSpec)

/-- 'norialaw02.PowPlaces', WHERE WHAT IT READS IS OF BULK AT MOST 1048576: true; the input reads as it did. -/
def powPlacesUptoRow : OpenClaim := { program := "ytnimmkgdgdhkfaa", sum := "6cca990c775025b11bafeff0c5527f609c2e5777efd758442c8687e321ac28a1", func := "noria/norialaw02.PowPlaces", spec := "powPlaces", inPlace := ["internal/reflectlite.TypeOf"], unfollowed := true, recurses := true, apart := false, narrowed := true }
def PowPlacesUptoSaid : Prop := powPlacesUptoRow.holds Try.pinned (OpenSpec.upto powPlacesSpec)

/-- 'norialaw02.PowTurns', WHERE WHAT IT READS IS OF BULK AT MOST 1048576: true; the input reads as it did. -/
def powTurnsUptoRow : OpenClaim := { program := "ytnimmkgdgdhkfaa", sum := "6cca990c775025b11bafeff0c5527f609c2e5777efd758442c8687e321ac28a1", func := "noria/norialaw02.PowTurns", spec := "powTurns", apart := false, narrowed := true }
def PowTurnsUptoSaid : Prop := powTurnsUptoRow.holds Try.pinned (OpenSpec.upto powTurnsSpec)

/-- 'norialaw03.CellsPlays', WHERE WHAT IT READS IS OF BULK AT MOST 1048576: true; the input reads as it did. -/
def cellsPlaysUptoRow : OpenClaim := { program := "ytnimmkgdgdhkfaa", sum := "6cca990c775025b11bafeff0c5527f609c2e5777efd758442c8687e321ac28a1", func := "noria/norialaw03.CellsPlays", spec := "cellsPlays", inPlace := ["internal/reflectlite.TypeOf"], unfollowed := true, recurses := true, apart := false, narrowed := true }
def CellsPlaysUptoSaid : Prop := cellsPlaysUptoRow.holds Try.pinned (OpenSpec.upto cellsPlaysSpec)

/-- 'norialaw03.CellsNil', WHERE WHAT IT READS IS OF BULK AT MOST 1048576: true; the input reads as it did. -/
def cellsNilUptoRow : OpenClaim := { program := "ytnimmkgdgdhkfaa", sum := "6cca990c775025b11bafeff0c5527f609c2e5777efd758442c8687e321ac28a1", func := "noria/norialaw03.CellsNil", spec := "cellsNil", inPlace := ["internal/reflectlite.TypeOf"], unfollowed := true, recurses := true, apart := false, narrowed := true }
def CellsNilUptoSaid : Prop := cellsNilUptoRow.holds Try.pinned (OpenSpec.upto cellsNilSpec)

/-- 'norialaw06.SlotsPlays', WHERE WHAT IT READS IS OF BULK AT MOST 1048576: true; the input reads as it did. -/
def slotsPlaysUptoRow : OpenClaim := { program := "ytnimmkgdgdhkfaa", sum := "6cca990c775025b11bafeff0c5527f609c2e5777efd758442c8687e321ac28a1", func := "noria/norialaw06.SlotsPlays", spec := "slotsPlays", inPlace := ["internal/reflectlite.TypeOf"], unfollowed := true, recurses := true, apart := false, narrowed := true }
def SlotsPlaysUptoSaid : Prop := slotsPlaysUptoRow.holds Try.pinned (OpenSpec.upto slotsPlaysSpec)

/-- 'norialaw06.SlotsSpans', WHERE WHAT IT READS IS OF BULK AT MOST 1048576: true; the input reads as it did. -/
def slotsSpansUptoRow : OpenClaim := { program := "ytnimmkgdgdhkfaa", sum := "6cca990c775025b11bafeff0c5527f609c2e5777efd758442c8687e321ac28a1", func := "noria/norialaw06.SlotsSpans", spec := "slotsSpans", inPlace := ["internal/reflectlite.TypeOf"], unfollowed := true, recurses := true, apart := false, narrowed := true }
def SlotsSpansUptoSaid : Prop := slotsSpansUptoRow.holds Try.pinned (OpenSpec.upto slotsSpansSpec)

/-- 'norialaw06.SlotsWrong', WHERE WHAT IT READS IS OF BULK AT MOST 1048576: true; the input reads as it did. -/
def slotsWrongUptoRow : OpenClaim := { program := "ytnimmkgdgdhkfaa", sum := "6cca990c775025b11bafeff0c5527f609c2e5777efd758442c8687e321ac28a1", func := "noria/norialaw06.SlotsWrong", spec := "slotsWrong", inPlace := ["internal/reflectlite.TypeOf"], unfollowed := true, recurses := true, apart := false, narrowed := true }
def SlotsWrongUptoSaid : Prop := slotsWrongUptoRow.holds Try.pinned (OpenSpec.upto slotsWrongSpec)

/-- 'norialaw07.AvailPlays', WHERE WHAT IT READS IS OF BULK AT MOST 1048576: true; the input reads as it did. -/
def availPlaysUptoRow : OpenClaim := { program := "ytnimmkgdgdhkfaa", sum := "6cca990c775025b11bafeff0c5527f609c2e5777efd758442c8687e321ac28a1", func := "noria/norialaw07.AvailPlays", spec := "availPlays", inPlace := ["internal/reflectlite.TypeOf"], unfollowed := true, recurses := true, apart := false, narrowed := true }
def AvailPlaysUptoSaid : Prop := availPlaysUptoRow.holds Try.pinned (OpenSpec.upto availPlaysSpec)

/-- 'norialaw07.AvailRounds', WHERE WHAT IT READS IS OF BULK AT MOST 1048576: true; the input reads as it did. -/
def availRoundsUptoRow : OpenClaim := { program := "ytnimmkgdgdhkfaa", sum := "6cca990c775025b11bafeff0c5527f609c2e5777efd758442c8687e321ac28a1", func := "noria/norialaw07.AvailRounds", spec := "availRounds", apart := false, narrowed := true }
def AvailRoundsUptoSaid : Prop := availRoundsUptoRow.holds Try.pinned (OpenSpec.upto availRoundsSpec)

/-- 'norialaw07.AvailNil', WHERE WHAT IT READS IS OF BULK AT MOST 1048576: true; the input reads as it did. -/
def availNilUptoRow : OpenClaim := { program := "ytnimmkgdgdhkfaa", sum := "6cca990c775025b11bafeff0c5527f609c2e5777efd758442c8687e321ac28a1", func := "noria/norialaw07.AvailNil", spec := "availNil", inPlace := ["internal/reflectlite.TypeOf"], unfollowed := true, recurses := true, apart := false, narrowed := true }
def AvailNilUptoSaid : Prop := availNilUptoRow.holds Try.pinned (OpenSpec.upto availNilSpec)

end Rows
end Go.Proofs.Ytnimmkgdgdhkfaa
