/-
  No cell of these rows narrows 'for every input' (looked for: loops, veiled, ifaces, maps, wideKeys, modest, calm, conditions, laid).
  DERIVED. THE GIVEN ROWS OF THIS SEAT. 12 by the template 'for every input the law returns true; each argument reads behind the call as it read before'; 0 by the template 'total and deterministic' (their statements: YtjadapjjilegnaaTotals.lean).
  GIVEN WITH THE SEED: the statements are not yours to turn. If you find one false, say at which input.
  Laid BY PROGRAM, IN A SANDBOX (cutbox-rows.mjs): the forced cells as the released guide's own fill.sh prints them over the translation 79ab83a55c0803bf… (all of the seat's roots in one cut). By AI agents, Wed Nov 11 2026. No macro, syntax, notation, axiom, sorry.
-/
import Derived.Test.YtjadapjjilegnaaChecked
import GoSem.Claim
import GoSem.ClaimJoined
import GoSem.ClaimMapViews
import Derived.JoinedTies
import Derived.KernelRfl
namespace Go.Proofs.Ytjadapjjilegnaa
/- THE CELL 'sum', in the pinned program and in every row, IS THE sha256 OF THE DUMP (.gsa) THAT YtjadapjjilegnaaProg.lean LOADS. Nothing in Lean hashes anything: it is a label: what it is worth is what the hold of that sum in a sandbox is worth. -/
noncomputable def Try.pinned : Pinned := { name := "ytjadapjjilegnaa", sum := "79ab83a55c0803bf2453abeb5269544d6e1d0f68ee1942cd173558b4bcc36188", checked := Try.checked }
namespace Rows
def none {H : Type} : Left H := { results := [], args := [] }

/-- 'norialaw14.RoomTimes': WHATEVER THE INPUT: true; the input reads as it did. -/
def roomTimesSpec : ChangeSpec := { name := "roomTimes", fn := fun _ => fun
  | [d1, d2, d3] => { results := [.lit (.bool true)], args := [d1, d2, d3] }
  | _ => none }
def roomTimesRow : OpenClaim := { program := "ytjadapjjilegnaa", sum := "79ab83a55c0803bf2453abeb5269544d6e1d0f68ee1942cd173558b4bcc36188", func := "noria/norialaw14.RoomTimes", spec := "roomTimes", inPlace := ["slices.overlaps[noria/clock.timer]"], unfollowed := true, recurses := true, apart := false }
def RoomTimesSaid : Prop := roomTimesRow.holds Try.pinned (OpenSpec.ofChange roomTimesSpec)

/-- ITS FALSE NEIGHBOUR: 'it returns false'. Refute it at one input. -/
def roomTimesWrong : ChangeSpec := { name := "roomTimes", fn := fun _ => fun
  | [d1, d2, d3] => { results := [.lit (.bool false)], args := [d1, d2, d3] }
  | _ => none }
def RoomTimesWrongFalsely : Prop := roomTimesRow.holds Try.pinned (OpenSpec.ofChange roomTimesWrong)

/-- 'norialaw14.RoomJoins': WHATEVER THE INPUT: true; the input reads as it did. -/
def roomJoinsSpec : ChangeSpec := { name := "roomJoins", fn := fun _ => fun
  | [d] => { results := [.lit (.bool true)], args := [d] }
  | _ => none }
def roomJoinsRow : OpenClaim := { program := "ytjadapjjilegnaa", sum := "79ab83a55c0803bf2453abeb5269544d6e1d0f68ee1942cd173558b4bcc36188", func := "noria/norialaw14.RoomJoins", spec := "roomJoins", inPlace := ["slices.overlaps[noria/clock.timer]", "internal/reflectlite.TypeOf"], unfollowed := true, recurses := true, apart := false }
def RoomJoinsSaid : Prop := roomJoinsRow.holds Try.pinned (OpenSpec.ofChange roomJoinsSpec)

/-- ITS FALSE NEIGHBOUR: 'it returns false'. Refute it at one input. -/
def roomJoinsWrong : ChangeSpec := { name := "roomJoins", fn := fun _ => fun
  | [d] => { results := [.lit (.bool false)], args := [d] }
  | _ => none }
def RoomJoinsWrongFalsely : Prop := roomJoinsRow.holds Try.pinned (OpenSpec.ofChange roomJoinsWrong)

/-- 'norialaw03.CellsPlays': WHATEVER THE INPUT: true; the input reads as it did. -/
def cellsPlaysSpec : ChangeSpec := { name := "cellsPlays", fn := fun _ => fun
  | [d] => { results := [.lit (.bool true)], args := [d] }
  | _ => none }
def cellsPlaysRow : OpenClaim := { program := "ytjadapjjilegnaa", sum := "79ab83a55c0803bf2453abeb5269544d6e1d0f68ee1942cd173558b4bcc36188", func := "noria/norialaw03.CellsPlays", spec := "cellsPlays", inPlace := ["internal/reflectlite.TypeOf"], unfollowed := true, recurses := true, apart := false }
def CellsPlaysSaid : Prop := cellsPlaysRow.holds Try.pinned (OpenSpec.ofChange cellsPlaysSpec)

/-- ITS FALSE NEIGHBOUR: 'it returns false'. Refute it at one input. -/
def cellsPlaysWrong : ChangeSpec := { name := "cellsPlays", fn := fun _ => fun
  | [d] => { results := [.lit (.bool false)], args := [d] }
  | _ => none }
def CellsPlaysWrongFalsely : Prop := cellsPlaysRow.holds Try.pinned (OpenSpec.ofChange cellsPlaysWrong)

/-- 'norialaw04.ClockPlays': WHATEVER THE INPUT: true; the input reads as it did. -/
def clockPlaysSpec : ChangeSpec := { name := "clockPlays", fn := fun _ => fun
  | [d] => { results := [.lit (.bool true)], args := [d] }
  | _ => none }
def clockPlaysRow : OpenClaim := { program := "ytjadapjjilegnaa", sum := "79ab83a55c0803bf2453abeb5269544d6e1d0f68ee1942cd173558b4bcc36188", func := "noria/norialaw04.ClockPlays", spec := "clockPlays", inPlace := ["slices.overlaps[noria/clock.timer]", "internal/reflectlite.TypeOf"], unfollowed := true, recurses := true, apart := false }
def ClockPlaysSaid : Prop := clockPlaysRow.holds Try.pinned (OpenSpec.ofChange clockPlaysSpec)

/-- ITS FALSE NEIGHBOUR: 'it returns false'. Refute it at one input. -/
def clockPlaysWrong : ChangeSpec := { name := "clockPlays", fn := fun _ => fun
  | [d] => { results := [.lit (.bool false)], args := [d] }
  | _ => none }
def ClockPlaysWrongFalsely : Prop := clockPlaysRow.holds Try.pinned (OpenSpec.ofChange clockPlaysWrong)

/-- 'norialaw05.ActorPlays': WHATEVER THE INPUT: true; the input reads as it did. -/
def actorPlaysSpec : ChangeSpec := { name := "actorPlays", fn := fun _ => fun
  | [d1, d2] => { results := [.lit (.bool true)], args := [d1, d2] }
  | _ => none }
def actorPlaysRow : OpenClaim := { program := "ytjadapjjilegnaa", sum := "79ab83a55c0803bf2453abeb5269544d6e1d0f68ee1942cd173558b4bcc36188", func := "noria/norialaw05.ActorPlays", spec := "actorPlays", inPlace := ["internal/reflectlite.TypeOf"], unfollowed := true, recurses := true, apart := false }
def ActorPlaysSaid : Prop := actorPlaysRow.holds Try.pinned (OpenSpec.ofChange actorPlaysSpec)

/-- ITS FALSE NEIGHBOUR: 'it returns false'. Refute it at one input. -/
def actorPlaysWrong : ChangeSpec := { name := "actorPlays", fn := fun _ => fun
  | [d1, d2] => { results := [.lit (.bool false)], args := [d1, d2] }
  | _ => none }
def ActorPlaysWrongFalsely : Prop := actorPlaysRow.holds Try.pinned (OpenSpec.ofChange actorPlaysWrong)

/-- 'norialaw07.AvailRounds': WHATEVER THE INPUT: true; the input reads as it did. -/
def availRoundsSpec : ChangeSpec := { name := "availRounds", fn := fun _ => fun
  | [d1, d2, d3] => { results := [.lit (.bool true)], args := [d1, d2, d3] }
  | _ => none }
def availRoundsRow : OpenClaim := { program := "ytjadapjjilegnaa", sum := "79ab83a55c0803bf2453abeb5269544d6e1d0f68ee1942cd173558b4bcc36188", func := "noria/norialaw07.AvailRounds", spec := "availRounds", apart := false }
def AvailRoundsSaid : Prop := availRoundsRow.holds Try.pinned (OpenSpec.ofChange availRoundsSpec)

/-- ITS FALSE NEIGHBOUR: 'it returns false'. Refute it at one input. -/
def availRoundsWrong : ChangeSpec := { name := "availRounds", fn := fun _ => fun
  | [d1, d2, d3] => { results := [.lit (.bool false)], args := [d1, d2, d3] }
  | _ => none }
def AvailRoundsWrongFalsely : Prop := availRoundsRow.holds Try.pinned (OpenSpec.ofChange availRoundsWrong)

/-- 'norialaw10.MultiPlays': WHATEVER THE INPUT: true; the input reads as it did. -/
def multiPlaysSpec : ChangeSpec := { name := "multiPlays", fn := fun _ => fun
  | [d1, d2, d3] => { results := [.lit (.bool true)], args := [d1, d2, d3] }
  | _ => none }
def multiPlaysRow : OpenClaim := { program := "ytjadapjjilegnaa", sum := "79ab83a55c0803bf2453abeb5269544d6e1d0f68ee1942cd173558b4bcc36188", func := "noria/norialaw10.MultiPlays", spec := "multiPlays", inPlace := ["internal/reflectlite.TypeOf"], unfollowed := true, recurses := true, apart := false }
def MultiPlaysSaid : Prop := multiPlaysRow.holds Try.pinned (OpenSpec.ofChange multiPlaysSpec)

/-- ITS FALSE NEIGHBOUR: 'it returns false'. Refute it at one input. -/
def multiPlaysWrong : ChangeSpec := { name := "multiPlays", fn := fun _ => fun
  | [d1, d2, d3] => { results := [.lit (.bool false)], args := [d1, d2, d3] }
  | _ => none }
def MultiPlaysWrongFalsely : Prop := multiPlaysRow.holds Try.pinned (OpenSpec.ofChange multiPlaysWrong)

/-- 'norialaw02.PowSizes': WHATEVER THE INPUT: true; the input reads as it did. -/
def powSizesSpec : ChangeSpec := { name := "powSizes", fn := fun _ => fun
  | [d] => { results := [.lit (.bool true)], args := [d] }
  | _ => none }
def powSizesRow : OpenClaim := { program := "ytjadapjjilegnaa", sum := "79ab83a55c0803bf2453abeb5269544d6e1d0f68ee1942cd173558b4bcc36188", func := "noria/norialaw02.PowSizes", spec := "powSizes", inPlace := ["internal/reflectlite.TypeOf"], unfollowed := true, recurses := true, apart := false }
def PowSizesSaid : Prop := powSizesRow.holds Try.pinned (OpenSpec.ofChange powSizesSpec)

/-- ITS FALSE NEIGHBOUR: 'it returns false'. Refute it at one input. -/
def powSizesWrong : ChangeSpec := { name := "powSizes", fn := fun _ => fun
  | [d] => { results := [.lit (.bool false)], args := [d] }
  | _ => none }
def PowSizesWrongFalsely : Prop := powSizesRow.holds Try.pinned (OpenSpec.ofChange powSizesWrong)

/-- 'norialaw03.CellsNil': WHATEVER THE INPUT: true; the input reads as it did. -/
def cellsNilSpec : ChangeSpec := { name := "cellsNil", fn := fun _ => fun
  | [d1, d2] => { results := [.lit (.bool true)], args := [d1, d2] }
  | _ => none }
def cellsNilRow : OpenClaim := { program := "ytjadapjjilegnaa", sum := "79ab83a55c0803bf2453abeb5269544d6e1d0f68ee1942cd173558b4bcc36188", func := "noria/norialaw03.CellsNil", spec := "cellsNil", inPlace := ["internal/reflectlite.TypeOf"], unfollowed := true, recurses := true, apart := false }
def CellsNilSaid : Prop := cellsNilRow.holds Try.pinned (OpenSpec.ofChange cellsNilSpec)

/-- ITS FALSE NEIGHBOUR: 'it returns false'. Refute it at one input. -/
def cellsNilWrong : ChangeSpec := { name := "cellsNil", fn := fun _ => fun
  | [d1, d2] => { results := [.lit (.bool false)], args := [d1, d2] }
  | _ => none }
def CellsNilWrongFalsely : Prop := cellsNilRow.holds Try.pinned (OpenSpec.ofChange cellsNilWrong)

/-- 'norialaw08.GateLeast': WHATEVER THE INPUT: true; the input reads as it did. -/
def gateLeastSpec : ChangeSpec := { name := "gateLeast", fn := fun _ => fun
  | [d1, d2, d3] => { results := [.lit (.bool true)], args := [d1, d2, d3] }
  | _ => none }
def gateLeastRow : OpenClaim := { program := "ytjadapjjilegnaa", sum := "79ab83a55c0803bf2453abeb5269544d6e1d0f68ee1942cd173558b4bcc36188", func := "noria/norialaw08.GateLeast", spec := "gateLeast", apart := false }
def GateLeastSaid : Prop := gateLeastRow.holds Try.pinned (OpenSpec.ofChange gateLeastSpec)

/-- ITS FALSE NEIGHBOUR: 'it returns false'. Refute it at one input. -/
def gateLeastWrong : ChangeSpec := { name := "gateLeast", fn := fun _ => fun
  | [d1, d2, d3] => { results := [.lit (.bool false)], args := [d1, d2, d3] }
  | _ => none }
def GateLeastWrongFalsely : Prop := gateLeastRow.holds Try.pinned (OpenSpec.ofChange gateLeastWrong)

/-- 'norialaw10.MultiTries': WHATEVER THE INPUT: true; the input reads as it did. -/
def multiTriesSpec : ChangeSpec := { name := "multiTries", fn := fun _ => fun
  | [d1, d2] => { results := [.lit (.bool true)], args := [d1, d2] }
  | _ => none }
def multiTriesRow : OpenClaim := { program := "ytjadapjjilegnaa", sum := "79ab83a55c0803bf2453abeb5269544d6e1d0f68ee1942cd173558b4bcc36188", func := "noria/norialaw10.MultiTries", spec := "multiTries", inPlace := ["internal/reflectlite.TypeOf"], unfollowed := true, recurses := true, apart := false }
def MultiTriesSaid : Prop := multiTriesRow.holds Try.pinned (OpenSpec.ofChange multiTriesSpec)

/-- ITS FALSE NEIGHBOUR: 'it returns false'. Refute it at one input. -/
def multiTriesWrong : ChangeSpec := { name := "multiTries", fn := fun _ => fun
  | [d1, d2] => { results := [.lit (.bool false)], args := [d1, d2] }
  | _ => none }
def MultiTriesWrongFalsely : Prop := multiTriesRow.holds Try.pinned (OpenSpec.ofChange multiTriesWrong)

/-- 'norialaw10.MultiShares': WHATEVER THE INPUT: true; the input reads as it did. -/
def multiSharesSpec : ChangeSpec := { name := "multiShares", fn := fun _ => fun
  | [d1, d2] => { results := [.lit (.bool true)], args := [d1, d2] }
  | _ => none }
def multiSharesRow : OpenClaim := { program := "ytjadapjjilegnaa", sum := "79ab83a55c0803bf2453abeb5269544d6e1d0f68ee1942cd173558b4bcc36188", func := "noria/norialaw10.MultiShares", spec := "multiShares", apart := false }
def MultiSharesSaid : Prop := multiSharesRow.holds Try.pinned (OpenSpec.ofChange multiSharesSpec)

/-- ITS FALSE NEIGHBOUR: 'it returns false'. Refute it at one input. -/
def multiSharesWrong : ChangeSpec := { name := "multiShares", fn := fun _ => fun
  | [d1, d2] => { results := [.lit (.bool false)], args := [d1, d2] }
  | _ => none }
def MultiSharesWrongFalsely : Prop := multiSharesRow.holds Try.pinned (OpenSpec.ofChange multiSharesWrong)

/- THE SECOND FORM. 'bulk': how many values and letters a reading holds, each counted each time it is reached (what is shared counts as often as it is met; a slice's spare places count too). A statement '..UptoSaid' is the law's where the arguments, and the package variables that the reading takes, are together of bulk at most 1048576: NARROWER than '..Said'. Prove '..Said' where nothing that the law and all that it calls make is longer than what came in: it says more and counts as full. Else prove '..UptoSaid'. A law counts once. -/
mutual
def uptoBulk {H : Type} : DataW H → Nat
  | .lit (.string bytes) => bytes.length + 1
  | .lit _ => 1
  | .nil => 1
  | .ptr d => uptoBulk d + 1
  | .slice elems spare => uptoBulkAll elems + uptoBulkAll spare + 1
  | .agg parts => uptoBulkAll parts + 1
  | .iface _ d => uptoBulk d + 1
  | .map entries => uptoBulkEntries entries + 1
  | .held _ => 1
def uptoBulkAll {H : Type} : List (DataW H) → Nat
  | [] => 0
  | d :: r => uptoBulk d + uptoBulkAll r
def uptoBulkEntries {H : Type} : List (Lit × DataW H) → Nat
  | [] => 0
  | x :: r => uptoBulkEntry x + uptoBulkEntries r
def uptoBulkEntry {H : Type} : Lit × DataW H → Nat
  | (.string bytes, d) => bytes.length + uptoBulk d + 1
  | (_, d) => uptoBulk d + 1
 end
def uptoSmall : (H : Type) → List (DataW H) → Bool := fun _ ds => decide (uptoBulkAll ds ≤ 1048576)
def OpenSpec.upto (s : _root_.Go.ChangeSpec) : _root_.Go.OpenSpec := { _root_.Go.OpenSpec.ofChange s with cond := some uptoSmall }

/-- 'norialaw14.RoomTimes', WHERE WHAT IT READS IS OF BULK AT MOST 1048576: true; the input reads as it did. -/
def roomTimesUptoRow : OpenClaim := { program := "ytjadapjjilegnaa", sum := "79ab83a55c0803bf2453abeb5269544d6e1d0f68ee1942cd173558b4bcc36188", func := "noria/norialaw14.RoomTimes", spec := "roomTimes", inPlace := ["slices.overlaps[noria/clock.timer]"], unfollowed := true, recurses := true, apart := false, narrowed := true }
def RoomTimesUptoSaid : Prop := roomTimesUptoRow.holds Try.pinned (OpenSpec.upto roomTimesSpec)

/-- 'norialaw14.RoomJoins', WHERE WHAT IT READS IS OF BULK AT MOST 1048576: true; the input reads as it did. -/
def roomJoinsUptoRow : OpenClaim := { program := "ytjadapjjilegnaa", sum := "79ab83a55c0803bf2453abeb5269544d6e1d0f68ee1942cd173558b4bcc36188", func := "noria/norialaw14.RoomJoins", spec := "roomJoins", inPlace := ["slices.overlaps[noria/clock.timer]", "internal/reflectlite.TypeOf"], unfollowed := true, recurses := true, apart := false, narrowed := true }
def RoomJoinsUptoSaid : Prop := roomJoinsUptoRow.holds Try.pinned (OpenSpec.upto roomJoinsSpec)

/-- 'norialaw03.CellsPlays', WHERE WHAT IT READS IS OF BULK AT MOST 1048576: true; the input reads as it did. -/
def cellsPlaysUptoRow : OpenClaim := { program := "ytjadapjjilegnaa", sum := "79ab83a55c0803bf2453abeb5269544d6e1d0f68ee1942cd173558b4bcc36188", func := "noria/norialaw03.CellsPlays", spec := "cellsPlays", inPlace := ["internal/reflectlite.TypeOf"], unfollowed := true, recurses := true, apart := false, narrowed := true }
def CellsPlaysUptoSaid : Prop := cellsPlaysUptoRow.holds Try.pinned (OpenSpec.upto cellsPlaysSpec)

/-- 'norialaw04.ClockPlays', WHERE WHAT IT READS IS OF BULK AT MOST 1048576: true; the input reads as it did. -/
def clockPlaysUptoRow : OpenClaim := { program := "ytjadapjjilegnaa", sum := "79ab83a55c0803bf2453abeb5269544d6e1d0f68ee1942cd173558b4bcc36188", func := "noria/norialaw04.ClockPlays", spec := "clockPlays", inPlace := ["slices.overlaps[noria/clock.timer]", "internal/reflectlite.TypeOf"], unfollowed := true, recurses := true, apart := false, narrowed := true }
def ClockPlaysUptoSaid : Prop := clockPlaysUptoRow.holds Try.pinned (OpenSpec.upto clockPlaysSpec)

/-- 'norialaw05.ActorPlays', WHERE WHAT IT READS IS OF BULK AT MOST 1048576: true; the input reads as it did. -/
def actorPlaysUptoRow : OpenClaim := { program := "ytjadapjjilegnaa", sum := "79ab83a55c0803bf2453abeb5269544d6e1d0f68ee1942cd173558b4bcc36188", func := "noria/norialaw05.ActorPlays", spec := "actorPlays", inPlace := ["internal/reflectlite.TypeOf"], unfollowed := true, recurses := true, apart := false, narrowed := true }
def ActorPlaysUptoSaid : Prop := actorPlaysUptoRow.holds Try.pinned (OpenSpec.upto actorPlaysSpec)

/-- 'norialaw07.AvailRounds', WHERE WHAT IT READS IS OF BULK AT MOST 1048576: true; the input reads as it did. -/
def availRoundsUptoRow : OpenClaim := { program := "ytjadapjjilegnaa", sum := "79ab83a55c0803bf2453abeb5269544d6e1d0f68ee1942cd173558b4bcc36188", func := "noria/norialaw07.AvailRounds", spec := "availRounds", apart := false, narrowed := true }
def AvailRoundsUptoSaid : Prop := availRoundsUptoRow.holds Try.pinned (OpenSpec.upto availRoundsSpec)

/-- 'norialaw10.MultiPlays', WHERE WHAT IT READS IS OF BULK AT MOST 1048576: true; the input reads as it did. -/
def multiPlaysUptoRow : OpenClaim := { program := "ytjadapjjilegnaa", sum := "79ab83a55c0803bf2453abeb5269544d6e1d0f68ee1942cd173558b4bcc36188", func := "noria/norialaw10.MultiPlays", spec := "multiPlays", inPlace := ["internal/reflectlite.TypeOf"], unfollowed := true, recurses := true, apart := false, narrowed := true }
def MultiPlaysUptoSaid : Prop := multiPlaysUptoRow.holds Try.pinned (OpenSpec.upto multiPlaysSpec)

/-- 'norialaw02.PowSizes', WHERE WHAT IT READS IS OF BULK AT MOST 1048576: true; the input reads as it did. -/
def powSizesUptoRow : OpenClaim := { program := "ytjadapjjilegnaa", sum := "79ab83a55c0803bf2453abeb5269544d6e1d0f68ee1942cd173558b4bcc36188", func := "noria/norialaw02.PowSizes", spec := "powSizes", inPlace := ["internal/reflectlite.TypeOf"], unfollowed := true, recurses := true, apart := false, narrowed := true }
def PowSizesUptoSaid : Prop := powSizesUptoRow.holds Try.pinned (OpenSpec.upto powSizesSpec)

/-- 'norialaw03.CellsNil', WHERE WHAT IT READS IS OF BULK AT MOST 1048576: true; the input reads as it did. -/
def cellsNilUptoRow : OpenClaim := { program := "ytjadapjjilegnaa", sum := "79ab83a55c0803bf2453abeb5269544d6e1d0f68ee1942cd173558b4bcc36188", func := "noria/norialaw03.CellsNil", spec := "cellsNil", inPlace := ["internal/reflectlite.TypeOf"], unfollowed := true, recurses := true, apart := false, narrowed := true }
def CellsNilUptoSaid : Prop := cellsNilUptoRow.holds Try.pinned (OpenSpec.upto cellsNilSpec)

/-- 'norialaw08.GateLeast', WHERE WHAT IT READS IS OF BULK AT MOST 1048576: true; the input reads as it did. -/
def gateLeastUptoRow : OpenClaim := { program := "ytjadapjjilegnaa", sum := "79ab83a55c0803bf2453abeb5269544d6e1d0f68ee1942cd173558b4bcc36188", func := "noria/norialaw08.GateLeast", spec := "gateLeast", apart := false, narrowed := true }
def GateLeastUptoSaid : Prop := gateLeastUptoRow.holds Try.pinned (OpenSpec.upto gateLeastSpec)

/-- 'norialaw10.MultiTries', WHERE WHAT IT READS IS OF BULK AT MOST 1048576: true; the input reads as it did. -/
def multiTriesUptoRow : OpenClaim := { program := "ytjadapjjilegnaa", sum := "79ab83a55c0803bf2453abeb5269544d6e1d0f68ee1942cd173558b4bcc36188", func := "noria/norialaw10.MultiTries", spec := "multiTries", inPlace := ["internal/reflectlite.TypeOf"], unfollowed := true, recurses := true, apart := false, narrowed := true }
def MultiTriesUptoSaid : Prop := multiTriesUptoRow.holds Try.pinned (OpenSpec.upto multiTriesSpec)

/-- 'norialaw10.MultiShares', WHERE WHAT IT READS IS OF BULK AT MOST 1048576: true; the input reads as it did. -/
def multiSharesUptoRow : OpenClaim := { program := "ytjadapjjilegnaa", sum := "79ab83a55c0803bf2453abeb5269544d6e1d0f68ee1942cd173558b4bcc36188", func := "noria/norialaw10.MultiShares", spec := "multiShares", apart := false, narrowed := true }
def MultiSharesUptoSaid : Prop := multiSharesUptoRow.holds Try.pinned (OpenSpec.upto multiSharesSpec)

end Rows
end Go.Proofs.Ytjadapjjilegnaa
