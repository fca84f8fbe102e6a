/-
  No cell of these rows narrows 'for every input' (looked for: loops, veiled, ifaces, maps, wideKeys, modest, calm, conditions, laid).
  DERIVED. THE GIVEN ROWS OF THIS SEAT. 5 by the template 'for every input the law returns true; each argument reads behind the call as it read before'; 0 by the template 'total and deterministic' (their statements: YtdfcfdcekdmcmaaGreatTotals.lean).
  GIVEN WITH THE SEED: the statements are not yours to turn. If you find one false, say at which input.
  Laid BY PROGRAM, IN A SANDBOX (cutbox-rows.mjs): the forced cells as the released guide's own fill.sh prints them over the translation 25640c0a50904b28… (all of the seat's roots in one cut). By AI agents, Wed Nov 11 2026. No macro, syntax, notation, axiom, sorry.
-/
import Derived.Test.YtdfcfdcekdmcmaaGreatChecked
import GoSem.Claim
import GoSem.ClaimJoined
import GoSem.ClaimMapViews
import Derived.JoinedTies
import Derived.KernelRfl
namespace Go.Proofs.YtdfcfdcekdmcmaaGreat
/- THE CELL 'sum', in the pinned program and in every row, IS THE sha256 OF THE DUMP (.gsa) THAT YtdfcfdcekdmcmaaGreatProg.lean LOADS. Nothing in Lean hashes anything: it is a label: what it is worth is what the hold of that sum in a sandbox is worth. -/
noncomputable def Tryz.pinned : Pinned := { name := "ytdfcfdcekdmcmaagreat", sum := "25640c0a50904b28081d0b26cd56f2a7e87f43ef1c6622cda92bd627670bce58", checked := Tryz.checked }
namespace Rows
def none {H : Type} : Left H := { results := [], args := [] }

/-- 'norialaw14.RoomPlays': WHATEVER THE INPUT: true; the input reads as it did. -/
def roomPlaysSpec : ChangeSpec := { name := "roomPlays", fn := fun _ => fun
  | [d] => { results := [.lit (.bool true)], args := [d] }
  | _ => none }
def roomPlaysRow : OpenClaim := { program := "ytdfcfdcekdmcmaagreat", sum := "25640c0a50904b28081d0b26cd56f2a7e87f43ef1c6622cda92bd627670bce58", func := "noria/norialaw14.RoomPlays", spec := "roomPlays", inPlace := ["slices.overlaps[noria/clock.timer]", "internal/reflectlite.TypeOf"], unfollowed := true, recurses := true, apart := false }
def RoomPlaysSaid : Prop := roomPlaysRow.holds Tryz.pinned (OpenSpec.ofChange roomPlaysSpec)

/-- ITS FALSE NEIGHBOUR: 'it returns false'. Refute it at one input. -/
def roomPlaysWrong : ChangeSpec := { name := "roomPlays", fn := fun _ => fun
  | [d] => { results := [.lit (.bool false)], args := [d] }
  | _ => none }
def RoomPlaysWrongFalsely : Prop := roomPlaysRow.holds Tryz.pinned (OpenSpec.ofChange roomPlaysWrong)

/-- 'norialaw14.RoomNews': WHATEVER THE INPUT: true; the input reads as it did. -/
def roomNewsSpec : ChangeSpec := { name := "roomNews", fn := fun _ => fun
  | [d1, d2] => { results := [.lit (.bool true)], args := [d1, d2] }
  | _ => none }
def roomNewsRow : OpenClaim := { program := "ytdfcfdcekdmcmaagreat", sum := "25640c0a50904b28081d0b26cd56f2a7e87f43ef1c6622cda92bd627670bce58", func := "noria/norialaw14.RoomNews", spec := "roomNews", inPlace := ["slices.overlaps[noria/clock.timer]", "internal/reflectlite.TypeOf"], unfollowed := true, recurses := true, apart := false }
def RoomNewsSaid : Prop := roomNewsRow.holds Tryz.pinned (OpenSpec.ofChange roomNewsSpec)

/-- ITS FALSE NEIGHBOUR: 'it returns false'. Refute it at one input. -/
def roomNewsWrong : ChangeSpec := { name := "roomNews", fn := fun _ => fun
  | [d1, d2] => { results := [.lit (.bool false)], args := [d1, d2] }
  | _ => none }
def RoomNewsWrongFalsely : Prop := roomNewsRow.holds Tryz.pinned (OpenSpec.ofChange roomNewsWrong)

/-- 'norialaw14.RoomKinds': WHATEVER THE INPUT: true; the input reads as it did. -/
def roomKindsSpec : ChangeSpec := { name := "roomKinds", fn := fun _ => fun
  | [d1, d2] => { results := [.lit (.bool true)], args := [d1, d2] }
  | _ => none }
def roomKindsRow : OpenClaim := { program := "ytdfcfdcekdmcmaagreat", sum := "25640c0a50904b28081d0b26cd56f2a7e87f43ef1c6622cda92bd627670bce58", func := "noria/norialaw14.RoomKinds", spec := "roomKinds", inPlace := ["slices.overlaps[noria/clock.timer]"], unfollowed := true, recurses := true, apart := false }
def RoomKindsSaid : Prop := roomKindsRow.holds Tryz.pinned (OpenSpec.ofChange roomKindsSpec)

/-- ITS FALSE NEIGHBOUR: 'it returns false'. Refute it at one input. -/
def roomKindsWrong : ChangeSpec := { name := "roomKinds", fn := fun _ => fun
  | [d1, d2] => { results := [.lit (.bool false)], args := [d1, d2] }
  | _ => none }
def RoomKindsWrongFalsely : Prop := roomKindsRow.holds Tryz.pinned (OpenSpec.ofChange roomKindsWrong)

/-- 'norialaw14.RoomCells': WHATEVER THE INPUT: true; the input reads as it did. -/
def roomCellsSpec : ChangeSpec := { name := "roomCells", fn := fun _ => fun
  | [d1, d2, d3] => { results := [.lit (.bool true)], args := [d1, d2, d3] }
  | _ => none }
def roomCellsRow : OpenClaim := { program := "ytdfcfdcekdmcmaagreat", sum := "25640c0a50904b28081d0b26cd56f2a7e87f43ef1c6622cda92bd627670bce58", func := "noria/norialaw14.RoomCells", spec := "roomCells", inPlace := ["slices.overlaps[noria/clock.timer]"], unfollowed := true, recurses := true, apart := false }
def RoomCellsSaid : Prop := roomCellsRow.holds Tryz.pinned (OpenSpec.ofChange roomCellsSpec)

/-- ITS FALSE NEIGHBOUR: 'it returns false'. Refute it at one input. -/
def roomCellsWrong : ChangeSpec := { name := "roomCells", fn := fun _ => fun
  | [d1, d2, d3] => { results := [.lit (.bool false)], args := [d1, d2, d3] }
  | _ => none }
def RoomCellsWrongFalsely : Prop := roomCellsRow.holds Tryz.pinned (OpenSpec.ofChange roomCellsWrong)

/-- 'norialaw14.RoomWrong': WHATEVER THE INPUT: true; the input reads as it did. -/
def roomWrongSpec : ChangeSpec := { name := "roomWrong", fn := fun _ => fun
  | [d1, d2, d3] => { results := [.lit (.bool true)], args := [d1, d2, d3] }
  | _ => none }
def roomWrongRow : OpenClaim := { program := "ytdfcfdcekdmcmaagreat", sum := "25640c0a50904b28081d0b26cd56f2a7e87f43ef1c6622cda92bd627670bce58", func := "noria/norialaw14.RoomWrong", spec := "roomWrong", inPlace := ["slices.overlaps[noria/clock.timer]", "internal/reflectlite.TypeOf"], unfollowed := true, recurses := true, apart := false }
def RoomWrongSaid : Prop := roomWrongRow.holds Tryz.pinned (OpenSpec.ofChange roomWrongSpec)

/-- ITS FALSE NEIGHBOUR: 'it returns false'. Refute it at one input. -/
def roomWrongWrong : ChangeSpec := { name := "roomWrong", fn := fun _ => fun
  | [d1, d2, d3] => { results := [.lit (.bool false)], args := [d1, d2, d3] }
  | _ => none }
def RoomWrongWrongFalsely : Prop := roomWrongRow.holds Tryz.pinned (OpenSpec.ofChange roomWrongWrong)

/- THE SECOND FORM. 'bulk': how many values and letters a reading holds, each counted each time it is reached (what is shared counts as often as it is met; a slice's spare places count too). A statement '..UptoSaid' is the law's where the arguments, and the package variables that the reading takes, are together of bulk at most 1048576: NARROWER than '..Said'. Prove '..Said' where nothing that the law and all that it calls make is longer than what came in: it says more and counts as full. Else prove '..UptoSaid'. A law counts once. -/
mutual
def uptoBulk {H : Type} : DataW H → Nat
  | .lit (.string bytes) => bytes.length + 1
  | .lit _ => 1
  | .nil => 1
  | .ptr d => uptoBulk d + 1
  | .slice elems spare => uptoBulkAll elems + uptoBulkAll spare + 1
  | .agg parts => uptoBulkAll parts + 1
  | .iface _ d => uptoBulk d + 1
  | .map entries => uptoBulkEntries entries + 1
  | .held _ => 1
def uptoBulkAll {H : Type} : List (DataW H) → Nat
  | [] => 0
  | d :: r => uptoBulk d + uptoBulkAll r
def uptoBulkEntries {H : Type} : List (Lit × DataW H) → Nat
  | [] => 0
  | x :: r => uptoBulkEntry x + uptoBulkEntries r
def uptoBulkEntry {H : Type} : Lit × DataW H → Nat
  | (.string bytes, d) => bytes.length + uptoBulk d + 1
  | (_, d) => uptoBulk d + 1
 end
def uptoSmall : (H : Type) → List (DataW H) → Bool := fun _ ds => decide (uptoBulkAll ds ≤ 1048576)
def OpenSpec.upto (s : _root_.Go.ChangeSpec) : _root_.Go.OpenSpec := { _root_.Go.OpenSpec.ofChange s with cond := some uptoSmall }

/-- 'norialaw14.RoomPlays', WHERE WHAT IT READS IS OF BULK AT MOST 1048576: true; the input reads as it did. -/
def roomPlaysUptoRow : OpenClaim := { program := "ytdfcfdcekdmcmaagreat", sum := "25640c0a50904b28081d0b26cd56f2a7e87f43ef1c6622cda92bd627670bce58", func := "noria/norialaw14.RoomPlays", spec := "roomPlays", inPlace := ["slices.overlaps[noria/clock.timer]", "internal/reflectlite.TypeOf"], unfollowed := true, recurses := true, apart := false, narrowed := true }
def RoomPlaysUptoSaid : Prop := roomPlaysUptoRow.holds Tryz.pinned (OpenSpec.upto roomPlaysSpec)

/-- 'norialaw14.RoomNews', WHERE WHAT IT READS IS OF BULK AT MOST 1048576: true; the input reads as it did. -/
def roomNewsUptoRow : OpenClaim := { program := "ytdfcfdcekdmcmaagreat", sum := "25640c0a50904b28081d0b26cd56f2a7e87f43ef1c6622cda92bd627670bce58", func := "noria/norialaw14.RoomNews", spec := "roomNews", inPlace := ["slices.overlaps[noria/clock.timer]", "internal/reflectlite.TypeOf"], unfollowed := true, recurses := true, apart := false, narrowed := true }
def RoomNewsUptoSaid : Prop := roomNewsUptoRow.holds Tryz.pinned (OpenSpec.upto roomNewsSpec)

/-- 'norialaw14.RoomKinds', WHERE WHAT IT READS IS OF BULK AT MOST 1048576: true; the input reads as it did. -/
def roomKindsUptoRow : OpenClaim := { program := "ytdfcfdcekdmcmaagreat", sum := "25640c0a50904b28081d0b26cd56f2a7e87f43ef1c6622cda92bd627670bce58", func := "noria/norialaw14.RoomKinds", spec := "roomKinds", inPlace := ["slices.overlaps[noria/clock.timer]"], unfollowed := true, recurses := true, apart := false, narrowed := true }
def RoomKindsUptoSaid : Prop := roomKindsUptoRow.holds Tryz.pinned (OpenSpec.upto roomKindsSpec)

/-- 'norialaw14.RoomCells', WHERE WHAT IT READS IS OF BULK AT MOST 1048576: true; the input reads as it did. -/
def roomCellsUptoRow : OpenClaim := { program := "ytdfcfdcekdmcmaagreat", sum := "25640c0a50904b28081d0b26cd56f2a7e87f43ef1c6622cda92bd627670bce58", func := "noria/norialaw14.RoomCells", spec := "roomCells", inPlace := ["slices.overlaps[noria/clock.timer]"], unfollowed := true, recurses := true, apart := false, narrowed := true }
def RoomCellsUptoSaid : Prop := roomCellsUptoRow.holds Tryz.pinned (OpenSpec.upto roomCellsSpec)

/-- 'norialaw14.RoomWrong', WHERE WHAT IT READS IS OF BULK AT MOST 1048576: true; the input reads as it did. -/
def roomWrongUptoRow : OpenClaim := { program := "ytdfcfdcekdmcmaagreat", sum := "25640c0a50904b28081d0b26cd56f2a7e87f43ef1c6622cda92bd627670bce58", func := "noria/norialaw14.RoomWrong", spec := "roomWrong", inPlace := ["slices.overlaps[noria/clock.timer]", "internal/reflectlite.TypeOf"], unfollowed := true, recurses := true, apart := false, narrowed := true }
def RoomWrongUptoSaid : Prop := roomWrongUptoRow.holds Tryz.pinned (OpenSpec.upto roomWrongSpec)

end Rows
end Go.Proofs.YtdfcfdcekdmcmaaGreat
