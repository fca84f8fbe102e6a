/-
  No cell of these rows narrows 'for every input' (looked for: loops, veiled, ifaces, maps, wideKeys, modest, calm, conditions, laid).
  DERIVED. THE GIVEN ROWS OF THIS SEAT. 4 by the template 'for every input the law returns true; each argument reads behind the call as it read before'; 0 by the template 'total and deterministic' (their statements: YtekligmejngkaaaTotals.lean).
  GIVEN WITH THE SEED: the statements are not yours to turn. If you find one false, say at which input.
  Laid BY PROGRAM, IN A SANDBOX (cutbox-rows.mjs): the forced cells as the released guide's own fill.sh prints them over the translation 564221d3908fd159… (all of the seat's roots in one cut). By AI agents, Wed Nov 11 2026. No macro, syntax, notation, axiom, sorry.
-/
import Derived.Test.YtekligmejngkaaaChecked
import GoSem.Claim
import GoSem.ClaimJoined
import GoSem.ClaimMapViews
import Derived.JoinedTies
import Derived.KernelRfl
namespace Go.Proofs.Ytekligmejngkaaa
/- THE CELL 'sum', in the pinned program and in every row, IS THE sha256 OF THE DUMP (.gsa) THAT YtekligmejngkaaaProg.lean LOADS. Nothing in Lean hashes anything: it is a label: what it is worth is what the hold of that sum in a sandbox is worth. -/
noncomputable def Try.pinned : Pinned := { name := "ytekligmejngkaaa", sum := "564221d3908fd15996dc6890563df7e0e08cf0d00a9dca4cb05540a88a6794ff", checked := Try.checked }
namespace Rows
def none {H : Type} : Left H := { results := [], args := [] }

/-- 'norialaw02.PowSizes': WHATEVER THE INPUT: true; the input reads as it did. -/
def powSizesSpec : ChangeSpec := { name := "powSizes", fn := fun _ => fun
  | [d] => { results := [.lit (.bool true)], args := [d] }
  | _ => none }
def powSizesRow : OpenClaim := { program := "ytekligmejngkaaa", sum := "564221d3908fd15996dc6890563df7e0e08cf0d00a9dca4cb05540a88a6794ff", func := "noria/norialaw02.PowSizes", spec := "powSizes", inPlace := ["internal/reflectlite.TypeOf"], unfollowed := true, recurses := true, apart := false }
def PowSizesSaid : Prop := powSizesRow.holds Try.pinned (OpenSpec.ofChange powSizesSpec)

/-- ITS FALSE NEIGHBOUR: 'it returns false'. Refute it at one input. -/
def powSizesWrong : ChangeSpec := { name := "powSizes", fn := fun _ => fun
  | [d] => { results := [.lit (.bool false)], args := [d] }
  | _ => none }
def PowSizesWrongFalsely : Prop := powSizesRow.holds Try.pinned (OpenSpec.ofChange powSizesWrong)

/-- 'norialaw02.PowPlaces': WHATEVER THE INPUT: true; the input reads as it did. -/
def powPlacesSpec : ChangeSpec := { name := "powPlaces", fn := fun _ => fun
  | [d1, d2] => { results := [.lit (.bool true)], args := [d1, d2] }
  | _ => none }
def powPlacesRow : OpenClaim := { program := "ytekligmejngkaaa", sum := "564221d3908fd15996dc6890563df7e0e08cf0d00a9dca4cb05540a88a6794ff", func := "noria/norialaw02.PowPlaces", spec := "powPlaces", inPlace := ["internal/reflectlite.TypeOf"], unfollowed := true, recurses := true, apart := false }
def PowPlacesSaid : Prop := powPlacesRow.holds Try.pinned (OpenSpec.ofChange powPlacesSpec)

/-- ITS FALSE NEIGHBOUR: 'it returns false'. Refute it at one input. -/
def powPlacesWrong : ChangeSpec := { name := "powPlaces", fn := fun _ => fun
  | [d1, d2] => { results := [.lit (.bool false)], args := [d1, d2] }
  | _ => none }
def PowPlacesWrongFalsely : Prop := powPlacesRow.holds Try.pinned (OpenSpec.ofChange powPlacesWrong)

/-- 'norialaw02.PowRooms': WHATEVER THE INPUT: true; the input reads as it did. -/
def powRoomsSpec : ChangeSpec := { name := "powRooms", fn := fun _ => fun
  | [d1, d2, d3, d4] => { results := [.lit (.bool true)], args := [d1, d2, d3, d4] }
  | _ => none }
def powRoomsRow : OpenClaim := { program := "ytekligmejngkaaa", sum := "564221d3908fd15996dc6890563df7e0e08cf0d00a9dca4cb05540a88a6794ff", func := "noria/norialaw02.PowRooms", spec := "powRooms", inPlace := ["internal/reflectlite.TypeOf"], unfollowed := true, recurses := true, apart := false }
def PowRoomsSaid : Prop := powRoomsRow.holds Try.pinned (OpenSpec.ofChange powRoomsSpec)

/-- ITS FALSE NEIGHBOUR: 'it returns false'. Refute it at one input. -/
def powRoomsWrong : ChangeSpec := { name := "powRooms", fn := fun _ => fun
  | [d1, d2, d3, d4] => { results := [.lit (.bool false)], args := [d1, d2, d3, d4] }
  | _ => none }
def PowRoomsWrongFalsely : Prop := powRoomsRow.holds Try.pinned (OpenSpec.ofChange powRoomsWrong)

/-- 'norialaw02.PowTurns': WHATEVER THE INPUT: true; the input reads as it did. -/
def powTurnsSpec : ChangeSpec := { name := "powTurns", fn := fun _ => fun
  | [d1, d2, d3] => { results := [.lit (.bool true)], args := [d1, d2, d3] }
  | _ => none }
def powTurnsRow : OpenClaim := { program := "ytekligmejngkaaa", sum := "564221d3908fd15996dc6890563df7e0e08cf0d00a9dca4cb05540a88a6794ff", func := "noria/norialaw02.PowTurns", spec := "powTurns", apart := false }
def PowTurnsSaid : Prop := powTurnsRow.holds Try.pinned (OpenSpec.ofChange powTurnsSpec)

/-- ITS FALSE NEIGHBOUR: 'it returns false'. Refute it at one input. -/
def powTurnsWrong : ChangeSpec := { name := "powTurns", fn := fun _ => fun
  | [d1, d2, d3] => { results := [.lit (.bool false)], args := [d1, d2, d3] }
  | _ => none }
def PowTurnsWrongFalsely : Prop := powTurnsRow.holds Try.pinned (OpenSpec.ofChange powTurnsWrong)

/- THE SECOND FORM. 'bulk': how many values and letters a reading holds, each counted each time it is reached (what is shared counts as often as it is met; a slice's spare places count too). A statement '..UptoSaid' is the law's where the arguments, and the package variables that the reading takes, are together of bulk at most 1048576: NARROWER than '..Said'. Prove '..Said' where nothing that the law and all that it calls make is longer than what came in: it says more and counts as full. Else prove '..UptoSaid'. A law counts once. -/
mutual
def uptoBulk {H : Type} : DataW H → Nat
  | .lit (.string bytes) => bytes.length + 1
  | .lit _ => 1
  | .nil => 1
  | .ptr d => uptoBulk d + 1
  | .slice elems spare => uptoBulkAll elems + uptoBulkAll spare + 1
  | .agg parts => uptoBulkAll parts + 1
  | .iface _ d => uptoBulk d + 1
  | .map entries => uptoBulkEntries entries + 1
  | .held _ => 1
def uptoBulkAll {H : Type} : List (DataW H) → Nat
  | [] => 0
  | d :: r => uptoBulk d + uptoBulkAll r
def uptoBulkEntries {H : Type} : List (Lit × DataW H) → Nat
  | [] => 0
  | x :: r => uptoBulkEntry x + uptoBulkEntries r
def uptoBulkEntry {H : Type} : Lit × DataW H → Nat
  | (.string bytes, d) => bytes.length + uptoBulk d + 1
  | (_, d) => uptoBulk d + 1
 end
def uptoSmall : (H : Type) → List (DataW H) → Bool := fun _ ds => decide (uptoBulkAll ds ≤ 1048576)
def OpenSpec.upto (s : _root_.Go.ChangeSpec) : _root_.Go.OpenSpec := { _root_.Go.OpenSpec.ofChange s with cond := some uptoSmall }

/-- 'norialaw02.PowSizes', WHERE WHAT IT READS IS OF BULK AT MOST 1048576: true; the input reads as it did. -/
def powSizesUptoRow : OpenClaim := { program := "ytekligmejngkaaa", sum := "564221d3908fd15996dc6890563df7e0e08cf0d00a9dca4cb05540a88a6794ff", func := "noria/norialaw02.PowSizes", spec := "powSizes", inPlace := ["internal/reflectlite.TypeOf"], unfollowed := true, recurses := true, apart := false, narrowed := true }
def PowSizesUptoSaid : Prop := powSizesUptoRow.holds Try.pinned (OpenSpec.upto powSizesSpec)

/-- 'norialaw02.PowPlaces', WHERE WHAT IT READS IS OF BULK AT MOST 1048576: true; the input reads as it did. -/
def powPlacesUptoRow : OpenClaim := { program := "ytekligmejngkaaa", sum := "564221d3908fd15996dc6890563df7e0e08cf0d00a9dca4cb05540a88a6794ff", func := "noria/norialaw02.PowPlaces", spec := "powPlaces", inPlace := ["internal/reflectlite.TypeOf"], unfollowed := true, recurses := true, apart := false, narrowed := true }
def PowPlacesUptoSaid : Prop := powPlacesUptoRow.holds Try.pinned (OpenSpec.upto powPlacesSpec)

/-- 'norialaw02.PowRooms', WHERE WHAT IT READS IS OF BULK AT MOST 1048576: true; the input reads as it did. -/
def powRoomsUptoRow : OpenClaim := { program := "ytekligmejngkaaa", sum := "564221d3908fd15996dc6890563df7e0e08cf0d00a9dca4cb05540a88a6794ff", func := "noria/norialaw02.PowRooms", spec := "powRooms", inPlace := ["internal/reflectlite.TypeOf"], unfollowed := true, recurses := true, apart := false, narrowed := true }
def PowRoomsUptoSaid : Prop := powRoomsUptoRow.holds Try.pinned (OpenSpec.upto powRoomsSpec)

/-- 'norialaw02.PowTurns', WHERE WHAT IT READS IS OF BULK AT MOST 1048576: true; the input reads as it did. -/
def powTurnsUptoRow : OpenClaim := { program := "ytekligmejngkaaa", sum := "564221d3908fd15996dc6890563df7e0e08cf0d00a9dca4cb05540a88a6794ff", func := "noria/norialaw02.PowTurns", spec := "powTurns", apart := false, narrowed := true }
def PowTurnsUptoSaid : Prop := powTurnsUptoRow.holds Try.pinned (OpenSpec.upto powTurnsSpec)

end Rows
end Go.Proofs.Ytekligmejngkaaa
