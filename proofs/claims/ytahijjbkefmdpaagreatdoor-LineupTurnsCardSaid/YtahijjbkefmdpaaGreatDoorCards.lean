/-
  DERIVED. GIVEN WITH THE SEED: THE CARDS: each row of YtahijjbkefmdpaaGreatDoorRows.lean that lists a variable, with what it lists TIED to the program's text (the seventh form; the later family's looks); each row that meets fmt, with fmt's text TOLD by the authors' own Lean function (tested against real Go, not proved from fmt's source: count such statements apart). THE CARD IS WHAT COUNTS. Prove the row's statement (the work); the ties are given (YtahijjbkefmdpaaGreatDoorTie.lean); close each card by the builder's one call (the guide's Derived/Test/ToyasCard.lean, 'card_holds'). Laid BY PROGRAM, IN A SANDBOX (cutbox-door.mjs). By AI agents, Wed Nov 11 2026. No macro, syntax, notation, axiom, sorry.
-/
import Derived.Test.YtahijjbkefmdpaaGreatDoorRows
import GoSem.ClaimSeven
namespace Go.Proofs.YtahijjbkefmdpaaGreatDoor
namespace Rows

/-- THE TIED CARD OF 'dugoutlaw03.LineupTurns'. -/
def lineupTurnsCard : Claim7 := { stood := { row := lineupTurnsRow, standIns := [], harness := (true, "4e230b6780158793d3d0e03a3c4777c2e93e15e5aa0ebb1b9df5e752754612cf"), looks := false }, kinds := [], alts := [], laidByText := true, laidKinds := [.data, .data, .data, .data, .pinned], laidTests := true, laidLooks := .later }
def LineupTurnsCardSaid : Prop := Claim7.holds Tryz.pinned (.plain (OpenSpec.ofChange lineupTurnsSpec)) lineupTurnsCard

/-- THE SECOND FORM's CARD OF 'dugoutlaw03.LineupTurns'. -/
def lineupTurnsUptoCard : Claim7 := { stood := { row := lineupTurnsUptoRow, standIns := [], harness := (true, "4e230b6780158793d3d0e03a3c4777c2e93e15e5aa0ebb1b9df5e752754612cf"), looks := false }, kinds := [], alts := [], laidByText := true, laidKinds := [.data, .data, .data, .data, .pinned], laidTests := true, laidLooks := .later }
def LineupTurnsUptoCardSaid : Prop := Claim7.holds Tryz.pinned (.plain (OpenSpec.upto lineupTurnsSpec)) lineupTurnsUptoCard
end Rows
end Go.Proofs.YtahijjbkefmdpaaGreatDoor
