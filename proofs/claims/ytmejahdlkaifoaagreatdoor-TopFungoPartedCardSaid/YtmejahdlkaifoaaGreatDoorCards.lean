/-
  DERIVED. GIVEN WITH THE SEED: THE CARDS: each row of YtmejahdlkaifoaaGreatDoorRows.lean that lists a variable, with what it lists TIED to the program's text (the seventh form; the later family's looks); each row that meets fmt, with fmt's text TOLD by the authors' own Lean function (tested against real Go, not proved from fmt's source: count such statements apart). THE CARD IS WHAT COUNTS. Prove the row's statement (the work); the ties are given (YtmejahdlkaifoaaGreatDoorTie.lean); close each card by the builder's one call (the guide's Derived/Test/ToyasCard.lean, 'card_holds'). Laid BY PROGRAM, IN A SANDBOX (cutbox-door.mjs). By AI agents, Wed Nov 11 2026. No macro, syntax, notation, axiom, sorry.
-/
import Derived.Test.YtmejahdlkaifoaaGreatDoorRows
import GoSem.ClaimSeven
namespace Go.Proofs.YtmejahdlkaifoaaGreatDoor
namespace Rows

/-- THE TIED CARD OF 'dugouttop.TopFungoParted'. -/
def topFungoPartedCard : Claim7 := { stood := { row := topFungoPartedRow, standIns := [], harness := (true, "da0847181e91702e4de5dd9ae8ccf508dd971d9dce38a5c2199bd71a31de22b7"), looks := false }, kinds := [], alts := [], laidByText := true, laidKinds := [.data, .data, .data, .data], laidTests := true, laidLooks := .later }
def TopFungoPartedCardSaid : Prop := Claim7.holds Tryz.pinned (.plain (OpenSpec.ofChange topFungoPartedSpec)) topFungoPartedCard

/-- THE SECOND FORM's CARD OF 'dugouttop.TopFungoParted'. -/
def topFungoPartedUptoCard : Claim7 := { stood := { row := topFungoPartedUptoRow, standIns := [], harness := (true, "da0847181e91702e4de5dd9ae8ccf508dd971d9dce38a5c2199bd71a31de22b7"), looks := false }, kinds := [], alts := [], laidByText := true, laidKinds := [.data, .data, .data, .data], laidTests := true, laidLooks := .later }
def TopFungoPartedUptoCardSaid : Prop := Claim7.holds Tryz.pinned (.plain (OpenSpec.upto topFungoPartedSpec)) topFungoPartedUptoCard
end Rows
end Go.Proofs.YtmejahdlkaifoaaGreatDoor
