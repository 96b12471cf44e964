/-
  DERIVED. GIVEN WITH THE SEED: THE CARDS: each row of YthdehohoafhnjaaGreatDoorRows.lean that lists a variable, with what it lists TIED to the program's text (the seventh form; the later family's looks); each row that meets fmt, with fmt's text TOLD by the authors' own Lean function (tested against real Go, not proved from fmt's source: count such statements apart). THE CARD IS WHAT COUNTS. Prove the row's statement (the work); the ties are given (YthdehohoafhnjaaGreatDoorTie.lean); close each card by the builder's one call (the guide's Derived/Test/ToyasCard.lean, 'card_holds'). Laid BY PROGRAM, IN A SANDBOX (cutbox-door.mjs). By AI agents, Wed Nov 11 2026. No macro, syntax, notation, axiom, sorry.
-/
import Derived.Test.YthdehohoafhnjaaGreatDoorRows
import GoSem.ClaimSeven
namespace Go.Proofs.YthdehohoafhnjaaGreatDoor
namespace Rows

/-- THE TIED CARD OF 'dugoutlaw03.LineupOrders'. -/
def lineupOrdersCard : Claim7 := { stood := { row := lineupOrdersRow, standIns := [], harness := (true, "57c26d93b3f3207f2f35216a129155985b6eecabc9d47df3945907044959a932"), looks := false }, kinds := [], alts := [], laidByText := true, laidKinds := [.data, .data, .data, .data, .pinned], laidTests := true, laidLooks := .later }
def LineupOrdersCardSaid : Prop := Claim7.holds Tryz.pinned (.plain (OpenSpec.ofChange lineupOrdersSpec)) lineupOrdersCard

/-- THE SECOND FORM's CARD OF 'dugoutlaw03.LineupOrders'. -/
def lineupOrdersUptoCard : Claim7 := { stood := { row := lineupOrdersUptoRow, standIns := [], harness := (true, "57c26d93b3f3207f2f35216a129155985b6eecabc9d47df3945907044959a932"), looks := false }, kinds := [], alts := [], laidByText := true, laidKinds := [.data, .data, .data, .data, .pinned], laidTests := true, laidLooks := .later }
def LineupOrdersUptoCardSaid : Prop := Claim7.holds Tryz.pinned (.plain (OpenSpec.upto lineupOrdersSpec)) lineupOrdersUptoCard
end Rows
end Go.Proofs.YthdehohoafhnjaaGreatDoor
