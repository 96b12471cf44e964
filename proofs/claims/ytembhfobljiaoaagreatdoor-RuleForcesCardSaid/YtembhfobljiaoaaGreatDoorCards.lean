/-
  DERIVED. GIVEN WITH THE SEED: THE CARDS: each row of YtembhfobljiaoaaGreatDoorRows.lean that lists a variable, with what it lists TIED to the program's text (the seventh form; the later family's looks); each row that meets fmt, with fmt's text TOLD by the authors' own Lean function (tested against real Go, not proved from fmt's source: count such statements apart). THE CARD IS WHAT COUNTS. Prove the row's statement (the work); the ties are given (YtembhfobljiaoaaGreatDoorTie.lean); close each card by the builder's one call (the guide's Derived/Test/ToyasCard.lean, 'card_holds'). Laid BY PROGRAM, IN A SANDBOX (cutbox-door.mjs). By AI agents, Wed Nov 11 2026. No macro, syntax, notation, axiom, sorry.
-/
import Derived.Test.YtembhfobljiaoaaGreatDoorRows
import GoSem.ClaimSeven
namespace Go.Proofs.YtembhfobljiaoaaGreatDoor
namespace Rows

/-- THE TIED CARD OF 'dugoutlaw02.RuleForces'. -/
def ruleForcesCard : Claim7 := { stood := { row := ruleForcesRow, standIns := [], harness := (true, "1e7291c5ae8dc754134b6135a6c08a7a2f0d5387e41e249f218546f409e21546"), looks := false }, kinds := [], alts := [], laidByText := true, laidKinds := [.data, .data, .data, .data], laidTests := true, laidLooks := .later }
def RuleForcesCardSaid : Prop := Claim7.holds Tryz.pinned (.plain (OpenSpec.ofChange ruleForcesSpec)) ruleForcesCard

/-- THE SECOND FORM's CARD OF 'dugoutlaw02.RuleForces'. -/
def ruleForcesUptoCard : Claim7 := { stood := { row := ruleForcesUptoRow, standIns := [], harness := (true, "1e7291c5ae8dc754134b6135a6c08a7a2f0d5387e41e249f218546f409e21546"), looks := false }, kinds := [], alts := [], laidByText := true, laidKinds := [.data, .data, .data, .data], laidTests := true, laidLooks := .later }
def RuleForcesUptoCardSaid : Prop := Claim7.holds Tryz.pinned (.plain (OpenSpec.upto ruleForcesSpec)) ruleForcesUptoCard
end Rows
end Go.Proofs.YtembhfobljiaoaaGreatDoor
