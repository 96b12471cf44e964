/-
  DERIVED. GIVEN WITH THE SEED: THE CARDS: each row of YthobdjmonidpoaaGreatDoorRows.lean that lists a variable, with what it lists TIED to the program's text (the seventh form; the later family's looks); each row that meets fmt, with fmt's text TOLD by the authors' own Lean function (tested against real Go, not proved from fmt's source: count such statements apart). THE CARD IS WHAT COUNTS. Prove the row's statement (the work); the ties are given (YthobdjmonidpoaaGreatDoorTie.lean); close each card by the builder's one call (the guide's Derived/Test/ToyasCard.lean, 'card_holds'). Laid BY PROGRAM, IN A SANDBOX (cutbox-door.mjs). By AI agents, Wed Nov 11 2026. No macro, syntax, notation, axiom, sorry.
-/
import Derived.Test.YthobdjmonidpoaaGreatDoorRows
import GoSem.ClaimSeven
namespace Go.Proofs.YthobdjmonidpoaaGreatDoor
namespace Rows

/-- THE TIED CARD OF 'dugoutlaw02.RuleGames'. -/
def ruleGamesCard : Claim7 := { stood := { row := ruleGamesRow, standIns := [], harness := (true, "1170535cca175efd902657cda903d5fa8d02a33557856ff4bb336172bc72ceca"), looks := false }, kinds := [], alts := [], laidByText := true, laidKinds := [.data, .data, .data, .data], laidTests := true, laidLooks := .later }
def RuleGamesCardSaid : Prop := Claim7.holds Tryz.pinned (.plain (OpenSpec.ofChange ruleGamesSpec)) ruleGamesCard

/-- THE SECOND FORM's CARD OF 'dugoutlaw02.RuleGames'. -/
def ruleGamesUptoCard : Claim7 := { stood := { row := ruleGamesUptoRow, standIns := [], harness := (true, "1170535cca175efd902657cda903d5fa8d02a33557856ff4bb336172bc72ceca"), looks := false }, kinds := [], alts := [], laidByText := true, laidKinds := [.data, .data, .data, .data], laidTests := true, laidLooks := .later }
def RuleGamesUptoCardSaid : Prop := Claim7.holds Tryz.pinned (.plain (OpenSpec.upto ruleGamesSpec)) ruleGamesUptoCard
end Rows
end Go.Proofs.YthobdjmonidpoaaGreatDoor
