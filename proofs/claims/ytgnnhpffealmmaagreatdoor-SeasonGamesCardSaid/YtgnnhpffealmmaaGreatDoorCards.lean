/-
  DERIVED. GIVEN WITH THE SEED: THE CARDS: each row of YtgnnhpffealmmaaGreatDoorRows.lean that lists a variable, with what it lists TIED to the program's text (the seventh form; the later family's looks); each row that meets fmt, with fmt's text TOLD by the authors' own Lean function (tested against real Go, not proved from fmt's source: count such statements apart). THE CARD IS WHAT COUNTS. Prove the row's statement (the work); the ties are given (YtgnnhpffealmmaaGreatDoorTie.lean); close each card by the builder's one call (the guide's Derived/Test/ToyasCard.lean, 'card_holds'). Laid BY PROGRAM, IN A SANDBOX (cutbox-door.mjs). By AI agents, Wed Nov 11 2026. No macro, syntax, notation, axiom, sorry.
-/
import Derived.Test.YtgnnhpffealmmaaGreatDoorRows
import GoSem.ClaimSeven
namespace Go.Proofs.YtgnnhpffealmmaaGreatDoor
namespace Rows

/-- THE TIED CARD OF 'dugoutlaw09.SeasonGames'. -/
def seasonGamesCard : Claim7 := { stood := { row := seasonGamesRow, standIns := [], harness := (true, "3eaad6119c0764fd7a4ff26379ba3fbab6ba4d337e755a90145943b758362ce8"), looks := false }, kinds := [], alts := [], laidByText := true, laidKinds := [.data, .data, .data, .data], laidTests := true, laidLooks := .later }
def SeasonGamesCardSaid : Prop := Claim7.holds Tryz.pinned (.plain (OpenSpec.ofChange seasonGamesSpec)) seasonGamesCard

/-- THE SECOND FORM's CARD OF 'dugoutlaw09.SeasonGames'. -/
def seasonGamesUptoCard : Claim7 := { stood := { row := seasonGamesUptoRow, standIns := [], harness := (true, "3eaad6119c0764fd7a4ff26379ba3fbab6ba4d337e755a90145943b758362ce8"), looks := false }, kinds := [], alts := [], laidByText := true, laidKinds := [.data, .data, .data, .data], laidTests := true, laidLooks := .later }
def SeasonGamesUptoCardSaid : Prop := Claim7.holds Tryz.pinned (.plain (OpenSpec.upto seasonGamesSpec)) seasonGamesUptoCard
end Rows
end Go.Proofs.YtgnnhpffealmmaaGreatDoor
