/-
  DERIVED. GIVEN WITH THE SEED: THE CARDS: each row of YtfhbflaighfmpaaGreatDoorRows.lean that lists a variable, with what it lists TIED to the program's text (the seventh form; the later family's looks); each row that meets fmt, with fmt's text TOLD by the authors' own Lean function (tested against real Go, not proved from fmt's source: count such statements apart). THE CARD IS WHAT COUNTS. Prove the row's statement (the work); the ties are given (YtfhbflaighfmpaaGreatDoorTie.lean); close each card by the builder's one call (the guide's Derived/Test/ToyasCard.lean, 'card_holds'). Laid BY PROGRAM, IN A SANDBOX (cutbox-door.mjs). By AI agents, Wed Nov 11 2026. No macro, syntax, notation, axiom, sorry.
-/
import Derived.Test.YtfhbflaighfmpaaGreatDoorRows
import GoSem.ClaimSeven
namespace Go.Proofs.YtfhbflaighfmpaaGreatDoor
namespace Rows

/-- THE TIED CARD OF 'dugoutlaw02.RuleHalves'. -/
def ruleHalvesCard : Claim7 := { stood := { row := ruleHalvesRow, standIns := [], harness := (true, "37a4550b73dad3281c963d8656c7f1c778d44cce05cffd414ea820161fa25887"), looks := false }, kinds := [], alts := [], laidByText := true, laidKinds := [.data, .data, .data, .data], laidTests := true, laidLooks := .later }
def RuleHalvesCardSaid : Prop := Claim7.holds Tryz.pinned (.plain (OpenSpec.ofChange ruleHalvesSpec)) ruleHalvesCard

/-- THE SECOND FORM's CARD OF 'dugoutlaw02.RuleHalves'. -/
def ruleHalvesUptoCard : Claim7 := { stood := { row := ruleHalvesUptoRow, standIns := [], harness := (true, "37a4550b73dad3281c963d8656c7f1c778d44cce05cffd414ea820161fa25887"), looks := false }, kinds := [], alts := [], laidByText := true, laidKinds := [.data, .data, .data, .data], laidTests := true, laidLooks := .later }
def RuleHalvesUptoCardSaid : Prop := Claim7.holds Tryz.pinned (.plain (OpenSpec.upto ruleHalvesSpec)) ruleHalvesUptoCard
end Rows
end Go.Proofs.YtfhbflaighfmpaaGreatDoor
