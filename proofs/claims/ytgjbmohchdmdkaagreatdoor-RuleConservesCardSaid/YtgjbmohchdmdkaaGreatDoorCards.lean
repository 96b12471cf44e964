/-
  DERIVED. GIVEN WITH THE SEED: THE CARDS: each row of YtgjbmohchdmdkaaGreatDoorRows.lean that lists a variable, with what it lists TIED to the program's text (the seventh form; the later family's looks); each row that meets fmt, with fmt's text TOLD by the authors' own Lean function (tested against real Go, not proved from fmt's source: count such statements apart). THE CARD IS WHAT COUNTS. Prove the row's statement (the work); the ties are given (YtgjbmohchdmdkaaGreatDoorTie.lean); close each card by the builder's one call (the guide's Derived/Test/ToyasCard.lean, 'card_holds'). Laid BY PROGRAM, IN A SANDBOX (cutbox-door.mjs). By AI agents, Wed Nov 11 2026. No macro, syntax, notation, axiom, sorry.
-/
import Derived.Test.YtgjbmohchdmdkaaGreatDoorRows
import GoSem.ClaimSeven
namespace Go.Proofs.YtgjbmohchdmdkaaGreatDoor
namespace Rows

/-- THE TIED CARD OF 'dugoutlaw02.RuleStates'. -/
def ruleStatesCard : Claim7 := { stood := { row := ruleStatesRow, standIns := [], harness := (true, "4a869e0bffd85e2bdf374f3651f638d7609214186e22f1e80583431c81cc985e"), looks := false }, kinds := [], alts := [], laidByText := true, laidKinds := [.data, .data, .data, .data], laidTests := true, laidLooks := .later }
def RuleStatesCardSaid : Prop := Claim7.holds Tryz.pinned (.plain (OpenSpec.ofChange ruleStatesSpec)) ruleStatesCard

/-- THE TIED CARD OF 'dugoutlaw02.RuleCounts'. -/
def ruleCountsCard : Claim7 := { stood := { row := ruleCountsRow, standIns := [], harness := (true, "4a869e0bffd85e2bdf374f3651f638d7609214186e22f1e80583431c81cc985e"), looks := false }, kinds := [], alts := [], laidByText := true, laidKinds := [.data, .data, .data, .data], laidTests := true, laidLooks := .later }
def RuleCountsCardSaid : Prop := Claim7.holds Tryz.pinned (.plain (OpenSpec.ofChange ruleCountsSpec)) ruleCountsCard

/-- THE TIED CARD OF 'dugoutlaw02.RulePlays'. -/
def rulePlaysCard : Claim7 := { stood := { row := rulePlaysRow, standIns := [], harness := (true, "4a869e0bffd85e2bdf374f3651f638d7609214186e22f1e80583431c81cc985e"), looks := false }, kinds := [], alts := [], laidByText := true, laidKinds := [.data, .data, .data, .data], laidTests := true, laidLooks := .later }
def RulePlaysCardSaid : Prop := Claim7.holds Tryz.pinned (.plain (OpenSpec.ofChange rulePlaysSpec)) rulePlaysCard

/-- THE TIED CARD OF 'dugoutlaw02.RuleGames'. -/
def ruleGamesCard : Claim7 := { stood := { row := ruleGamesRow, standIns := [], harness := (true, "4a869e0bffd85e2bdf374f3651f638d7609214186e22f1e80583431c81cc985e"), looks := false }, kinds := [], alts := [], laidByText := true, laidKinds := [.data, .data, .data, .data], laidTests := true, laidLooks := .later }
def RuleGamesCardSaid : Prop := Claim7.holds Tryz.pinned (.plain (OpenSpec.ofChange ruleGamesSpec)) ruleGamesCard

/-- THE TIED CARD OF 'dugoutlaw02.RuleHalves'. -/
def ruleHalvesCard : Claim7 := { stood := { row := ruleHalvesRow, standIns := [], harness := (true, "4a869e0bffd85e2bdf374f3651f638d7609214186e22f1e80583431c81cc985e"), looks := false }, kinds := [], alts := [], laidByText := true, laidKinds := [.data, .data, .data, .data], laidTests := true, laidLooks := .later }
def RuleHalvesCardSaid : Prop := Claim7.holds Tryz.pinned (.plain (OpenSpec.ofChange ruleHalvesSpec)) ruleHalvesCard

/-- THE TIED CARD OF 'dugoutlaw02.RuleTexts'. -/
def ruleTextsCard : Claim7 := { stood := { row := ruleTextsRow, standIns := [], harness := (true, "4a869e0bffd85e2bdf374f3651f638d7609214186e22f1e80583431c81cc985e"), looks := false }, kinds := [], alts := [], laidByText := true, laidKinds := [.data, .data, .data, .data, .data, .pinned], laidTests := true, laidLooks := .later }
def RuleTextsCardSaid : Prop := Claim7.holds Tryz.pinned (.plain (OpenSpec.ofChange ruleTextsSpec)) ruleTextsCard

/-- THE TIED CARD OF 'dugoutlaw02.RuleConserves'. -/
def ruleConservesCard : Claim7 := { stood := { row := ruleConservesRow, standIns := [], harness := (true, "4a869e0bffd85e2bdf374f3651f638d7609214186e22f1e80583431c81cc985e"), looks := false }, kinds := [], alts := [], laidByText := true, laidKinds := [.data, .data, .data, .data], laidTests := true, laidLooks := .later }
def RuleConservesCardSaid : Prop := Claim7.holds Tryz.pinned (.plain (OpenSpec.ofChange ruleConservesSpec)) ruleConservesCard

/-- THE TIED CARD OF 'dugoutlaw02.RuleBalances'. -/
def ruleBalancesCard : Claim7 := { stood := { row := ruleBalancesRow, standIns := [], harness := (true, "4a869e0bffd85e2bdf374f3651f638d7609214186e22f1e80583431c81cc985e"), looks := false }, kinds := [], alts := [], laidByText := true, laidKinds := [.data, .data, .data, .data], laidTests := true, laidLooks := .later }
def RuleBalancesCardSaid : Prop := Claim7.holds Tryz.pinned (.plain (OpenSpec.ofChange ruleBalancesSpec)) ruleBalancesCard

/-- THE TIED CARD OF 'dugoutlaw02.RuleParts'. -/
def rulePartsCard : Claim7 := { stood := { row := rulePartsRow, standIns := [], harness := (true, "4a869e0bffd85e2bdf374f3651f638d7609214186e22f1e80583431c81cc985e"), looks := false }, kinds := [], alts := [], laidByText := true, laidKinds := [.data, .data, .data, .data], laidTests := true, laidLooks := .later }
def RulePartsCardSaid : Prop := Claim7.holds Tryz.pinned (.plain (OpenSpec.ofChange rulePartsSpec)) rulePartsCard

/-- THE TIED CARD OF 'dugoutlaw02.RuleStrict'. -/
def ruleStrictCard : Claim7 := { stood := { row := ruleStrictRow, standIns := [], harness := (true, "4a869e0bffd85e2bdf374f3651f638d7609214186e22f1e80583431c81cc985e"), looks := false }, kinds := [], alts := [], laidByText := true, laidKinds := [.data, .data, .data, .data, .data, .pinned], laidTests := true, laidLooks := .later }
def RuleStrictCardSaid : Prop := Claim7.holds Tryz.pinned (.plain (OpenSpec.ofChange ruleStrictSpec)) ruleStrictCard

/-- THE TIED CARD OF 'dugoutlaw02.RuleForces'. -/
def ruleForcesCard : Claim7 := { stood := { row := ruleForcesRow, standIns := [], harness := (true, "4a869e0bffd85e2bdf374f3651f638d7609214186e22f1e80583431c81cc985e"), looks := false }, kinds := [], alts := [], laidByText := true, laidKinds := [.data, .data, .data, .data], laidTests := true, laidLooks := .later }
def RuleForcesCardSaid : Prop := Claim7.holds Tryz.pinned (.plain (OpenSpec.ofChange ruleForcesSpec)) ruleForcesCard

/-- THE SECOND FORM's CARD OF 'dugoutlaw02.RuleStates'. -/
def ruleStatesUptoCard : Claim7 := { stood := { row := ruleStatesUptoRow, standIns := [], harness := (true, "4a869e0bffd85e2bdf374f3651f638d7609214186e22f1e80583431c81cc985e"), looks := false }, kinds := [], alts := [], laidByText := true, laidKinds := [.data, .data, .data, .data], laidTests := true, laidLooks := .later }
def RuleStatesUptoCardSaid : Prop := Claim7.holds Tryz.pinned (.plain (OpenSpec.upto ruleStatesSpec)) ruleStatesUptoCard

/-- THE SECOND FORM's CARD OF 'dugoutlaw02.RuleCounts'. -/
def ruleCountsUptoCard : Claim7 := { stood := { row := ruleCountsUptoRow, standIns := [], harness := (true, "4a869e0bffd85e2bdf374f3651f638d7609214186e22f1e80583431c81cc985e"), looks := false }, kinds := [], alts := [], laidByText := true, laidKinds := [.data, .data, .data, .data], laidTests := true, laidLooks := .later }
def RuleCountsUptoCardSaid : Prop := Claim7.holds Tryz.pinned (.plain (OpenSpec.upto ruleCountsSpec)) ruleCountsUptoCard

/-- THE SECOND FORM's CARD OF 'dugoutlaw02.RulePlays'. -/
def rulePlaysUptoCard : Claim7 := { stood := { row := rulePlaysUptoRow, standIns := [], harness := (true, "4a869e0bffd85e2bdf374f3651f638d7609214186e22f1e80583431c81cc985e"), looks := false }, kinds := [], alts := [], laidByText := true, laidKinds := [.data, .data, .data, .data], laidTests := true, laidLooks := .later }
def RulePlaysUptoCardSaid : Prop := Claim7.holds Tryz.pinned (.plain (OpenSpec.upto rulePlaysSpec)) rulePlaysUptoCard

/-- THE SECOND FORM's CARD OF 'dugoutlaw02.RuleGames'. -/
def ruleGamesUptoCard : Claim7 := { stood := { row := ruleGamesUptoRow, standIns := [], harness := (true, "4a869e0bffd85e2bdf374f3651f638d7609214186e22f1e80583431c81cc985e"), looks := false }, kinds := [], alts := [], laidByText := true, laidKinds := [.data, .data, .data, .data], laidTests := true, laidLooks := .later }
def RuleGamesUptoCardSaid : Prop := Claim7.holds Tryz.pinned (.plain (OpenSpec.upto ruleGamesSpec)) ruleGamesUptoCard

/-- THE SECOND FORM's CARD OF 'dugoutlaw02.RuleHalves'. -/
def ruleHalvesUptoCard : Claim7 := { stood := { row := ruleHalvesUptoRow, standIns := [], harness := (true, "4a869e0bffd85e2bdf374f3651f638d7609214186e22f1e80583431c81cc985e"), looks := false }, kinds := [], alts := [], laidByText := true, laidKinds := [.data, .data, .data, .data], laidTests := true, laidLooks := .later }
def RuleHalvesUptoCardSaid : Prop := Claim7.holds Tryz.pinned (.plain (OpenSpec.upto ruleHalvesSpec)) ruleHalvesUptoCard

/-- THE SECOND FORM's CARD OF 'dugoutlaw02.RuleTexts'. -/
def ruleTextsUptoCard : Claim7 := { stood := { row := ruleTextsUptoRow, standIns := [], harness := (true, "4a869e0bffd85e2bdf374f3651f638d7609214186e22f1e80583431c81cc985e"), looks := false }, kinds := [], alts := [], laidByText := true, laidKinds := [.data, .data, .data, .data, .data, .pinned], laidTests := true, laidLooks := .later }
def RuleTextsUptoCardSaid : Prop := Claim7.holds Tryz.pinned (.plain (OpenSpec.upto ruleTextsSpec)) ruleTextsUptoCard

/-- THE SECOND FORM's CARD OF 'dugoutlaw02.RuleConserves'. -/
def ruleConservesUptoCard : Claim7 := { stood := { row := ruleConservesUptoRow, standIns := [], harness := (true, "4a869e0bffd85e2bdf374f3651f638d7609214186e22f1e80583431c81cc985e"), looks := false }, kinds := [], alts := [], laidByText := true, laidKinds := [.data, .data, .data, .data], laidTests := true, laidLooks := .later }
def RuleConservesUptoCardSaid : Prop := Claim7.holds Tryz.pinned (.plain (OpenSpec.upto ruleConservesSpec)) ruleConservesUptoCard

/-- THE SECOND FORM's CARD OF 'dugoutlaw02.RuleBalances'. -/
def ruleBalancesUptoCard : Claim7 := { stood := { row := ruleBalancesUptoRow, standIns := [], harness := (true, "4a869e0bffd85e2bdf374f3651f638d7609214186e22f1e80583431c81cc985e"), looks := false }, kinds := [], alts := [], laidByText := true, laidKinds := [.data, .data, .data, .data], laidTests := true, laidLooks := .later }
def RuleBalancesUptoCardSaid : Prop := Claim7.holds Tryz.pinned (.plain (OpenSpec.upto ruleBalancesSpec)) ruleBalancesUptoCard

/-- THE SECOND FORM's CARD OF 'dugoutlaw02.RuleParts'. -/
def rulePartsUptoCard : Claim7 := { stood := { row := rulePartsUptoRow, standIns := [], harness := (true, "4a869e0bffd85e2bdf374f3651f638d7609214186e22f1e80583431c81cc985e"), looks := false }, kinds := [], alts := [], laidByText := true, laidKinds := [.data, .data, .data, .data], laidTests := true, laidLooks := .later }
def RulePartsUptoCardSaid : Prop := Claim7.holds Tryz.pinned (.plain (OpenSpec.upto rulePartsSpec)) rulePartsUptoCard

/-- THE SECOND FORM's CARD OF 'dugoutlaw02.RuleStrict'. -/
def ruleStrictUptoCard : Claim7 := { stood := { row := ruleStrictUptoRow, standIns := [], harness := (true, "4a869e0bffd85e2bdf374f3651f638d7609214186e22f1e80583431c81cc985e"), looks := false }, kinds := [], alts := [], laidByText := true, laidKinds := [.data, .data, .data, .data, .data, .pinned], laidTests := true, laidLooks := .later }
def RuleStrictUptoCardSaid : Prop := Claim7.holds Tryz.pinned (.plain (OpenSpec.upto ruleStrictSpec)) ruleStrictUptoCard

/-- THE SECOND FORM's CARD OF 'dugoutlaw02.RuleForces'. -/
def ruleForcesUptoCard : Claim7 := { stood := { row := ruleForcesUptoRow, standIns := [], harness := (true, "4a869e0bffd85e2bdf374f3651f638d7609214186e22f1e80583431c81cc985e"), looks := false }, kinds := [], alts := [], laidByText := true, laidKinds := [.data, .data, .data, .data], laidTests := true, laidLooks := .later }
def RuleForcesUptoCardSaid : Prop := Claim7.holds Tryz.pinned (.plain (OpenSpec.upto ruleForcesSpec)) ruleForcesUptoCard
end Rows
end Go.Proofs.YtgjbmohchdmdkaaGreatDoor
