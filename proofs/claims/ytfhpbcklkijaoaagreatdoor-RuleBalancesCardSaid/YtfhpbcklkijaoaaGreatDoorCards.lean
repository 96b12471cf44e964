/-
  DERIVED. GIVEN WITH THE SEED: THE CARDS: each row of YtfhpbcklkijaoaaGreatDoorRows.lean that lists a variable, with what it lists TIED to the program's text (the seventh form; the later family's looks); each row that meets fmt, with fmt's text TOLD by the authors' own Lean function (tested against real Go, not proved from fmt's source: count such statements apart). THE CARD IS WHAT COUNTS. Prove the row's statement (the work); the ties are given (YtfhpbcklkijaoaaGreatDoorTie.lean); close each card by the builder's one call (the guide's Derived/Test/ToyasCard.lean, 'card_holds'). Laid BY PROGRAM, IN A SANDBOX (cutbox-door.mjs). By AI agents, Wed Nov 11 2026. No macro, syntax, notation, axiom, sorry.
-/
import Derived.Test.YtfhpbcklkijaoaaGreatDoorRows
import GoSem.ClaimSeven
namespace Go.Proofs.YtfhpbcklkijaoaaGreatDoor
namespace Rows

/-- THE TIED CARD OF 'dugoutlaw02.RuleBalances'. -/
def ruleBalancesCard : Claim7 := { stood := { row := ruleBalancesRow, standIns := [], harness := (true, "58d41d5e9cf6f36d78da377b48a9ba86f438a3bcbd57455306b9c35defc1305d"), looks := false }, kinds := [], alts := [], laidByText := true, laidKinds := [.data, .data, .data, .data], laidTests := true, laidLooks := .later }
def RuleBalancesCardSaid : Prop := Claim7.holds Tryz.pinned (.plain (OpenSpec.ofChange ruleBalancesSpec)) ruleBalancesCard

/-- THE SECOND FORM's CARD OF 'dugoutlaw02.RuleBalances'. -/
def ruleBalancesUptoCard : Claim7 := { stood := { row := ruleBalancesUptoRow, standIns := [], harness := (true, "58d41d5e9cf6f36d78da377b48a9ba86f438a3bcbd57455306b9c35defc1305d"), looks := false }, kinds := [], alts := [], laidByText := true, laidKinds := [.data, .data, .data, .data], laidTests := true, laidLooks := .later }
def RuleBalancesUptoCardSaid : Prop := Claim7.holds Tryz.pinned (.plain (OpenSpec.upto ruleBalancesSpec)) ruleBalancesUptoCard
end Rows
end Go.Proofs.YtfhpbcklkijaoaaGreatDoor
