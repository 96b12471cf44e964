/-
  DERIVED. GIVEN WITH THE SEED: THE CARDS: each row of YtldebobgefdnhaaGreatDoorRows.lean that lists a variable, with what it lists TIED to the program's text (the seventh form; the later family's looks); each row that meets fmt, with fmt's text TOLD by the authors' own Lean function (tested against real Go, not proved from fmt's source: count such statements apart). THE CARD IS WHAT COUNTS. Prove the row's statement (the work); the ties are given (YtldebobgefdnhaaGreatDoorTie.lean); close each card by the builder's one call (the guide's Derived/Test/ToyasCard.lean, 'card_holds'). Laid BY PROGRAM, IN A SANDBOX (cutbox-door.mjs). By AI agents, Wed Nov 11 2026. No macro, syntax, notation, axiom, sorry.
-/
import Derived.Test.YtldebobgefdnhaaGreatDoorRows
import GoSem.ClaimSeven
namespace Go.Proofs.YtldebobgefdnhaaGreatDoor
namespace Rows

/-- THE TIED CARD OF 'dugoutlaw09.SeasonStreaks'. -/
def seasonStreaksCard : Claim7 := { stood := { row := seasonStreaksRow, standIns := [], harness := (true, "d5fb82aa5b3d5dfc25ee156aec46e01b74c75f29d04e09f14ae36a776ef7dad2"), looks := false }, kinds := [], alts := [], laidByText := true, laidKinds := [.data, .data, .data, .data], laidTests := true, laidLooks := .later }
def SeasonStreaksCardSaid : Prop := Claim7.holds Tryz.pinned (.plain (OpenSpec.ofChange seasonStreaksSpec)) seasonStreaksCard

/-- THE TIED CARD OF 'dugoutlaw09.SeasonMonoid'. -/
def seasonMonoidCard : Claim7 := { stood := { row := seasonMonoidRow, standIns := [], harness := (true, "d5fb82aa5b3d5dfc25ee156aec46e01b74c75f29d04e09f14ae36a776ef7dad2"), looks := false }, kinds := [], alts := [], laidByText := true, laidKinds := [.data, .data, .data, .data], laidTests := true, laidLooks := .later }
def SeasonMonoidCardSaid : Prop := Claim7.holds Tryz.pinned (.plain (OpenSpec.ofChange seasonMonoidSpec)) seasonMonoidCard

/-- THE SECOND FORM's CARD OF 'dugoutlaw09.SeasonStreaks'. -/
def seasonStreaksUptoCard : Claim7 := { stood := { row := seasonStreaksUptoRow, standIns := [], harness := (true, "d5fb82aa5b3d5dfc25ee156aec46e01b74c75f29d04e09f14ae36a776ef7dad2"), looks := false }, kinds := [], alts := [], laidByText := true, laidKinds := [.data, .data, .data, .data], laidTests := true, laidLooks := .later }
def SeasonStreaksUptoCardSaid : Prop := Claim7.holds Tryz.pinned (.plain (OpenSpec.upto seasonStreaksSpec)) seasonStreaksUptoCard

/-- THE SECOND FORM's CARD OF 'dugoutlaw09.SeasonMonoid'. -/
def seasonMonoidUptoCard : Claim7 := { stood := { row := seasonMonoidUptoRow, standIns := [], harness := (true, "d5fb82aa5b3d5dfc25ee156aec46e01b74c75f29d04e09f14ae36a776ef7dad2"), looks := false }, kinds := [], alts := [], laidByText := true, laidKinds := [.data, .data, .data, .data], laidTests := true, laidLooks := .later }
def SeasonMonoidUptoCardSaid : Prop := Claim7.holds Tryz.pinned (.plain (OpenSpec.upto seasonMonoidSpec)) seasonMonoidUptoCard
end Rows
end Go.Proofs.YtldebobgefdnhaaGreatDoor
