/-
  DERIVED. GIVEN WITH THE SEED: THE CARDS: each row of YtkhmgggponmimaaGreatDoorRows.lean that lists a variable, with what it lists TIED to the program's text (the seventh form; the later family's looks); each row that meets fmt, with fmt's text TOLD by the authors' own Lean function (tested against real Go, not proved from fmt's source: count such statements apart). THE CARD IS WHAT COUNTS. Prove the row's statement (the work); the ties are given (YtkhmgggponmimaaGreatDoorTie.lean); close each card by the builder's one call (the guide's Derived/Test/ToyasCard.lean, 'card_holds'). Laid BY PROGRAM, IN A SANDBOX (cutbox-door.mjs). By AI agents, Wed Nov 11 2026. No macro, syntax, notation, axiom, sorry.
-/
import Derived.Test.YtkhmgggponmimaaGreatDoorRows
import GoSem.ClaimSeven
namespace Go.Proofs.YtkhmgggponmimaaGreatDoor
namespace Rows

/-- THE TIED CARD OF 'dugouttop.TopBuntBases'. -/
def topBuntBasesCard : Claim7 := { stood := { row := topBuntBasesRow, standIns := [], harness := (true, "be07d16b1bc819841799b900b7a7b45e7f54109c3a17d1b5c60e564ee7ebd2bd"), looks := false }, kinds := [], alts := [], laidByText := true, laidKinds := [.data, .data, .data, .data], laidTests := true, laidLooks := .later }
def TopBuntBasesCardSaid : Prop := Claim7.holds Tryz.pinned (.plain (OpenSpec.ofChange topBuntBasesSpec)) topBuntBasesCard

/-- THE SECOND FORM's CARD OF 'dugouttop.TopBuntBases'. -/
def topBuntBasesUptoCard : Claim7 := { stood := { row := topBuntBasesUptoRow, standIns := [], harness := (true, "be07d16b1bc819841799b900b7a7b45e7f54109c3a17d1b5c60e564ee7ebd2bd"), looks := false }, kinds := [], alts := [], laidByText := true, laidKinds := [.data, .data, .data, .data], laidTests := true, laidLooks := .later }
def TopBuntBasesUptoCardSaid : Prop := Claim7.holds Tryz.pinned (.plain (OpenSpec.upto topBuntBasesSpec)) topBuntBasesUptoCard
end Rows
end Go.Proofs.YtkhmgggponmimaaGreatDoor
