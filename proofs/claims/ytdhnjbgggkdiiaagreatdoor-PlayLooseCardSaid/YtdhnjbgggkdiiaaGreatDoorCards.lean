/-
  DERIVED. GIVEN WITH THE SEED: THE CARDS: each row of YtdhnjbgggkdiiaaGreatDoorRows.lean that lists a variable, with what it lists TIED to the program's text (the seventh form; the later family's looks); each row that meets fmt, with fmt's text TOLD by the authors' own Lean function (tested against real Go, not proved from fmt's source: count such statements apart). THE CARD IS WHAT COUNTS. Prove the row's statement (the work); the ties are given (YtdhnjbgggkdiiaaGreatDoorTie.lean); close each card by the builder's one call (the guide's Derived/Test/ToyasCard.lean, 'card_holds'). Laid BY PROGRAM, IN A SANDBOX (cutbox-door.mjs). By AI agents, Wed Nov 11 2026. No macro, syntax, notation, axiom, sorry.
-/
import Derived.Test.YtdhnjbgggkdiiaaGreatDoorRows
import GoSem.ClaimSeven
namespace Go.Proofs.YtdhnjbgggkdiiaaGreatDoor
namespace Rows

/-- THE TIED CARD OF 'dugoutlaw01.PlayForms'. -/
def playFormsCard : Claim7 := { stood := { row := playFormsRow, standIns := [], harness := (true, "1cf757eb969377381f18df8a1690bd23760632760337a2df5063f7b70e2e5224"), looks := false }, kinds := [], alts := [], laidByText := true, laidKinds := [.data], laidTests := true, laidLooks := .later }
def PlayFormsCardSaid : Prop := Claim7.holds Tryz.pinned (.plain (OpenSpec.ofChange playFormsSpec)) playFormsCard

/-- THE TIED CARD OF 'dugoutlaw01.PlayNames'. -/
def playNamesCard : Claim7 := { stood := { row := playNamesRow, standIns := [], harness := (true, "1cf757eb969377381f18df8a1690bd23760632760337a2df5063f7b70e2e5224"), looks := false }, kinds := [], alts := [], laidByText := true, laidKinds := [.data], laidTests := true, laidLooks := .later }
def PlayNamesCardSaid : Prop := Claim7.holds Tryz.pinned (.plain (OpenSpec.ofChange playNamesSpec)) playNamesCard

/-- THE TIED CARD OF 'dugoutlaw01.PlayStrings'. -/
def playStringsCard : Claim7 := { stood := { row := playStringsRow, standIns := [], harness := (true, "1cf757eb969377381f18df8a1690bd23760632760337a2df5063f7b70e2e5224"), looks := false }, kinds := [], alts := [], laidByText := true, laidKinds := [.data], laidTests := true, laidLooks := .later }
def PlayStringsCardSaid : Prop := Claim7.holds Tryz.pinned (.plain (OpenSpec.ofChange playStringsSpec)) playStringsCard

/-- THE TIED CARD OF 'dugoutlaw01.PlayTexts'. -/
def playTextsCard : Claim7 := { stood := { row := playTextsRow, standIns := [], harness := (true, "1cf757eb969377381f18df8a1690bd23760632760337a2df5063f7b70e2e5224"), looks := false }, kinds := [], alts := [], laidByText := true, laidKinds := [.data], laidTests := true, laidLooks := .later }
def PlayTextsCardSaid : Prop := Claim7.holds Tryz.pinned (.plain (OpenSpec.ofChange playTextsSpec)) playTextsCard

/-- THE TIED CARD OF 'dugoutlaw01.PlayCanons'. -/
def playCanonsCard : Claim7 := { stood := { row := playCanonsRow, standIns := [], harness := (true, "1cf757eb969377381f18df8a1690bd23760632760337a2df5063f7b70e2e5224"), looks := false }, kinds := [], alts := [], laidByText := true, laidKinds := [.data], laidTests := true, laidLooks := .later }
def PlayCanonsCardSaid : Prop := Claim7.holds Tryz.pinned (.plain (OpenSpec.ofChange playCanonsSpec)) playCanonsCard

/-- THE TIED CARD OF 'dugoutlaw01.PlayCounts'. -/
def playCountsCard : Claim7 := { stood := { row := playCountsRow, standIns := [], harness := (true, "1cf757eb969377381f18df8a1690bd23760632760337a2df5063f7b70e2e5224"), looks := false }, kinds := [], alts := [], laidByText := true, laidKinds := [.data], laidTests := true, laidLooks := .later }
def PlayCountsCardSaid : Prop := Claim7.holds Tryz.pinned (.plain (OpenSpec.ofChange playCountsSpec)) playCountsCard

/-- THE TIED CARD OF 'dugoutlaw01.PlayFielders'. -/
def playFieldersCard : Claim7 := { stood := { row := playFieldersRow, standIns := [], harness := (true, "1cf757eb969377381f18df8a1690bd23760632760337a2df5063f7b70e2e5224"), looks := false }, kinds := [], alts := [], laidByText := true, laidKinds := [.data], laidTests := true, laidLooks := .later }
def PlayFieldersCardSaid : Prop := Claim7.holds Tryz.pinned (.plain (OpenSpec.ofChange playFieldersSpec)) playFieldersCard

/-- THE TIED CARD OF 'dugoutlaw01.PlayRates'. -/
def playRatesCard : Claim7 := { stood := { row := playRatesRow, standIns := [], harness := (true, "1cf757eb969377381f18df8a1690bd23760632760337a2df5063f7b70e2e5224"), looks := false }, kinds := [], alts := [], laidByText := true, laidKinds := [.data], laidTests := true, laidLooks := .later }
def PlayRatesCardSaid : Prop := Claim7.holds Tryz.pinned (.plain (OpenSpec.ofChange playRatesSpec)) playRatesCard

/-- THE TIED CARD OF 'dugoutlaw01.PlayBack'. -/
def playBackCard : Claim7 := { stood := { row := playBackRow, standIns := [], harness := (true, "1cf757eb969377381f18df8a1690bd23760632760337a2df5063f7b70e2e5224"), looks := false }, kinds := [], alts := [], laidByText := true, laidKinds := [.data], laidTests := true, laidLooks := .later }
def PlayBackCardSaid : Prop := Claim7.holds Tryz.pinned (.plain (OpenSpec.ofChange playBackSpec)) playBackCard

/-- THE TIED CARD OF 'dugoutlaw01.PlayLoose'. -/
def playLooseCard : Claim7 := { stood := { row := playLooseRow, standIns := [], harness := (true, "1cf757eb969377381f18df8a1690bd23760632760337a2df5063f7b70e2e5224"), looks := false }, kinds := [], alts := [], laidByText := true, laidKinds := [.data], laidTests := true, laidLooks := .later }
def PlayLooseCardSaid : Prop := Claim7.holds Tryz.pinned (.plain (OpenSpec.ofChange playLooseSpec)) playLooseCard

/-- THE TIED CARD OF 'dugoutlaw01.PlayParts'. -/
def playPartsCard : Claim7 := { stood := { row := playPartsRow, standIns := [], harness := (true, "1cf757eb969377381f18df8a1690bd23760632760337a2df5063f7b70e2e5224"), looks := false }, kinds := [], alts := [], laidByText := true, laidKinds := [.data], laidTests := true, laidLooks := .later }
def PlayPartsCardSaid : Prop := Claim7.holds Tryz.pinned (.plain (OpenSpec.ofChange playPartsSpec)) playPartsCard

/-- THE TIED CARD OF 'dugoutlaw01.PlaySums'. -/
def playSumsCard : Claim7 := { stood := { row := playSumsRow, standIns := [], harness := (true, "1cf757eb969377381f18df8a1690bd23760632760337a2df5063f7b70e2e5224"), looks := false }, kinds := [], alts := [], laidByText := true, laidKinds := [.data], laidTests := true, laidLooks := .later }
def PlaySumsCardSaid : Prop := Claim7.holds Tryz.pinned (.plain (OpenSpec.ofChange playSumsSpec)) playSumsCard

/-- THE TIED CARD OF 'dugoutlaw01.PlayOrders'. -/
def playOrdersCard : Claim7 := { stood := { row := playOrdersRow, standIns := [], harness := (true, "1cf757eb969377381f18df8a1690bd23760632760337a2df5063f7b70e2e5224"), looks := false }, kinds := [], alts := [], laidByText := true, laidKinds := [.data], laidTests := true, laidLooks := .later }
def PlayOrdersCardSaid : Prop := Claim7.holds Tryz.pinned (.plain (OpenSpec.ofChange playOrdersSpec)) playOrdersCard

/-- THE SECOND FORM's CARD OF 'dugoutlaw01.PlayForms'. -/
def playFormsUptoCard : Claim7 := { stood := { row := playFormsUptoRow, standIns := [], harness := (true, "1cf757eb969377381f18df8a1690bd23760632760337a2df5063f7b70e2e5224"), looks := false }, kinds := [], alts := [], laidByText := true, laidKinds := [.data], laidTests := true, laidLooks := .later }
def PlayFormsUptoCardSaid : Prop := Claim7.holds Tryz.pinned (.plain (OpenSpec.upto playFormsSpec)) playFormsUptoCard

/-- THE SECOND FORM's CARD OF 'dugoutlaw01.PlayNames'. -/
def playNamesUptoCard : Claim7 := { stood := { row := playNamesUptoRow, standIns := [], harness := (true, "1cf757eb969377381f18df8a1690bd23760632760337a2df5063f7b70e2e5224"), looks := false }, kinds := [], alts := [], laidByText := true, laidKinds := [.data], laidTests := true, laidLooks := .later }
def PlayNamesUptoCardSaid : Prop := Claim7.holds Tryz.pinned (.plain (OpenSpec.upto playNamesSpec)) playNamesUptoCard

/-- THE SECOND FORM's CARD OF 'dugoutlaw01.PlayStrings'. -/
def playStringsUptoCard : Claim7 := { stood := { row := playStringsUptoRow, standIns := [], harness := (true, "1cf757eb969377381f18df8a1690bd23760632760337a2df5063f7b70e2e5224"), looks := false }, kinds := [], alts := [], laidByText := true, laidKinds := [.data], laidTests := true, laidLooks := .later }
def PlayStringsUptoCardSaid : Prop := Claim7.holds Tryz.pinned (.plain (OpenSpec.upto playStringsSpec)) playStringsUptoCard

/-- THE SECOND FORM's CARD OF 'dugoutlaw01.PlayTexts'. -/
def playTextsUptoCard : Claim7 := { stood := { row := playTextsUptoRow, standIns := [], harness := (true, "1cf757eb969377381f18df8a1690bd23760632760337a2df5063f7b70e2e5224"), looks := false }, kinds := [], alts := [], laidByText := true, laidKinds := [.data], laidTests := true, laidLooks := .later }
def PlayTextsUptoCardSaid : Prop := Claim7.holds Tryz.pinned (.plain (OpenSpec.upto playTextsSpec)) playTextsUptoCard

/-- THE SECOND FORM's CARD OF 'dugoutlaw01.PlayCanons'. -/
def playCanonsUptoCard : Claim7 := { stood := { row := playCanonsUptoRow, standIns := [], harness := (true, "1cf757eb969377381f18df8a1690bd23760632760337a2df5063f7b70e2e5224"), looks := false }, kinds := [], alts := [], laidByText := true, laidKinds := [.data], laidTests := true, laidLooks := .later }
def PlayCanonsUptoCardSaid : Prop := Claim7.holds Tryz.pinned (.plain (OpenSpec.upto playCanonsSpec)) playCanonsUptoCard

/-- THE SECOND FORM's CARD OF 'dugoutlaw01.PlayCounts'. -/
def playCountsUptoCard : Claim7 := { stood := { row := playCountsUptoRow, standIns := [], harness := (true, "1cf757eb969377381f18df8a1690bd23760632760337a2df5063f7b70e2e5224"), looks := false }, kinds := [], alts := [], laidByText := true, laidKinds := [.data], laidTests := true, laidLooks := .later }
def PlayCountsUptoCardSaid : Prop := Claim7.holds Tryz.pinned (.plain (OpenSpec.upto playCountsSpec)) playCountsUptoCard

/-- THE SECOND FORM's CARD OF 'dugoutlaw01.PlayFielders'. -/
def playFieldersUptoCard : Claim7 := { stood := { row := playFieldersUptoRow, standIns := [], harness := (true, "1cf757eb969377381f18df8a1690bd23760632760337a2df5063f7b70e2e5224"), looks := false }, kinds := [], alts := [], laidByText := true, laidKinds := [.data], laidTests := true, laidLooks := .later }
def PlayFieldersUptoCardSaid : Prop := Claim7.holds Tryz.pinned (.plain (OpenSpec.upto playFieldersSpec)) playFieldersUptoCard

/-- THE SECOND FORM's CARD OF 'dugoutlaw01.PlayRates'. -/
def playRatesUptoCard : Claim7 := { stood := { row := playRatesUptoRow, standIns := [], harness := (true, "1cf757eb969377381f18df8a1690bd23760632760337a2df5063f7b70e2e5224"), looks := false }, kinds := [], alts := [], laidByText := true, laidKinds := [.data], laidTests := true, laidLooks := .later }
def PlayRatesUptoCardSaid : Prop := Claim7.holds Tryz.pinned (.plain (OpenSpec.upto playRatesSpec)) playRatesUptoCard

/-- THE SECOND FORM's CARD OF 'dugoutlaw01.PlayBack'. -/
def playBackUptoCard : Claim7 := { stood := { row := playBackUptoRow, standIns := [], harness := (true, "1cf757eb969377381f18df8a1690bd23760632760337a2df5063f7b70e2e5224"), looks := false }, kinds := [], alts := [], laidByText := true, laidKinds := [.data], laidTests := true, laidLooks := .later }
def PlayBackUptoCardSaid : Prop := Claim7.holds Tryz.pinned (.plain (OpenSpec.upto playBackSpec)) playBackUptoCard

/-- THE SECOND FORM's CARD OF 'dugoutlaw01.PlayLoose'. -/
def playLooseUptoCard : Claim7 := { stood := { row := playLooseUptoRow, standIns := [], harness := (true, "1cf757eb969377381f18df8a1690bd23760632760337a2df5063f7b70e2e5224"), looks := false }, kinds := [], alts := [], laidByText := true, laidKinds := [.data], laidTests := true, laidLooks := .later }
def PlayLooseUptoCardSaid : Prop := Claim7.holds Tryz.pinned (.plain (OpenSpec.upto playLooseSpec)) playLooseUptoCard

/-- THE SECOND FORM's CARD OF 'dugoutlaw01.PlayParts'. -/
def playPartsUptoCard : Claim7 := { stood := { row := playPartsUptoRow, standIns := [], harness := (true, "1cf757eb969377381f18df8a1690bd23760632760337a2df5063f7b70e2e5224"), looks := false }, kinds := [], alts := [], laidByText := true, laidKinds := [.data], laidTests := true, laidLooks := .later }
def PlayPartsUptoCardSaid : Prop := Claim7.holds Tryz.pinned (.plain (OpenSpec.upto playPartsSpec)) playPartsUptoCard

/-- THE SECOND FORM's CARD OF 'dugoutlaw01.PlaySums'. -/
def playSumsUptoCard : Claim7 := { stood := { row := playSumsUptoRow, standIns := [], harness := (true, "1cf757eb969377381f18df8a1690bd23760632760337a2df5063f7b70e2e5224"), looks := false }, kinds := [], alts := [], laidByText := true, laidKinds := [.data], laidTests := true, laidLooks := .later }
def PlaySumsUptoCardSaid : Prop := Claim7.holds Tryz.pinned (.plain (OpenSpec.upto playSumsSpec)) playSumsUptoCard

/-- THE SECOND FORM's CARD OF 'dugoutlaw01.PlayOrders'. -/
def playOrdersUptoCard : Claim7 := { stood := { row := playOrdersUptoRow, standIns := [], harness := (true, "1cf757eb969377381f18df8a1690bd23760632760337a2df5063f7b70e2e5224"), looks := false }, kinds := [], alts := [], laidByText := true, laidKinds := [.data], laidTests := true, laidLooks := .later }
def PlayOrdersUptoCardSaid : Prop := Claim7.holds Tryz.pinned (.plain (OpenSpec.upto playOrdersSpec)) playOrdersUptoCard
end Rows
end Go.Proofs.YtdhnjbgggkdiiaaGreatDoor
