/-
  DERIVED. GIVEN WITH THE SEED: THE CARDS: each row of YtoaimmojnmgelaaDoorRows.lean that lists a variable, with what it lists TIED to the program's text (the seventh form; the later family's looks); each row that meets fmt, with fmt's text TOLD by the authors' own Lean function (tested against real Go, not proved from fmt's source: count such statements apart). THE CARD IS WHAT COUNTS. Prove the row's statement (the work); the ties are given (YtoaimmojnmgelaaDoorTie.lean); close each card by the builder's one call (the guide's Derived/Test/ToyasCard.lean, 'card_holds'). Laid BY PROGRAM, IN A SANDBOX (cutbox-door.mjs). By AI agents, Wed Nov 11 2026. No macro, syntax, notation, axiom, sorry.
-/
import Derived.Test.YtoaimmojnmgelaaDoorRows
import GoSem.ClaimSeven
namespace Go.Proofs.YtoaimmojnmgelaaDoor
namespace Rows

/-- THE TIED CARD OF 'rollcalllaw03.ValidNames'. -/
def validNamesCard : Claim7 := { stood := { row := validNamesRow, standIns := [], harness := (true, "c20470a2fb7aa9f4f68ecddb50e6eb0d8f41322ac18b4c66664d805510262f52"), looks := false }, kinds := [], alts := [], laidByText := true, laidKinds := [.data], laidTests := true, laidLooks := .later }
def ValidNamesCardSaid : Prop := Claim7.holds Tryd.pinned (.plain (OpenSpec.ofChange validNamesSpec)) validNamesCard

/-- THE TIED CARD OF 'rollcalllaw03.ValidHosts'. -/
def validHostsCard : Claim7 := { stood := { row := validHostsRow, standIns := [], harness := (true, "c20470a2fb7aa9f4f68ecddb50e6eb0d8f41322ac18b4c66664d805510262f52"), looks := false }, kinds := [], alts := [], laidByText := true, laidKinds := [.data], laidTests := true, laidLooks := .later }
def ValidHostsCardSaid : Prop := Claim7.holds Tryd.pinned (.plain (OpenSpec.ofChange validHostsSpec)) validHostsCard

/-- THE TIED CARD OF 'rollcalllaw03.ValidCleans'. -/
def validCleansCard : Claim7 := { stood := { row := validCleansRow, standIns := [], harness := (true, "c20470a2fb7aa9f4f68ecddb50e6eb0d8f41322ac18b4c66664d805510262f52"), looks := false }, kinds := [], alts := [], laidByText := true, laidKinds := [.data], laidTests := true, laidLooks := .later }
def ValidCleansCardSaid : Prop := Claim7.holds Tryd.pinned (.plain (OpenSpec.ofChange validCleansSpec)) validCleansCard

/-- THE TIED CARD OF 'rollcalllaw03.ValidAlike'. -/
def validAlikeCard : Claim7 := { stood := { row := validAlikeRow, standIns := [], harness := (true, "c20470a2fb7aa9f4f68ecddb50e6eb0d8f41322ac18b4c66664d805510262f52"), looks := false }, kinds := [], alts := [], laidByText := true, laidKinds := [.data], laidTests := true, laidLooks := .later }
def ValidAlikeCardSaid : Prop := Claim7.holds Tryd.pinned (.plain (OpenSpec.ofChange validAlikeSpec)) validAlikeCard

/-- THE TIED CARD OF 'rollcalllaw04.GlobMatches'. -/
def globMatchesCard : Claim7 := { stood := { row := globMatchesRow, standIns := [], harness := (true, "c20470a2fb7aa9f4f68ecddb50e6eb0d8f41322ac18b4c66664d805510262f52"), looks := false }, kinds := [], alts := [], laidByText := true, laidKinds := [.data, .pinned], laidTests := true, laidLooks := .later }
def GlobMatchesCardSaid : Prop := Claim7.holds Tryd.pinned (.plain (OpenSpec.ofChange globMatchesSpec)) globMatchesCard

/-- THE TIED CARD OF 'rollcalllaw04.GlobCompletes'. -/
def globCompletesCard : Claim7 := { stood := { row := globCompletesRow, standIns := [], harness := (true, "c20470a2fb7aa9f4f68ecddb50e6eb0d8f41322ac18b4c66664d805510262f52"), looks := false }, kinds := [], alts := [], laidByText := true, laidKinds := [.data, .pinned], laidTests := true, laidLooks := .later }
def GlobCompletesCardSaid : Prop := Claim7.holds Tryd.pinned (.plain (OpenSpec.ofChange globCompletesSpec)) globCompletesCard

/-- THE TIED CARD OF 'rollcalllaw04.GlobHits'. -/
def globHitsCard : Claim7 := { stood := { row := globHitsRow, standIns := [], harness := (true, "c20470a2fb7aa9f4f68ecddb50e6eb0d8f41322ac18b4c66664d805510262f52"), looks := false }, kinds := [], alts := [], laidByText := true, laidKinds := [.data, .pinned], laidTests := true, laidLooks := .later }
def GlobHitsCardSaid : Prop := Claim7.holds Tryd.pinned (.plain (OpenSpec.ofChange globHitsSpec)) globHitsCard

/-- THE TIED CARD OF 'rollcalllaw04.GlobShorts'. -/
def globShortsCard : Claim7 := { stood := { row := globShortsRow, standIns := [], harness := (true, "c20470a2fb7aa9f4f68ecddb50e6eb0d8f41322ac18b4c66664d805510262f52"), looks := false }, kinds := [], alts := [], laidByText := true, laidKinds := [.data, .pinned], laidTests := true, laidLooks := .later }
def GlobShortsCardSaid : Prop := Claim7.holds Tryd.pinned (.plain (OpenSpec.ofChange globShortsSpec)) globShortsCard

/-- THE TIED CARD OF 'rollcalllaw04.GlobParts'. -/
def globPartsCard : Claim7 := { stood := { row := globPartsRow, standIns := [], harness := (true, "c20470a2fb7aa9f4f68ecddb50e6eb0d8f41322ac18b4c66664d805510262f52"), looks := false }, kinds := [], alts := [], laidByText := true, laidKinds := [.data, .pinned], laidTests := true, laidLooks := .later }
def GlobPartsCardSaid : Prop := Claim7.holds Tryd.pinned (.plain (OpenSpec.ofChange globPartsSpec)) globPartsCard

/-- THE TIED CARD OF 'rollcalllaw04.GlobFolds'. -/
def globFoldsCard : Claim7 := { stood := { row := globFoldsRow, standIns := [], harness := (true, "c20470a2fb7aa9f4f68ecddb50e6eb0d8f41322ac18b4c66664d805510262f52"), looks := false }, kinds := [], alts := [], laidByText := true, laidKinds := [.data, .pinned], laidTests := true, laidLooks := .later }
def GlobFoldsCardSaid : Prop := Claim7.holds Tryd.pinned (.plain (OpenSpec.ofChange globFoldsSpec)) globFoldsCard

/-- THE SECOND FORM's CARD OF 'rollcalllaw03.ValidNames'. -/
def validNamesUptoCard : Claim7 := { stood := { row := validNamesUptoRow, standIns := [], harness := (true, "c20470a2fb7aa9f4f68ecddb50e6eb0d8f41322ac18b4c66664d805510262f52"), looks := false }, kinds := [], alts := [], laidByText := true, laidKinds := [.data], laidTests := true, laidLooks := .later }
def ValidNamesUptoCardSaid : Prop := Claim7.holds Tryd.pinned (.plain (OpenSpec.upto validNamesSpec)) validNamesUptoCard

/-- THE SECOND FORM's CARD OF 'rollcalllaw03.ValidHosts'. -/
def validHostsUptoCard : Claim7 := { stood := { row := validHostsUptoRow, standIns := [], harness := (true, "c20470a2fb7aa9f4f68ecddb50e6eb0d8f41322ac18b4c66664d805510262f52"), looks := false }, kinds := [], alts := [], laidByText := true, laidKinds := [.data], laidTests := true, laidLooks := .later }
def ValidHostsUptoCardSaid : Prop := Claim7.holds Tryd.pinned (.plain (OpenSpec.upto validHostsSpec)) validHostsUptoCard

/-- THE SECOND FORM's CARD OF 'rollcalllaw03.ValidCleans'. -/
def validCleansUptoCard : Claim7 := { stood := { row := validCleansUptoRow, standIns := [], harness := (true, "c20470a2fb7aa9f4f68ecddb50e6eb0d8f41322ac18b4c66664d805510262f52"), looks := false }, kinds := [], alts := [], laidByText := true, laidKinds := [.data], laidTests := true, laidLooks := .later }
def ValidCleansUptoCardSaid : Prop := Claim7.holds Tryd.pinned (.plain (OpenSpec.upto validCleansSpec)) validCleansUptoCard

/-- THE SECOND FORM's CARD OF 'rollcalllaw03.ValidAlike'. -/
def validAlikeUptoCard : Claim7 := { stood := { row := validAlikeUptoRow, standIns := [], harness := (true, "c20470a2fb7aa9f4f68ecddb50e6eb0d8f41322ac18b4c66664d805510262f52"), looks := false }, kinds := [], alts := [], laidByText := true, laidKinds := [.data], laidTests := true, laidLooks := .later }
def ValidAlikeUptoCardSaid : Prop := Claim7.holds Tryd.pinned (.plain (OpenSpec.upto validAlikeSpec)) validAlikeUptoCard

/-- THE SECOND FORM's CARD OF 'rollcalllaw04.GlobMatches'. -/
def globMatchesUptoCard : Claim7 := { stood := { row := globMatchesUptoRow, standIns := [], harness := (true, "c20470a2fb7aa9f4f68ecddb50e6eb0d8f41322ac18b4c66664d805510262f52"), looks := false }, kinds := [], alts := [], laidByText := true, laidKinds := [.data, .pinned], laidTests := true, laidLooks := .later }
def GlobMatchesUptoCardSaid : Prop := Claim7.holds Tryd.pinned (.plain (OpenSpec.upto globMatchesSpec)) globMatchesUptoCard

/-- THE SECOND FORM's CARD OF 'rollcalllaw04.GlobCompletes'. -/
def globCompletesUptoCard : Claim7 := { stood := { row := globCompletesUptoRow, standIns := [], harness := (true, "c20470a2fb7aa9f4f68ecddb50e6eb0d8f41322ac18b4c66664d805510262f52"), looks := false }, kinds := [], alts := [], laidByText := true, laidKinds := [.data, .pinned], laidTests := true, laidLooks := .later }
def GlobCompletesUptoCardSaid : Prop := Claim7.holds Tryd.pinned (.plain (OpenSpec.upto globCompletesSpec)) globCompletesUptoCard

/-- THE SECOND FORM's CARD OF 'rollcalllaw04.GlobHits'. -/
def globHitsUptoCard : Claim7 := { stood := { row := globHitsUptoRow, standIns := [], harness := (true, "c20470a2fb7aa9f4f68ecddb50e6eb0d8f41322ac18b4c66664d805510262f52"), looks := false }, kinds := [], alts := [], laidByText := true, laidKinds := [.data, .pinned], laidTests := true, laidLooks := .later }
def GlobHitsUptoCardSaid : Prop := Claim7.holds Tryd.pinned (.plain (OpenSpec.upto globHitsSpec)) globHitsUptoCard

/-- THE SECOND FORM's CARD OF 'rollcalllaw04.GlobShorts'. -/
def globShortsUptoCard : Claim7 := { stood := { row := globShortsUptoRow, standIns := [], harness := (true, "c20470a2fb7aa9f4f68ecddb50e6eb0d8f41322ac18b4c66664d805510262f52"), looks := false }, kinds := [], alts := [], laidByText := true, laidKinds := [.data, .pinned], laidTests := true, laidLooks := .later }
def GlobShortsUptoCardSaid : Prop := Claim7.holds Tryd.pinned (.plain (OpenSpec.upto globShortsSpec)) globShortsUptoCard

/-- THE SECOND FORM's CARD OF 'rollcalllaw04.GlobParts'. -/
def globPartsUptoCard : Claim7 := { stood := { row := globPartsUptoRow, standIns := [], harness := (true, "c20470a2fb7aa9f4f68ecddb50e6eb0d8f41322ac18b4c66664d805510262f52"), looks := false }, kinds := [], alts := [], laidByText := true, laidKinds := [.data, .pinned], laidTests := true, laidLooks := .later }
def GlobPartsUptoCardSaid : Prop := Claim7.holds Tryd.pinned (.plain (OpenSpec.upto globPartsSpec)) globPartsUptoCard

/-- THE SECOND FORM's CARD OF 'rollcalllaw04.GlobFolds'. -/
def globFoldsUptoCard : Claim7 := { stood := { row := globFoldsUptoRow, standIns := [], harness := (true, "c20470a2fb7aa9f4f68ecddb50e6eb0d8f41322ac18b4c66664d805510262f52"), looks := false }, kinds := [], alts := [], laidByText := true, laidKinds := [.data, .pinned], laidTests := true, laidLooks := .later }
def GlobFoldsUptoCardSaid : Prop := Claim7.holds Tryd.pinned (.plain (OpenSpec.upto globFoldsSpec)) globFoldsUptoCard
end Rows
end Go.Proofs.YtoaimmojnmgelaaDoor
