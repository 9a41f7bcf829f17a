/-
  DERIVED. GIVEN WITH THE SEED: THE CARDS: each row of YtadojlmjapmbhaaDoorRows.lean that lists a variable, with what it lists TIED to the program's text (the seventh form; the later family's looks); each row that meets fmt, with fmt's text TOLD by the authors' own Lean function (tested against real Go, not proved from fmt's source: count such statements apart). THE CARD IS WHAT COUNTS. Prove the row's statement (the work); the ties are given (YtadojlmjapmbhaaDoorTie.lean); close each card by the builder's one call (the guide's Derived/Test/ToyasCard.lean, 'card_holds'). Laid BY PROGRAM, IN A SANDBOX (cutbox-door.mjs). By AI agents, Wed Nov 11 2026. No macro, syntax, notation, axiom, sorry.
-/
import Derived.Test.YtadojlmjapmbhaaDoorRows
import GoSem.ClaimSeven
namespace Go.Proofs.YtadojlmjapmbhaaDoor
namespace Rows

/-- THE TIED CARD OF 'rollcalllaw12.CapsTexts'. -/
def capsTextsCard : Claim7 := { stood := { row := capsTextsRow, standIns := [], harness := (true, "7cf876fe151a24e92a367d96030f12750d4567314afcedb2d63771b2e1ba9b1b"), looks := false }, kinds := [], alts := [], laidByText := true, laidKinds := [.data, .data, .pinned], laidTests := true, laidLooks := .later }
def CapsTextsCardSaid : Prop := Claim7.holds Tryd.pinned (.plain (OpenSpec.ofChange capsTextsSpec)) capsTextsCard

/-- THE TIED CARD OF 'rollcalllaw15.ConfigSupports'. -/
def configSupportsCard : Claim7 := { stood := { row := configSupportsRow, standIns := [], harness := (true, "7cf876fe151a24e92a367d96030f12750d4567314afcedb2d63771b2e1ba9b1b"), looks := false }, kinds := [], alts := [], laidByText := true, laidKinds := [.data, .data, .data, .data, .data, .pinned], laidTests := true, laidLooks := .later }
def ConfigSupportsCardSaid : Prop := Claim7.holds Tryd.pinned (.plain (OpenSpec.ofChange configSupportsSpec)) configSupportsCard

/-- THE SECOND FORM's CARD OF 'rollcalllaw12.CapsTexts'. -/
def capsTextsUptoCard : Claim7 := { stood := { row := capsTextsUptoRow, standIns := [], harness := (true, "7cf876fe151a24e92a367d96030f12750d4567314afcedb2d63771b2e1ba9b1b"), looks := false }, kinds := [], alts := [], laidByText := true, laidKinds := [.data, .data, .pinned], laidTests := true, laidLooks := .later }
def CapsTextsUptoCardSaid : Prop := Claim7.holds Tryd.pinned (.plain (OpenSpec.upto capsTextsSpec)) capsTextsUptoCard

/-- THE SECOND FORM's CARD OF 'rollcalllaw15.ConfigSupports'. -/
def configSupportsUptoCard : Claim7 := { stood := { row := configSupportsUptoRow, standIns := [], harness := (true, "7cf876fe151a24e92a367d96030f12750d4567314afcedb2d63771b2e1ba9b1b"), looks := false }, kinds := [], alts := [], laidByText := true, laidKinds := [.data, .data, .data, .data, .data, .pinned], laidTests := true, laidLooks := .later }
def ConfigSupportsUptoCardSaid : Prop := Claim7.holds Tryd.pinned (.plain (OpenSpec.upto configSupportsSpec)) configSupportsUptoCard
end Rows
end Go.Proofs.YtadojlmjapmbhaaDoor
