/-
  DERIVED. GIVEN WITH THE SEED: THE CARDS: each row of YtbpnaclnninndaaDoorRows.lean that lists a variable, with what it lists TIED to the program's text (the seventh form; the later family's looks); each row that meets fmt, with fmt's text TOLD by the authors' own Lean function (tested against real Go, not proved from fmt's source: count such statements apart). THE CARD IS WHAT COUNTS. Prove the row's statement (the work); the ties are given (YtbpnaclnninndaaDoorTie.lean); close each card by the builder's one call (the guide's Derived/Test/ToyasCard.lean, 'card_holds'). Laid BY PROGRAM, IN A SANDBOX (cutbox-door.mjs). By AI agents, Wed Nov 11 2026. No macro, syntax, notation, axiom, sorry.
-/
import Derived.Test.YtbpnaclnninndaaDoorRows
import GoSem.ClaimSeven
namespace Go.Proofs.YtbpnaclnninndaaDoor
namespace Rows

/-- THE TIED CARD OF 'rollcalllaw12.CapsApply'. -/
def capsApplyCard : Claim7 := { stood := { row := capsApplyRow, standIns := [], harness := (true, "19e965e11e31b0c5b39e07fa01e095a9528ec902d54bb387ee39a7942c9c6623"), looks := false }, kinds := [], alts := [], laidByText := true, laidKinds := [.data, .data, .pinned], laidTests := true, laidLooks := .later }
def CapsApplyCardSaid : Prop := Claim7.holds Tryd.pinned (.plain (OpenSpec.ofChange capsApplySpec)) capsApplyCard

/-- THE TIED CARD OF 'rollcalllaw12.CapsTexts'. -/
def capsTextsCard : Claim7 := { stood := { row := capsTextsRow, standIns := [], harness := (true, "19e965e11e31b0c5b39e07fa01e095a9528ec902d54bb387ee39a7942c9c6623"), looks := false }, kinds := [], alts := [], laidByText := true, laidKinds := [.data, .data, .pinned], laidTests := true, laidLooks := .later }
def CapsTextsCardSaid : Prop := Claim7.holds Tryd.pinned (.plain (OpenSpec.ofChange capsTextsSpec)) capsTextsCard

/-- THE TIED CARD OF 'rollcalllaw12.CapsTwo'. -/
def capsTwoCard : Claim7 := { stood := { row := capsTwoRow, standIns := [], harness := (true, "19e965e11e31b0c5b39e07fa01e095a9528ec902d54bb387ee39a7942c9c6623"), looks := false }, kinds := [], alts := [], laidByText := true, laidKinds := [.data, .data, .pinned], laidTests := true, laidLooks := .later }
def CapsTwoCardSaid : Prop := Claim7.holds Tryd.pinned (.plain (OpenSpec.ofChange capsTwoSpec)) capsTwoCard

/-- THE TIED CARD OF 'rollcalllaw15.ConfigChecks'. -/
def configChecksCard : Claim7 := { stood := { row := configChecksRow, standIns := [], harness := (true, "19e965e11e31b0c5b39e07fa01e095a9528ec902d54bb387ee39a7942c9c6623"), looks := false }, kinds := [], alts := [], laidByText := true, laidKinds := [.data], laidTests := true, laidLooks := .later }
def ConfigChecksCardSaid : Prop := Claim7.holds Tryd.pinned (.plain (OpenSpec.ofChange configChecksSpec)) configChecksCard

/-- THE TIED CARD OF 'rollcalllaw15.ConfigSupports'. -/
def configSupportsCard : Claim7 := { stood := { row := configSupportsRow, standIns := [], harness := (true, "19e965e11e31b0c5b39e07fa01e095a9528ec902d54bb387ee39a7942c9c6623"), looks := false }, kinds := [], alts := [], laidByText := true, laidKinds := [.data, .data, .data, .data, .data, .pinned], laidTests := true, laidLooks := .later }
def ConfigSupportsCardSaid : Prop := Claim7.holds Tryd.pinned (.plain (OpenSpec.ofChange configSupportsSpec)) configSupportsCard

/-- THE TIED CARD OF 'rollcalllaw15.ConfigBounds'. -/
def configBoundsCard : Claim7 := { stood := { row := configBoundsRow, standIns := [], harness := (true, "19e965e11e31b0c5b39e07fa01e095a9528ec902d54bb387ee39a7942c9c6623"), looks := false }, kinds := [], alts := [], laidByText := true, laidKinds := [.data], laidTests := true, laidLooks := .later }
def ConfigBoundsCardSaid : Prop := Claim7.holds Tryd.pinned (.plain (OpenSpec.ofChange configBoundsSpec)) configBoundsCard

/-- THE SECOND FORM's CARD OF 'rollcalllaw12.CapsApply'. -/
def capsApplyUptoCard : Claim7 := { stood := { row := capsApplyUptoRow, standIns := [], harness := (true, "19e965e11e31b0c5b39e07fa01e095a9528ec902d54bb387ee39a7942c9c6623"), looks := false }, kinds := [], alts := [], laidByText := true, laidKinds := [.data, .data, .pinned], laidTests := true, laidLooks := .later }
def CapsApplyUptoCardSaid : Prop := Claim7.holds Tryd.pinned (.plain (OpenSpec.upto capsApplySpec)) capsApplyUptoCard

/-- THE SECOND FORM's CARD OF 'rollcalllaw12.CapsTexts'. -/
def capsTextsUptoCard : Claim7 := { stood := { row := capsTextsUptoRow, standIns := [], harness := (true, "19e965e11e31b0c5b39e07fa01e095a9528ec902d54bb387ee39a7942c9c6623"), looks := false }, kinds := [], alts := [], laidByText := true, laidKinds := [.data, .data, .pinned], laidTests := true, laidLooks := .later }
def CapsTextsUptoCardSaid : Prop := Claim7.holds Tryd.pinned (.plain (OpenSpec.upto capsTextsSpec)) capsTextsUptoCard

/-- THE SECOND FORM's CARD OF 'rollcalllaw12.CapsTwo'. -/
def capsTwoUptoCard : Claim7 := { stood := { row := capsTwoUptoRow, standIns := [], harness := (true, "19e965e11e31b0c5b39e07fa01e095a9528ec902d54bb387ee39a7942c9c6623"), looks := false }, kinds := [], alts := [], laidByText := true, laidKinds := [.data, .data, .pinned], laidTests := true, laidLooks := .later }
def CapsTwoUptoCardSaid : Prop := Claim7.holds Tryd.pinned (.plain (OpenSpec.upto capsTwoSpec)) capsTwoUptoCard

/-- THE SECOND FORM's CARD OF 'rollcalllaw15.ConfigChecks'. -/
def configChecksUptoCard : Claim7 := { stood := { row := configChecksUptoRow, standIns := [], harness := (true, "19e965e11e31b0c5b39e07fa01e095a9528ec902d54bb387ee39a7942c9c6623"), looks := false }, kinds := [], alts := [], laidByText := true, laidKinds := [.data], laidTests := true, laidLooks := .later }
def ConfigChecksUptoCardSaid : Prop := Claim7.holds Tryd.pinned (.plain (OpenSpec.upto configChecksSpec)) configChecksUptoCard

/-- THE SECOND FORM's CARD OF 'rollcalllaw15.ConfigSupports'. -/
def configSupportsUptoCard : Claim7 := { stood := { row := configSupportsUptoRow, standIns := [], harness := (true, "19e965e11e31b0c5b39e07fa01e095a9528ec902d54bb387ee39a7942c9c6623"), looks := false }, kinds := [], alts := [], laidByText := true, laidKinds := [.data, .data, .data, .data, .data, .pinned], laidTests := true, laidLooks := .later }
def ConfigSupportsUptoCardSaid : Prop := Claim7.holds Tryd.pinned (.plain (OpenSpec.upto configSupportsSpec)) configSupportsUptoCard

/-- THE SECOND FORM's CARD OF 'rollcalllaw15.ConfigBounds'. -/
def configBoundsUptoCard : Claim7 := { stood := { row := configBoundsUptoRow, standIns := [], harness := (true, "19e965e11e31b0c5b39e07fa01e095a9528ec902d54bb387ee39a7942c9c6623"), looks := false }, kinds := [], alts := [], laidByText := true, laidKinds := [.data], laidTests := true, laidLooks := .later }
def ConfigBoundsUptoCardSaid : Prop := Claim7.holds Tryd.pinned (.plain (OpenSpec.upto configBoundsSpec)) configBoundsUptoCard
end Rows
end Go.Proofs.YtbpnaclnninndaaDoor
