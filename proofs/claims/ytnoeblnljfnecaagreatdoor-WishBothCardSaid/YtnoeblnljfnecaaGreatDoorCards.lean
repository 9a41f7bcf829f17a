/-
  DERIVED. GIVEN WITH THE SEED: THE CARDS: each row of YtnoeblnljfnecaaGreatDoorRows.lean that lists a variable, with what it lists TIED to the program's text (the seventh form; the later family's looks); each row that meets fmt, with fmt's text TOLD by the authors' own Lean function (tested against real Go, not proved from fmt's source: count such statements apart). THE CARD IS WHAT COUNTS. Prove the row's statement (the work); the ties are given (YtnoeblnljfnecaaGreatDoorTie.lean); close each card by the builder's one call (the guide's Derived/Test/ToyasCard.lean, 'card_holds'). Laid BY PROGRAM, IN A SANDBOX (cutbox-door.mjs). By AI agents, Wed Nov 11 2026. No macro, syntax, notation, axiom, sorry.
-/
import Derived.Test.YtnoeblnljfnecaaGreatDoorRows
import GoSem.ClaimSeven
namespace Go.Proofs.YtnoeblnljfnecaaGreatDoor
namespace Rows

/-- THE TIED CARD OF 'rollcalllaw21.WishPlays'. -/
def wishPlaysCard : Claim7 := { stood := { row := wishPlaysRow, standIns := [], harness := (true, "107c6fc5d979dcfa68df9948e3c9d3c934bf9d96664678157a35eb3646d54ff1"), looks := false }, kinds := [], alts := [], laidByText := true, laidKinds := [.data, .data, .pinned], laidTests := true, laidLooks := .later }
def WishPlaysCardSaid : Prop := Claim7.holds Tryz.pinned (.plain (OpenSpec.ofChange wishPlaysSpec)) wishPlaysCard

/-- THE TIED CARD OF 'rollcalllaw21.WishNone'. -/
def wishNoneCard : Claim7 := { stood := { row := wishNoneRow, standIns := [], harness := (true, "107c6fc5d979dcfa68df9948e3c9d3c934bf9d96664678157a35eb3646d54ff1"), looks := false }, kinds := [], alts := [], laidByText := true, laidKinds := [.data, .data, .pinned], laidTests := true, laidLooks := .later }
def WishNoneCardSaid : Prop := Claim7.holds Tryz.pinned (.plain (OpenSpec.ofChange wishNoneSpec)) wishNoneCard

/-- THE TIED CARD OF 'rollcalllaw21.WishBoth'. -/
def wishBothCard : Claim7 := { stood := { row := wishBothRow, standIns := [], harness := (true, "107c6fc5d979dcfa68df9948e3c9d3c934bf9d96664678157a35eb3646d54ff1"), looks := false }, kinds := [], alts := [], laidByText := true, laidKinds := [.data, .data, .pinned], laidTests := true, laidLooks := .later }
def WishBothCardSaid : Prop := Claim7.holds Tryz.pinned (.plain (OpenSpec.ofChange wishBothSpec)) wishBothCard

/-- THE SECOND FORM's CARD OF 'rollcalllaw21.WishPlays'. -/
def wishPlaysUptoCard : Claim7 := { stood := { row := wishPlaysUptoRow, standIns := [], harness := (true, "107c6fc5d979dcfa68df9948e3c9d3c934bf9d96664678157a35eb3646d54ff1"), looks := false }, kinds := [], alts := [], laidByText := true, laidKinds := [.data, .data, .pinned], laidTests := true, laidLooks := .later }
def WishPlaysUptoCardSaid : Prop := Claim7.holds Tryz.pinned (.plain (OpenSpec.upto wishPlaysSpec)) wishPlaysUptoCard

/-- THE SECOND FORM's CARD OF 'rollcalllaw21.WishNone'. -/
def wishNoneUptoCard : Claim7 := { stood := { row := wishNoneUptoRow, standIns := [], harness := (true, "107c6fc5d979dcfa68df9948e3c9d3c934bf9d96664678157a35eb3646d54ff1"), looks := false }, kinds := [], alts := [], laidByText := true, laidKinds := [.data, .data, .pinned], laidTests := true, laidLooks := .later }
def WishNoneUptoCardSaid : Prop := Claim7.holds Tryz.pinned (.plain (OpenSpec.upto wishNoneSpec)) wishNoneUptoCard

/-- THE SECOND FORM's CARD OF 'rollcalllaw21.WishBoth'. -/
def wishBothUptoCard : Claim7 := { stood := { row := wishBothUptoRow, standIns := [], harness := (true, "107c6fc5d979dcfa68df9948e3c9d3c934bf9d96664678157a35eb3646d54ff1"), looks := false }, kinds := [], alts := [], laidByText := true, laidKinds := [.data, .data, .pinned], laidTests := true, laidLooks := .later }
def WishBothUptoCardSaid : Prop := Claim7.holds Tryz.pinned (.plain (OpenSpec.upto wishBothSpec)) wishBothUptoCard
end Rows
end Go.Proofs.YtnoeblnljfnecaaGreatDoor
