/-
  DERIVED. GIVEN WITH THE SEED: THE CARDS: each row of YtnoeblnljfnecaaDoorRows.lean that lists a variable, with what it lists TIED to the program's text (the seventh form; the later family's looks); each row that meets fmt, with fmt's text TOLD by the authors' own Lean function (tested against real Go, not proved from fmt's source: count such statements apart). THE CARD IS WHAT COUNTS. Prove the row's statement (the work); the ties are given (YtnoeblnljfnecaaDoorTie.lean); close each card by the builder's one call (the guide's Derived/Test/ToyasCard.lean, 'card_holds'). Laid BY PROGRAM, IN A SANDBOX (cutbox-door.mjs). By AI agents, Wed Nov 11 2026. No macro, syntax, notation, axiom, sorry.
-/
import Derived.Test.YtnoeblnljfnecaaDoorRows
import GoSem.ClaimSeven
namespace Go.Proofs.YtnoeblnljfnecaaDoor
namespace Rows

/-- THE TIED CARD OF 'rollcalllaw21.WishAsks'. -/
def wishAsksCard : Claim7 := { stood := { row := wishAsksRow, standIns := [], harness := (true, "8f38268da07de55384136ebbd0b946b0e158db8c762e4cfa4d7d9927e1bddb39"), looks := false }, kinds := [], alts := [], laidByText := true, laidKinds := [.data, .data, .pinned], laidTests := true, laidLooks := .later }
def WishAsksCardSaid : Prop := Claim7.holds Tryd.pinned (.plain (OpenSpec.ofChange wishAsksSpec)) wishAsksCard

/-- THE SECOND FORM's CARD OF 'rollcalllaw21.WishAsks'. -/
def wishAsksUptoCard : Claim7 := { stood := { row := wishAsksUptoRow, standIns := [], harness := (true, "8f38268da07de55384136ebbd0b946b0e158db8c762e4cfa4d7d9927e1bddb39"), looks := false }, kinds := [], alts := [], laidByText := true, laidKinds := [.data, .data, .pinned], laidTests := true, laidLooks := .later }
def WishAsksUptoCardSaid : Prop := Claim7.holds Tryd.pinned (.plain (OpenSpec.upto wishAsksSpec)) wishAsksUptoCard
end Rows
end Go.Proofs.YtnoeblnljfnecaaDoor
