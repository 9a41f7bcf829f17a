/-
  DERIVED. GIVEN WITH THE SEED: THE CARDS: each row of YteepgklilhljiaaDoorRows.lean that lists a variable, with what it lists TIED to the program's text (the seventh form; the later family's looks); each row that meets fmt, with fmt's text TOLD by the authors' own Lean function (tested against real Go, not proved from fmt's source: count such statements apart). THE CARD IS WHAT COUNTS. Prove the row's statement (the work); the ties are given (YteepgklilhljiaaDoorTie.lean); close each card by the builder's one call (the guide's Derived/Test/ToyasCard.lean, 'card_holds'). Laid BY PROGRAM, IN A SANDBOX (cutbox-door.mjs). By AI agents, Wed Nov 11 2026. No macro, syntax, notation, axiom, sorry.
-/
import Derived.Test.YteepgklilhljiaaDoorRows
import GoSem.ClaimSeven
namespace Go.Proofs.YteepgklilhljiaaDoor
namespace Rows

/-- THE TIED CARD OF 'rollcalllaw03.ValidAlike'. -/
def validAlikeCard : Claim7 := { stood := { row := validAlikeRow, standIns := [], harness := (true, "72e85aabb3c2e1653527e32a5cd1c7d5a9a24ce76774ecaa4b0ca34962e45375"), looks := false }, kinds := [], alts := [], laidByText := true, laidKinds := [.data], laidTests := true, laidLooks := .later }
def ValidAlikeCardSaid : Prop := Claim7.holds Tryd.pinned (.plain (OpenSpec.ofChange validAlikeSpec)) validAlikeCard

/-- THE TIED CARD OF 'rollcalllaw22.PersonSeen'. -/
def personSeenCard : Claim7 := { stood := { row := personSeenRow, standIns := [], harness := (true, "72e85aabb3c2e1653527e32a5cd1c7d5a9a24ce76774ecaa4b0ca34962e45375"), looks := false }, kinds := [], alts := [], laidByText := true, laidKinds := [.data, .pinned], laidTests := true, laidLooks := .later }
def PersonSeenCardSaid : Prop := Claim7.holds Tryd.pinned (.plain (OpenSpec.ofChange personSeenSpec)) personSeenCard

/-- THE SECOND FORM's CARD OF 'rollcalllaw03.ValidAlike'. -/
def validAlikeUptoCard : Claim7 := { stood := { row := validAlikeUptoRow, standIns := [], harness := (true, "72e85aabb3c2e1653527e32a5cd1c7d5a9a24ce76774ecaa4b0ca34962e45375"), looks := false }, kinds := [], alts := [], laidByText := true, laidKinds := [.data], laidTests := true, laidLooks := .later }
def ValidAlikeUptoCardSaid : Prop := Claim7.holds Tryd.pinned (.plain (OpenSpec.upto validAlikeSpec)) validAlikeUptoCard

/-- THE SECOND FORM's CARD OF 'rollcalllaw22.PersonSeen'. -/
def personSeenUptoCard : Claim7 := { stood := { row := personSeenUptoRow, standIns := [], harness := (true, "72e85aabb3c2e1653527e32a5cd1c7d5a9a24ce76774ecaa4b0ca34962e45375"), looks := false }, kinds := [], alts := [], laidByText := true, laidKinds := [.data, .pinned], laidTests := true, laidLooks := .later }
def PersonSeenUptoCardSaid : Prop := Claim7.holds Tryd.pinned (.plain (OpenSpec.upto personSeenSpec)) personSeenUptoCard
end Rows
end Go.Proofs.YteepgklilhljiaaDoor
