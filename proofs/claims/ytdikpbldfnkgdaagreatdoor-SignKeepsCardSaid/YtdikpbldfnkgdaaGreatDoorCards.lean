/-
  DERIVED. GIVEN WITH THE SEED: THE CARDS: each row of YtdikpbldfnkgdaaGreatDoorRows.lean that lists a variable, with what it lists TIED to the program's text (the seventh form; the later family's looks); each row that meets fmt, with fmt's text TOLD by the authors' own Lean function (tested against real Go, not proved from fmt's source: count such statements apart). THE CARD IS WHAT COUNTS. Prove the row's statement (the work); the ties are given (YtdikpbldfnkgdaaGreatDoorTie.lean); close each card by the builder's one call (the guide's Derived/Test/ToyasCard.lean, 'card_holds'). Laid BY PROGRAM, IN A SANDBOX (cutbox-door.mjs). By AI agents, Wed Nov 11 2026. No macro, syntax, notation, axiom, sorry.
-/
import Derived.Test.YtdikpbldfnkgdaaGreatDoorRows
import GoSem.ClaimSeven
namespace Go.Proofs.YtdikpbldfnkgdaaGreatDoor
namespace Rows

/-- THE TIED CARD OF 'rollcalllaw17.SignKeeps'. -/
def signKeepsCard : Claim7 := { stood := { row := signKeepsRow, standIns := [], harness := (true, "66e638ebf9e188ff0e0a916940b03dbab6667ad38e5914b7041ba52b2ad48f03"), looks := false }, kinds := [], alts := [], laidByText := true, laidKinds := [.data, .data, .data, .data, .data, .data, .pinned], laidTests := true, laidLooks := .later }
def SignKeepsCardSaid : Prop := Claim7.holds Tryz.pinned (.plain (OpenSpec.ofChange signKeepsSpec)) signKeepsCard

/-- THE SECOND FORM's CARD OF 'rollcalllaw17.SignKeeps'. -/
def signKeepsUptoCard : Claim7 := { stood := { row := signKeepsUptoRow, standIns := [], harness := (true, "66e638ebf9e188ff0e0a916940b03dbab6667ad38e5914b7041ba52b2ad48f03"), looks := false }, kinds := [], alts := [], laidByText := true, laidKinds := [.data, .data, .data, .data, .data, .data, .pinned], laidTests := true, laidLooks := .later }
def SignKeepsUptoCardSaid : Prop := Claim7.holds Tryz.pinned (.plain (OpenSpec.upto signKeepsSpec)) signKeepsUptoCard
end Rows
end Go.Proofs.YtdikpbldfnkgdaaGreatDoor
