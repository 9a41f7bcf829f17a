/-
  DERIVED. GIVEN WITH THE SEED: THE CARDS: each row of YtmoioihclnpcbaaDoorRows.lean that lists a variable, with what it lists TIED to the program's text (the seventh form; the later family's looks); each row that meets fmt, with fmt's text TOLD by the authors' own Lean function (tested against real Go, not proved from fmt's source: count such statements apart). THE CARD IS WHAT COUNTS. Prove the row's statement (the work); the ties are given (YtmoioihclnpcbaaDoorTie.lean); close each card by the builder's one call (the guide's Derived/Test/ToyasCard.lean, 'card_holds'). Laid BY PROGRAM, IN A SANDBOX (cutbox-door.mjs). By AI agents, Wed Nov 11 2026. No macro, syntax, notation, axiom, sorry.
-/
import Derived.Test.YtmoioihclnpcbaaDoorRows
import GoSem.ClaimSeven
namespace Go.Proofs.YtmoioihclnpcbaaDoor
namespace Rows

/-- THE TIED CARD OF 'rollcalllaw14.ReplyWho'. -/
def replyWhoCard : Claim7 := { stood := { row := replyWhoRow, standIns := [], harness := (true, "134c2de491be504ca2af3cea5f9bdf7bdf968aa7b0850fef77ecc6e3fc8788fd"), looks := false }, kinds := [], alts := [], laidByText := true, laidKinds := [.data, .data, .data, .data, .pinned], laidTests := true, laidLooks := .later }
def ReplyWhoCardSaid : Prop := Claim7.holds Tryd.pinned (.plain (OpenSpec.ofChange replyWhoSpec)) replyWhoCard

/-- THE TIED CARD OF 'rollcalllaw14.ReplyShort'. -/
def replyShortCard : Claim7 := { stood := { row := replyShortRow, standIns := [], harness := (true, "134c2de491be504ca2af3cea5f9bdf7bdf968aa7b0850fef77ecc6e3fc8788fd"), looks := false }, kinds := [], alts := [], laidByText := true, laidKinds := [.data, .data, .data, .data, .pinned], laidTests := true, laidLooks := .later }
def ReplyShortCardSaid : Prop := Claim7.holds Tryd.pinned (.plain (OpenSpec.ofChange replyShortSpec)) replyShortCard

/-- THE SECOND FORM's CARD OF 'rollcalllaw14.ReplyWho'. -/
def replyWhoUptoCard : Claim7 := { stood := { row := replyWhoUptoRow, standIns := [], harness := (true, "134c2de491be504ca2af3cea5f9bdf7bdf968aa7b0850fef77ecc6e3fc8788fd"), looks := false }, kinds := [], alts := [], laidByText := true, laidKinds := [.data, .data, .data, .data, .pinned], laidTests := true, laidLooks := .later }
def ReplyWhoUptoCardSaid : Prop := Claim7.holds Tryd.pinned (.plain (OpenSpec.upto replyWhoSpec)) replyWhoUptoCard

/-- THE SECOND FORM's CARD OF 'rollcalllaw14.ReplyShort'. -/
def replyShortUptoCard : Claim7 := { stood := { row := replyShortUptoRow, standIns := [], harness := (true, "134c2de491be504ca2af3cea5f9bdf7bdf968aa7b0850fef77ecc6e3fc8788fd"), looks := false }, kinds := [], alts := [], laidByText := true, laidKinds := [.data, .data, .data, .data, .pinned], laidTests := true, laidLooks := .later }
def ReplyShortUptoCardSaid : Prop := Claim7.holds Tryd.pinned (.plain (OpenSpec.upto replyShortSpec)) replyShortUptoCard
end Rows
end Go.Proofs.YtmoioihclnpcbaaDoor
