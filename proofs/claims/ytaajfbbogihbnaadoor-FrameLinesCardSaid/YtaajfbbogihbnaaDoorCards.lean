/-
  DERIVED. GIVEN WITH THE SEED: THE CARDS: each row of YtaajfbbogihbnaaDoorRows.lean that lists a variable, with what it lists TIED to the program's text (the seventh form; the later family's looks); each row that meets fmt, with fmt's text TOLD by the authors' own Lean function (tested against real Go, not proved from fmt's source: count such statements apart). THE CARD IS WHAT COUNTS. Prove the row's statement (the work); the ties are given (YtaajfbbogihbnaaDoorTie.lean); close each card by the builder's one call (the guide's Derived/Test/ToyasCard.lean, 'card_holds'). Laid BY PROGRAM, IN A SANDBOX (cutbox-door.mjs). By AI agents, Wed Nov 11 2026. No macro, syntax, notation, axiom, sorry.
-/
import Derived.Test.YtaajfbbogihbnaaDoorRows
import GoSem.ClaimSeven
namespace Go.Proofs.YtaajfbbogihbnaaDoor
namespace Rows

/-- THE TIED CARD OF 'rollcalllaw05.FrameFeeds'. -/
def frameFeedsCard : Claim7 := { stood := { row := frameFeedsRow, standIns := [], harness := (true, "96bc7235eea91bf9e0f52095a86220a3dc78cfb37d6eac6d3e294e5a8e9ff7c0"), looks := false }, kinds := [], alts := [], laidByText := true, laidKinds := [.data, .pinned], laidTests := true, laidLooks := .later }
def FrameFeedsCardSaid : Prop := Claim7.holds Tryd.pinned (.plain (OpenSpec.ofChange frameFeedsSpec)) frameFeedsCard

/-- THE TIED CARD OF 'rollcalllaw05.FrameLines'. -/
def frameLinesCard : Claim7 := { stood := { row := frameLinesRow, standIns := [], harness := (true, "96bc7235eea91bf9e0f52095a86220a3dc78cfb37d6eac6d3e294e5a8e9ff7c0"), looks := false }, kinds := [], alts := [], laidByText := true, laidKinds := [.data, .pinned], laidTests := true, laidLooks := .later }
def FrameLinesCardSaid : Prop := Claim7.holds Tryd.pinned (.plain (OpenSpec.ofChange frameLinesSpec)) frameLinesCard

/-- THE TIED CARD OF 'rollcalllaw05.FrameLong'. -/
def frameLongCard : Claim7 := { stood := { row := frameLongRow, standIns := [], harness := (true, "96bc7235eea91bf9e0f52095a86220a3dc78cfb37d6eac6d3e294e5a8e9ff7c0"), looks := false }, kinds := [], alts := [], laidByText := true, laidKinds := [.data, .pinned], laidTests := true, laidLooks := .later }
def FrameLongCardSaid : Prop := Claim7.holds Tryd.pinned (.plain (OpenSpec.ofChange frameLongSpec)) frameLongCard

/-- THE TIED CARD OF 'rollcalllaw05.FrameEnds'. -/
def frameEndsCard : Claim7 := { stood := { row := frameEndsRow, standIns := [], harness := (true, "96bc7235eea91bf9e0f52095a86220a3dc78cfb37d6eac6d3e294e5a8e9ff7c0"), looks := false }, kinds := [], alts := [], laidByText := true, laidKinds := [.data, .pinned], laidTests := true, laidLooks := .later }
def FrameEndsCardSaid : Prop := Claim7.holds Tryd.pinned (.plain (OpenSpec.ofChange frameEndsSpec)) frameEndsCard

/-- THE SECOND FORM's CARD OF 'rollcalllaw05.FrameFeeds'. -/
def frameFeedsUptoCard : Claim7 := { stood := { row := frameFeedsUptoRow, standIns := [], harness := (true, "96bc7235eea91bf9e0f52095a86220a3dc78cfb37d6eac6d3e294e5a8e9ff7c0"), looks := false }, kinds := [], alts := [], laidByText := true, laidKinds := [.data, .pinned], laidTests := true, laidLooks := .later }
def FrameFeedsUptoCardSaid : Prop := Claim7.holds Tryd.pinned (.plain (OpenSpec.upto frameFeedsSpec)) frameFeedsUptoCard

/-- THE SECOND FORM's CARD OF 'rollcalllaw05.FrameLines'. -/
def frameLinesUptoCard : Claim7 := { stood := { row := frameLinesUptoRow, standIns := [], harness := (true, "96bc7235eea91bf9e0f52095a86220a3dc78cfb37d6eac6d3e294e5a8e9ff7c0"), looks := false }, kinds := [], alts := [], laidByText := true, laidKinds := [.data, .pinned], laidTests := true, laidLooks := .later }
def FrameLinesUptoCardSaid : Prop := Claim7.holds Tryd.pinned (.plain (OpenSpec.upto frameLinesSpec)) frameLinesUptoCard

/-- THE SECOND FORM's CARD OF 'rollcalllaw05.FrameLong'. -/
def frameLongUptoCard : Claim7 := { stood := { row := frameLongUptoRow, standIns := [], harness := (true, "96bc7235eea91bf9e0f52095a86220a3dc78cfb37d6eac6d3e294e5a8e9ff7c0"), looks := false }, kinds := [], alts := [], laidByText := true, laidKinds := [.data, .pinned], laidTests := true, laidLooks := .later }
def FrameLongUptoCardSaid : Prop := Claim7.holds Tryd.pinned (.plain (OpenSpec.upto frameLongSpec)) frameLongUptoCard

/-- THE SECOND FORM's CARD OF 'rollcalllaw05.FrameEnds'. -/
def frameEndsUptoCard : Claim7 := { stood := { row := frameEndsUptoRow, standIns := [], harness := (true, "96bc7235eea91bf9e0f52095a86220a3dc78cfb37d6eac6d3e294e5a8e9ff7c0"), looks := false }, kinds := [], alts := [], laidByText := true, laidKinds := [.data, .pinned], laidTests := true, laidLooks := .later }
def FrameEndsUptoCardSaid : Prop := Claim7.holds Tryd.pinned (.plain (OpenSpec.upto frameEndsSpec)) frameEndsUptoCard
end Rows
end Go.Proofs.YtaajfbbogihbnaaDoor
