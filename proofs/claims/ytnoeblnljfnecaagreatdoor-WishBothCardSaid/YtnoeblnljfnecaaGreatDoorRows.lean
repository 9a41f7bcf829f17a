/-
  NARROWER THAN 'FOR EVERY INPUT', by the rows' own cells (each row's printed sentence says how): WishPlays: laid · WishNone: laid · WishBoth: laid.
  DERIVED. THE GIVEN ROWS OF THIS SEAT. 3 by the template 'for every input the law returns true; each argument reads behind the call as it read before'; 0 by the template 'total and deterministic' (their statements: YtnoeblnljfnecaaGreatDoorTotals.lean).
  GIVEN WITH THE SEED: the statements are not yours to turn. If you find one false, say at which input.
  Laid BY PROGRAM, IN A SANDBOX (cutbox-rows.mjs): the forced cells as the released guide's own fill.sh prints them over the translation 6b81053a180b51fe… (all of the seat's roots in one cut). By AI agents, Wed Nov 11 2026. No macro, syntax, notation, axiom, sorry.
-/
import Derived.Test.YtnoeblnljfnecaaGreatDoorChecked
import GoSem.PinnedTables
import GoSem.Claim
import GoSem.ClaimJoined
import GoSem.ClaimMapViews
import Derived.JoinedTies
import Derived.KernelRfl
namespace Go.Proofs.YtnoeblnljfnecaaGreatDoor
/- THE CELL 'sum', in the pinned program and in every row, IS THE sha256 OF THE DUMP (.gsa) THAT YtnoeblnljfnecaaGreatDoorProg.lean LOADS. Nothing in Lean hashes anything: it is a label: what it is worth is what the hold of that sum in a sandbox is worth. -/
noncomputable def Tryz.pinned : Pinned := { name := "ytnoeblnljfnecaagreatdoor", sum := "6b81053a180b51fe0b6a217092ddc170b6a885741324411bad2c175b6313c9a8", checked := Tryz.checked }
namespace Rows
def none {H : Type} : Left H := { results := [], args := [] }

/- WHAT THE LISTED PACKAGE-LEVEL VARIABLES READ AS WHEN THE CALL BEGINS. Each datum BY PROGRAM (the guide's laid-datum.mjs) off the statement by which the dump's own 'gosem.cut.vars' lays the variable. In a bare row this is a premise. The card (YtnoeblnljfnecaaGreatDoorCards.lean) ties it to the program's text. -/
def laid_unicode_utf8_acceptRanges {H : Type} : DataW H := .agg [.agg [.lit (.int .u8 128), .lit (.int .u8 191)], .agg [.lit (.int .u8 160), .lit (.int .u8 191)], .agg [.lit (.int .u8 128), .lit (.int .u8 159)], .agg [.lit (.int .u8 144), .lit (.int .u8 191)], .agg [.lit (.int .u8 128), .lit (.int .u8 143)], .agg [.lit (.int .u8 0), .lit (.int .u8 0)], .agg [.lit (.int .u8 0), .lit (.int .u8 0)], .agg [.lit (.int .u8 0), .lit (.int .u8 0)], .agg [.lit (.int .u8 0), .lit (.int .u8 0)], .agg [.lit (.int .u8 0), .lit (.int .u8 0)], .agg [.lit (.int .u8 0), .lit (.int .u8 0)], .agg [.lit (.int .u8 0), .lit (.int .u8 0)], .agg [.lit (.int .u8 0), .lit (.int .u8 0)], .agg [.lit (.int .u8 0), .lit (.int .u8 0)], .agg [.lit (.int .u8 0), .lit (.int .u8 0)], .agg [.lit (.int .u8 0), .lit (.int .u8 0)]]
def laid_rollcall_valid_bytesOf {H : Type} : DataW H := .agg [.lit (.string [65, 66, 67, 68, 69, 70, 71, 72, 73, 74, 75, 76, 77, 78, 79, 80, 81, 82, 83, 84, 85, 86, 87, 88, 89, 90, 97, 98, 99, 100, 101, 102, 103, 104, 105, 106, 107, 108, 109, 110, 111, 112, 113, 114, 115, 116, 117, 118, 119, 120, 121, 122]), .lit (.string [48, 49, 50, 51, 52, 53, 54, 55, 56, 57]), .lit (.string [91, 93, 92, 95, 94, 123, 124, 125, 96]), .lit (.string [45]), .lit (.string [46]), .lit (.string [58]), .lit (.string [44]), .lit (.string [33, 64, 42, 63]), .lit (.string [0, 13, 10]), .lit (.string [7]), .lit (.string [32])]
/-- One of Go's own tables, pinned by name: the form's constant. -/
def laid_unicode_utf8_first : DataW Unit := Go.Pinned.utf8First

/-- 'rollcalllaw21.WishPlays': WHATEVER THE INPUT: true; the input reads as it did. -/
def wishPlaysSpec : ChangeSpec := { name := "wishPlays", fn := fun _ => fun
  | [d1, d2, d3] => { results := [.lit (.bool true)], args := [d1, d2, d3] }
  | _ => none }
def wishPlaysRow : OpenClaim := { program := "ytnoeblnljfnecaagreatdoor", sum := "6b81053a180b51fe0b6a217092ddc170b6a885741324411bad2c175b6313c9a8", func := "rollcall/rollcalllaw21.WishPlays", spec := "wishPlays", inPlace := ["internal/bytealg.IndexByteString", "internal/bytealg.IndexString", "slices.overlaps[string]", "slices.overlaps[int]"], unfollowed := true, recurses := true, named := ["unicode/utf8.first", "unicode/utf8.acceptRanges", "internal/bytealg.MaxLen", "rollcall/valid.bytesOf"], plainKeys := false, apart := false, laid := [("unicode/utf8.acceptRanges", laid_unicode_utf8_acceptRanges), ("rollcall/valid.bytesOf", laid_rollcall_valid_bytesOf), ("unicode/utf8.first", laid_unicode_utf8_first)] }
def WishPlaysSaid : Prop := wishPlaysRow.holds Tryz.pinned (OpenSpec.ofChange wishPlaysSpec)

/-- ITS FALSE NEIGHBOUR: 'it returns false'. Refute it at one input. -/
def wishPlaysWrong : ChangeSpec := { name := "wishPlays", fn := fun _ => fun
  | [d1, d2, d3] => { results := [.lit (.bool false)], args := [d1, d2, d3] }
  | _ => none }
def WishPlaysWrongFalsely : Prop := wishPlaysRow.holds Tryz.pinned (OpenSpec.ofChange wishPlaysWrong)

/-- 'rollcalllaw21.WishNone': WHATEVER THE INPUT: true; the input reads as it did. -/
def wishNoneSpec : ChangeSpec := { name := "wishNone", fn := fun _ => fun
  | [d1, d2, d3] => { results := [.lit (.bool true)], args := [d1, d2, d3] }
  | _ => none }
def wishNoneRow : OpenClaim := { program := "ytnoeblnljfnecaagreatdoor", sum := "6b81053a180b51fe0b6a217092ddc170b6a885741324411bad2c175b6313c9a8", func := "rollcall/rollcalllaw21.WishNone", spec := "wishNone", inPlace := ["internal/bytealg.IndexByteString", "internal/bytealg.IndexString", "slices.overlaps[string]", "slices.overlaps[int]"], unfollowed := true, recurses := true, named := ["unicode/utf8.first", "unicode/utf8.acceptRanges", "internal/bytealg.MaxLen", "rollcall/valid.bytesOf"], plainKeys := false, apart := false, laid := [("unicode/utf8.acceptRanges", laid_unicode_utf8_acceptRanges), ("rollcall/valid.bytesOf", laid_rollcall_valid_bytesOf), ("unicode/utf8.first", laid_unicode_utf8_first)] }
def WishNoneSaid : Prop := wishNoneRow.holds Tryz.pinned (OpenSpec.ofChange wishNoneSpec)

/-- ITS FALSE NEIGHBOUR: 'it returns false'. Refute it at one input. -/
def wishNoneWrong : ChangeSpec := { name := "wishNone", fn := fun _ => fun
  | [d1, d2, d3] => { results := [.lit (.bool false)], args := [d1, d2, d3] }
  | _ => none }
def WishNoneWrongFalsely : Prop := wishNoneRow.holds Tryz.pinned (OpenSpec.ofChange wishNoneWrong)

/-- 'rollcalllaw21.WishBoth': WHATEVER THE INPUT: true; the input reads as it did. -/
def wishBothSpec : ChangeSpec := { name := "wishBoth", fn := fun _ => fun
  | [d1, d2] => { results := [.lit (.bool true)], args := [d1, d2] }
  | _ => none }
def wishBothRow : OpenClaim := { program := "ytnoeblnljfnecaagreatdoor", sum := "6b81053a180b51fe0b6a217092ddc170b6a885741324411bad2c175b6313c9a8", func := "rollcall/rollcalllaw21.WishBoth", spec := "wishBoth", inPlace := ["internal/bytealg.IndexByteString", "internal/bytealg.IndexString", "slices.overlaps[string]", "slices.overlaps[int]"], unfollowed := true, recurses := true, named := ["unicode/utf8.first", "unicode/utf8.acceptRanges", "internal/bytealg.MaxLen", "rollcall/valid.bytesOf"], plainKeys := false, apart := false, laid := [("unicode/utf8.acceptRanges", laid_unicode_utf8_acceptRanges), ("rollcall/valid.bytesOf", laid_rollcall_valid_bytesOf), ("unicode/utf8.first", laid_unicode_utf8_first)] }
def WishBothSaid : Prop := wishBothRow.holds Tryz.pinned (OpenSpec.ofChange wishBothSpec)

/-- ITS FALSE NEIGHBOUR: 'it returns false'. Refute it at one input. -/
def wishBothWrong : ChangeSpec := { name := "wishBoth", fn := fun _ => fun
  | [d1, d2] => { results := [.lit (.bool false)], args := [d1, d2] }
  | _ => none }
def WishBothWrongFalsely : Prop := wishBothRow.holds Tryz.pinned (OpenSpec.ofChange wishBothWrong)

/- THE SECOND FORM. 'bulk': how many values and letters a reading holds, each counted each time it is reached (what is shared counts as often as it is met; a slice's spare places count too). A statement '..UptoSaid' is the law's where the arguments, and the package variables that the reading takes, are together of bulk at most 1048576: NARROWER than '..Said'. Prove '..Said' where nothing that the law and all that it calls make is longer than what came in: it says more and counts as full. Else prove '..UptoSaid'. A law counts once. -/
mutual
def uptoBulk {H : Type} : DataW H → Nat
  | .lit (.string bytes) => bytes.length + 1
  | .lit _ => 1
  | .nil => 1
  | .ptr d => uptoBulk d + 1
  | .slice elems spare => uptoBulkAll elems + uptoBulkAll spare + 1
  | .agg parts => uptoBulkAll parts + 1
  | .iface _ d => uptoBulk d + 1
  | .map entries => uptoBulkEntries entries + 1
  | .held _ => 1
def uptoBulkAll {H : Type} : List (DataW H) → Nat
  | [] => 0
  | d :: r => uptoBulk d + uptoBulkAll r
def uptoBulkEntries {H : Type} : List (Lit × DataW H) → Nat
  | [] => 0
  | x :: r => uptoBulkEntry x + uptoBulkEntries r
def uptoBulkEntry {H : Type} : Lit × DataW H → Nat
  | (.string bytes, d) => bytes.length + uptoBulk d + 1
  | (_, d) => uptoBulk d + 1
 end
def uptoSmall : (H : Type) → List (DataW H) → Bool := fun _ ds => decide (uptoBulkAll ds ≤ 1048576)
def OpenSpec.upto (s : _root_.Go.ChangeSpec) : _root_.Go.OpenSpec := { _root_.Go.OpenSpec.ofChange s with cond := some uptoSmall }

/-- 'rollcalllaw21.WishPlays', WHERE WHAT IT READS IS OF BULK AT MOST 1048576: true; the input reads as it did. -/
def wishPlaysUptoRow : OpenClaim := { program := "ytnoeblnljfnecaagreatdoor", sum := "6b81053a180b51fe0b6a217092ddc170b6a885741324411bad2c175b6313c9a8", func := "rollcall/rollcalllaw21.WishPlays", spec := "wishPlays", inPlace := ["internal/bytealg.IndexByteString", "internal/bytealg.IndexString", "slices.overlaps[string]", "slices.overlaps[int]"], unfollowed := true, recurses := true, named := ["unicode/utf8.first", "unicode/utf8.acceptRanges", "internal/bytealg.MaxLen", "rollcall/valid.bytesOf"], plainKeys := false, apart := false, laid := [("unicode/utf8.acceptRanges", laid_unicode_utf8_acceptRanges), ("rollcall/valid.bytesOf", laid_rollcall_valid_bytesOf), ("unicode/utf8.first", laid_unicode_utf8_first)], narrowed := true }
def WishPlaysUptoSaid : Prop := wishPlaysUptoRow.holds Tryz.pinned (OpenSpec.upto wishPlaysSpec)

/-- 'rollcalllaw21.WishNone', WHERE WHAT IT READS IS OF BULK AT MOST 1048576: true; the input reads as it did. -/
def wishNoneUptoRow : OpenClaim := { program := "ytnoeblnljfnecaagreatdoor", sum := "6b81053a180b51fe0b6a217092ddc170b6a885741324411bad2c175b6313c9a8", func := "rollcall/rollcalllaw21.WishNone", spec := "wishNone", inPlace := ["internal/bytealg.IndexByteString", "internal/bytealg.IndexString", "slices.overlaps[string]", "slices.overlaps[int]"], unfollowed := true, recurses := true, named := ["unicode/utf8.first", "unicode/utf8.acceptRanges", "internal/bytealg.MaxLen", "rollcall/valid.bytesOf"], plainKeys := false, apart := false, laid := [("unicode/utf8.acceptRanges", laid_unicode_utf8_acceptRanges), ("rollcall/valid.bytesOf", laid_rollcall_valid_bytesOf), ("unicode/utf8.first", laid_unicode_utf8_first)], narrowed := true }
def WishNoneUptoSaid : Prop := wishNoneUptoRow.holds Tryz.pinned (OpenSpec.upto wishNoneSpec)

/-- 'rollcalllaw21.WishBoth', WHERE WHAT IT READS IS OF BULK AT MOST 1048576: true; the input reads as it did. -/
def wishBothUptoRow : OpenClaim := { program := "ytnoeblnljfnecaagreatdoor", sum := "6b81053a180b51fe0b6a217092ddc170b6a885741324411bad2c175b6313c9a8", func := "rollcall/rollcalllaw21.WishBoth", spec := "wishBoth", inPlace := ["internal/bytealg.IndexByteString", "internal/bytealg.IndexString", "slices.overlaps[string]", "slices.overlaps[int]"], unfollowed := true, recurses := true, named := ["unicode/utf8.first", "unicode/utf8.acceptRanges", "internal/bytealg.MaxLen", "rollcall/valid.bytesOf"], plainKeys := false, apart := false, laid := [("unicode/utf8.acceptRanges", laid_unicode_utf8_acceptRanges), ("rollcall/valid.bytesOf", laid_rollcall_valid_bytesOf), ("unicode/utf8.first", laid_unicode_utf8_first)], narrowed := true }
def WishBothUptoSaid : Prop := wishBothUptoRow.holds Tryz.pinned (OpenSpec.upto wishBothSpec)

end Rows
end Go.Proofs.YtnoeblnljfnecaaGreatDoor
