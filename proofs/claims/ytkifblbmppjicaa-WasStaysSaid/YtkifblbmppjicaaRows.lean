/-
  No cell of these rows narrows 'for every input' (looked for: loops, veiled, ifaces, maps, wideKeys, modest, calm, conditions, laid).
  DERIVED. THE GIVEN ROWS OF THIS SEAT. 6 by the template 'for every input the law returns true; each argument reads behind the call as it read before'; 0 by the template 'total and deterministic' (their statements: YtkifblbmppjicaaTotals.lean).
  GIVEN WITH THE SEED: the statements are not yours to turn. If you find one false, say at which input.
  Laid BY PROGRAM, IN A SANDBOX (cutbox-rows.mjs): the forced cells as the released guide's own fill.sh prints them over the translation 79301db2d36a6ffb… (all of the seat's roots in one cut). By AI agents, Wed Nov 11 2026. No macro, syntax, notation, axiom, sorry.
-/
import Derived.Test.YtkifblbmppjicaaChecked
import GoSem.Claim
import GoSem.ClaimJoined
import GoSem.ClaimMapViews
import Derived.JoinedTies
import Derived.KernelRfl
namespace Go.Proofs.Ytkifblbmppjicaa
/- THE CELL 'sum', in the pinned program and in every row, IS THE sha256 OF THE DUMP (.gsa) THAT YtkifblbmppjicaaProg.lean LOADS. Nothing in Lean hashes anything: it is a label: what it is worth is what the hold of that sum in a sandbox is worth. -/
noncomputable def Try.pinned : Pinned := { name := "ytkifblbmppjicaa", sum := "79301db2d36a6ffbcc7ba3ab08bc8e79d3bd36090214092f957e1ea929876879", checked := Try.checked }
namespace Rows
def none {H : Type} : Left H := { results := [], args := [] }

/-- 'rollcalllaw13.WasPlays': WHATEVER THE INPUT: true; the input reads as it did. -/
def wasPlaysSpec : ChangeSpec := { name := "wasPlays", fn := fun _ => fun
  | [d1, d2, d3] => { results := [.lit (.bool true)], args := [d1, d2, d3] }
  | _ => none }
def wasPlaysRow : OpenClaim := { program := "ytkifblbmppjicaa", sum := "79301db2d36a6ffbcc7ba3ab08bc8e79d3bd36090214092f957e1ea929876879", func := "rollcall/rollcalllaw13.WasPlays", spec := "wasPlays", unfollowed := true, recurses := true, apart := false }
def WasPlaysSaid : Prop := wasPlaysRow.holds Try.pinned (OpenSpec.ofChange wasPlaysSpec)

/-- ITS FALSE NEIGHBOUR: 'it returns false'. Refute it at one input. -/
def wasPlaysWrong : ChangeSpec := { name := "wasPlays", fn := fun _ => fun
  | [d1, d2, d3] => { results := [.lit (.bool false)], args := [d1, d2, d3] }
  | _ => none }
def WasPlaysWrongFalsely : Prop := wasPlaysRow.holds Try.pinned (OpenSpec.ofChange wasPlaysWrong)

/-- 'rollcalllaw13.WasStays': WHATEVER THE INPUT: true; the input reads as it did. -/
def wasStaysSpec : ChangeSpec := { name := "wasStays", fn := fun _ => fun
  | [d1, d2] => { results := [.lit (.bool true)], args := [d1, d2] }
  | _ => none }
def wasStaysRow : OpenClaim := { program := "ytkifblbmppjicaa", sum := "79301db2d36a6ffbcc7ba3ab08bc8e79d3bd36090214092f957e1ea929876879", func := "rollcall/rollcalllaw13.WasStays", spec := "wasStays", unfollowed := true, recurses := true, apart := false }
def WasStaysSaid : Prop := wasStaysRow.holds Try.pinned (OpenSpec.ofChange wasStaysSpec)

/-- ITS FALSE NEIGHBOUR: 'it returns false'. Refute it at one input. -/
def wasStaysWrong : ChangeSpec := { name := "wasStays", fn := fun _ => fun
  | [d1, d2] => { results := [.lit (.bool false)], args := [d1, d2] }
  | _ => none }
def WasStaysWrongFalsely : Prop := wasStaysRow.holds Try.pinned (OpenSpec.ofChange wasStaysWrong)

/-- 'rollcalllaw02.BookPlays': WHATEVER THE INPUT: true; the input reads as it did. -/
def bookPlaysSpec : ChangeSpec := { name := "bookPlays", fn := fun _ => fun
  | [d1, d2, d3] => { results := [.lit (.bool true)], args := [d1, d2, d3] }
  | _ => none }
def bookPlaysRow : OpenClaim := { program := "ytkifblbmppjicaa", sum := "79301db2d36a6ffbcc7ba3ab08bc8e79d3bd36090214092f957e1ea929876879", func := "rollcall/rollcalllaw02.BookPlays", spec := "bookPlays", unfollowed := true, recurses := true, apart := false }
def BookPlaysSaid : Prop := bookPlaysRow.holds Try.pinned (OpenSpec.ofChange bookPlaysSpec)

/-- ITS FALSE NEIGHBOUR: 'it returns false'. Refute it at one input. -/
def bookPlaysWrong : ChangeSpec := { name := "bookPlays", fn := fun _ => fun
  | [d1, d2, d3] => { results := [.lit (.bool false)], args := [d1, d2, d3] }
  | _ => none }
def BookPlaysWrongFalsely : Prop := bookPlaysRow.holds Try.pinned (OpenSpec.ofChange bookPlaysWrong)

/-- 'rollcalllaw02.BookStays': WHATEVER THE INPUT: true; the input reads as it did. -/
def bookStaysSpec : ChangeSpec := { name := "bookStays", fn := fun _ => fun
  | [d1, d2] => { results := [.lit (.bool true)], args := [d1, d2] }
  | _ => none }
def bookStaysRow : OpenClaim := { program := "ytkifblbmppjicaa", sum := "79301db2d36a6ffbcc7ba3ab08bc8e79d3bd36090214092f957e1ea929876879", func := "rollcall/rollcalllaw02.BookStays", spec := "bookStays", unfollowed := true, recurses := true, apart := false }
def BookStaysSaid : Prop := bookStaysRow.holds Try.pinned (OpenSpec.ofChange bookStaysSpec)

/-- ITS FALSE NEIGHBOUR: 'it returns false'. Refute it at one input. -/
def bookStaysWrong : ChangeSpec := { name := "bookStays", fn := fun _ => fun
  | [d1, d2] => { results := [.lit (.bool false)], args := [d1, d2] }
  | _ => none }
def BookStaysWrongFalsely : Prop := bookStaysRow.holds Try.pinned (OpenSpec.ofChange bookStaysWrong)

/-- 'rollcalllaw02.BookNone': WHATEVER THE INPUT: true; the input reads as it did. -/
def bookNoneSpec : ChangeSpec := { name := "bookNone", fn := fun _ => fun
  | [d1, d2] => { results := [.lit (.bool true)], args := [d1, d2] }
  | _ => none }
def bookNoneRow : OpenClaim := { program := "ytkifblbmppjicaa", sum := "79301db2d36a6ffbcc7ba3ab08bc8e79d3bd36090214092f957e1ea929876879", func := "rollcall/rollcalllaw02.BookNone", spec := "bookNone", unfollowed := true, recurses := true, apart := false }
def BookNoneSaid : Prop := bookNoneRow.holds Try.pinned (OpenSpec.ofChange bookNoneSpec)

/-- ITS FALSE NEIGHBOUR: 'it returns false'. Refute it at one input. -/
def bookNoneWrong : ChangeSpec := { name := "bookNone", fn := fun _ => fun
  | [d1, d2] => { results := [.lit (.bool false)], args := [d1, d2] }
  | _ => none }
def BookNoneWrongFalsely : Prop := bookNoneRow.holds Try.pinned (OpenSpec.ofChange bookNoneWrong)

/-- 'rollcalllaw02.BookFull': WHATEVER THE INPUT: true; the input reads as it did. -/
def bookFullSpec : ChangeSpec := { name := "bookFull", fn := fun _ => fun
  | [d] => { results := [.lit (.bool true)], args := [d] }
  | _ => none }
def bookFullRow : OpenClaim := { program := "ytkifblbmppjicaa", sum := "79301db2d36a6ffbcc7ba3ab08bc8e79d3bd36090214092f957e1ea929876879", func := "rollcall/rollcalllaw02.BookFull", spec := "bookFull", unfollowed := true, recurses := true, apart := false }
def BookFullSaid : Prop := bookFullRow.holds Try.pinned (OpenSpec.ofChange bookFullSpec)

/-- ITS FALSE NEIGHBOUR: 'it returns false'. Refute it at one input. -/
def bookFullWrong : ChangeSpec := { name := "bookFull", fn := fun _ => fun
  | [d] => { results := [.lit (.bool false)], args := [d] }
  | _ => none }
def BookFullWrongFalsely : Prop := bookFullRow.holds Try.pinned (OpenSpec.ofChange bookFullWrong)

/- THE SECOND FORM. 'bulk': how many values and letters a reading holds, each counted each time it is reached (what is shared counts as often as it is met; a slice's spare places count too). A statement '..UptoSaid' is the law's where the arguments, and the package variables that the reading takes, are together of bulk at most 1048576: NARROWER than '..Said'. Prove '..Said' where nothing that the law and all that it calls make is longer than what came in: it says more and counts as full. Else prove '..UptoSaid'. A law counts once. -/
mutual
def uptoBulk {H : Type} : DataW H → Nat
  | .lit (.string bytes) => bytes.length + 1
  | .lit _ => 1
  | .nil => 1
  | .ptr d => uptoBulk d + 1
  | .slice elems spare => uptoBulkAll elems + uptoBulkAll spare + 1
  | .agg parts => uptoBulkAll parts + 1
  | .iface _ d => uptoBulk d + 1
  | .map entries => uptoBulkEntries entries + 1
  | .held _ => 1
def uptoBulkAll {H : Type} : List (DataW H) → Nat
  | [] => 0
  | d :: r => uptoBulk d + uptoBulkAll r
def uptoBulkEntries {H : Type} : List (Lit × DataW H) → Nat
  | [] => 0
  | x :: r => uptoBulkEntry x + uptoBulkEntries r
def uptoBulkEntry {H : Type} : Lit × DataW H → Nat
  | (.string bytes, d) => bytes.length + uptoBulk d + 1
  | (_, d) => uptoBulk d + 1
 end
def uptoSmall : (H : Type) → List (DataW H) → Bool := fun _ ds => decide (uptoBulkAll ds ≤ 1048576)
def OpenSpec.upto (s : _root_.Go.ChangeSpec) : _root_.Go.OpenSpec := { _root_.Go.OpenSpec.ofChange s with cond := some uptoSmall }

/-- 'rollcalllaw13.WasPlays', WHERE WHAT IT READS IS OF BULK AT MOST 1048576: true; the input reads as it did. -/
def wasPlaysUptoRow : OpenClaim := { program := "ytkifblbmppjicaa", sum := "79301db2d36a6ffbcc7ba3ab08bc8e79d3bd36090214092f957e1ea929876879", func := "rollcall/rollcalllaw13.WasPlays", spec := "wasPlays", unfollowed := true, recurses := true, apart := false, narrowed := true }
def WasPlaysUptoSaid : Prop := wasPlaysUptoRow.holds Try.pinned (OpenSpec.upto wasPlaysSpec)

/-- 'rollcalllaw13.WasStays', WHERE WHAT IT READS IS OF BULK AT MOST 1048576: true; the input reads as it did. -/
def wasStaysUptoRow : OpenClaim := { program := "ytkifblbmppjicaa", sum := "79301db2d36a6ffbcc7ba3ab08bc8e79d3bd36090214092f957e1ea929876879", func := "rollcall/rollcalllaw13.WasStays", spec := "wasStays", unfollowed := true, recurses := true, apart := false, narrowed := true }
def WasStaysUptoSaid : Prop := wasStaysUptoRow.holds Try.pinned (OpenSpec.upto wasStaysSpec)

/-- 'rollcalllaw02.BookPlays', WHERE WHAT IT READS IS OF BULK AT MOST 1048576: true; the input reads as it did. -/
def bookPlaysUptoRow : OpenClaim := { program := "ytkifblbmppjicaa", sum := "79301db2d36a6ffbcc7ba3ab08bc8e79d3bd36090214092f957e1ea929876879", func := "rollcall/rollcalllaw02.BookPlays", spec := "bookPlays", unfollowed := true, recurses := true, apart := false, narrowed := true }
def BookPlaysUptoSaid : Prop := bookPlaysUptoRow.holds Try.pinned (OpenSpec.upto bookPlaysSpec)

/-- 'rollcalllaw02.BookStays', WHERE WHAT IT READS IS OF BULK AT MOST 1048576: true; the input reads as it did. -/
def bookStaysUptoRow : OpenClaim := { program := "ytkifblbmppjicaa", sum := "79301db2d36a6ffbcc7ba3ab08bc8e79d3bd36090214092f957e1ea929876879", func := "rollcall/rollcalllaw02.BookStays", spec := "bookStays", unfollowed := true, recurses := true, apart := false, narrowed := true }
def BookStaysUptoSaid : Prop := bookStaysUptoRow.holds Try.pinned (OpenSpec.upto bookStaysSpec)

/-- 'rollcalllaw02.BookNone', WHERE WHAT IT READS IS OF BULK AT MOST 1048576: true; the input reads as it did. -/
def bookNoneUptoRow : OpenClaim := { program := "ytkifblbmppjicaa", sum := "79301db2d36a6ffbcc7ba3ab08bc8e79d3bd36090214092f957e1ea929876879", func := "rollcall/rollcalllaw02.BookNone", spec := "bookNone", unfollowed := true, recurses := true, apart := false, narrowed := true }
def BookNoneUptoSaid : Prop := bookNoneUptoRow.holds Try.pinned (OpenSpec.upto bookNoneSpec)

/-- 'rollcalllaw02.BookFull', WHERE WHAT IT READS IS OF BULK AT MOST 1048576: true; the input reads as it did. -/
def bookFullUptoRow : OpenClaim := { program := "ytkifblbmppjicaa", sum := "79301db2d36a6ffbcc7ba3ab08bc8e79d3bd36090214092f957e1ea929876879", func := "rollcall/rollcalllaw02.BookFull", spec := "bookFull", unfollowed := true, recurses := true, apart := false, narrowed := true }
def BookFullUptoSaid : Prop := bookFullUptoRow.holds Try.pinned (OpenSpec.upto bookFullSpec)

end Rows
end Go.Proofs.Ytkifblbmppjicaa
