/-
  No cell of these rows narrows 'for every input' (looked for: loops, veiled, ifaces, maps, wideKeys, modest, calm, conditions, laid).
  DERIVED. THE GIVEN ROWS OF THIS SEAT. 3 by the template 'for every input the law returns true; each argument reads behind the call as it read before'; 0 by the template 'total and deterministic' (their statements: YteiiaocohpbanaaTotals.lean).
  GIVEN WITH THE SEED: the statements are not yours to turn. If you find one false, say at which input.
  Laid BY PROGRAM, IN A SANDBOX (cutbox-rows.mjs): the forced cells as the released guide's own fill.sh prints them over the translation 8cf7d2abba2338c2… (all of the seat's roots in one cut). By AI agents, Wed Nov 11 2026. No macro, syntax, notation, axiom, sorry.
-/
import Derived.Test.YteiiaocohpbanaaChecked
import GoSem.Claim
import GoSem.ClaimJoined
import GoSem.ClaimMapViews
import Derived.JoinedTies
import Derived.KernelRfl
namespace Go.Proofs.Yteiiaocohpbanaa
/- THE CELL 'sum', in the pinned program and in every row, IS THE sha256 OF THE DUMP (.gsa) THAT YteiiaocohpbanaaProg.lean LOADS. Nothing in Lean hashes anything: it is a label: what it is worth is what the hold of that sum in a sandbox is worth. -/
noncomputable def Try.pinned : Pinned := { name := "yteiiaocohpbanaa", sum := "8cf7d2abba2338c208256f3dcb45a714d45c5d4c4cd985f5f267fc719490ddc5", checked := Try.checked }
namespace Rows
def none {H : Type} : Left H := { results := [], args := [] }

/-- 'rollcalllaw10.SetPlays': WHATEVER THE INPUT: true; the input reads as it did. -/
def setPlaysSpec : ChangeSpec := { name := "setPlays", fn := fun _ => fun
  | [d1, d2] => { results := [.lit (.bool true)], args := [d1, d2] }
  | _ => none }
def setPlaysRow : OpenClaim := { program := "yteiiaocohpbanaa", sum := "8cf7d2abba2338c208256f3dcb45a714d45c5d4c4cd985f5f267fc719490ddc5", func := "rollcall/rollcalllaw10.SetPlays", spec := "setPlays", inPlace := ["slices.overlaps[int]"], unfollowed := true, recurses := true, apart := false }
def SetPlaysSaid : Prop := setPlaysRow.holds Try.pinned (OpenSpec.ofChange setPlaysSpec)

/-- ITS FALSE NEIGHBOUR: 'it returns false'. Refute it at one input. -/
def setPlaysWrong : ChangeSpec := { name := "setPlays", fn := fun _ => fun
  | [d1, d2] => { results := [.lit (.bool false)], args := [d1, d2] }
  | _ => none }
def SetPlaysWrongFalsely : Prop := setPlaysRow.holds Try.pinned (OpenSpec.ofChange setPlaysWrong)

/-- 'rollcalllaw10.SetUnions': WHATEVER THE INPUT: true; the input reads as it did. -/
def setUnionsSpec : ChangeSpec := { name := "setUnions", fn := fun _ => fun
  | [d1, d2] => { results := [.lit (.bool true)], args := [d1, d2] }
  | _ => none }
def setUnionsRow : OpenClaim := { program := "yteiiaocohpbanaa", sum := "8cf7d2abba2338c208256f3dcb45a714d45c5d4c4cd985f5f267fc719490ddc5", func := "rollcall/rollcalllaw10.SetUnions", spec := "setUnions", unfollowed := true, recurses := true, apart := false }
def SetUnionsSaid : Prop := setUnionsRow.holds Try.pinned (OpenSpec.ofChange setUnionsSpec)

/-- ITS FALSE NEIGHBOUR: 'it returns false'. Refute it at one input. -/
def setUnionsWrong : ChangeSpec := { name := "setUnions", fn := fun _ => fun
  | [d1, d2] => { results := [.lit (.bool false)], args := [d1, d2] }
  | _ => none }
def SetUnionsWrongFalsely : Prop := setUnionsRow.holds Try.pinned (OpenSpec.ofChange setUnionsWrong)

/-- 'rollcalllaw10.SetStays': WHATEVER THE INPUT: true; the input reads as it did. -/
def setStaysSpec : ChangeSpec := { name := "setStays", fn := fun _ => fun
  | [d1, d2] => { results := [.lit (.bool true)], args := [d1, d2] }
  | _ => none }
def setStaysRow : OpenClaim := { program := "yteiiaocohpbanaa", sum := "8cf7d2abba2338c208256f3dcb45a714d45c5d4c4cd985f5f267fc719490ddc5", func := "rollcall/rollcalllaw10.SetStays", spec := "setStays", inPlace := ["slices.overlaps[int]"], unfollowed := true, recurses := true, apart := false }
def SetStaysSaid : Prop := setStaysRow.holds Try.pinned (OpenSpec.ofChange setStaysSpec)

/-- ITS FALSE NEIGHBOUR: 'it returns false'. Refute it at one input. -/
def setStaysWrong : ChangeSpec := { name := "setStays", fn := fun _ => fun
  | [d1, d2] => { results := [.lit (.bool false)], args := [d1, d2] }
  | _ => none }
def SetStaysWrongFalsely : Prop := setStaysRow.holds Try.pinned (OpenSpec.ofChange setStaysWrong)

/- THE SECOND FORM. 'bulk': how many values and letters a reading holds, each counted each time it is reached (what is shared counts as often as it is met; a slice's spare places count too). A statement '..UptoSaid' is the law's where the arguments, and the package variables that the reading takes, are together of bulk at most 1048576: NARROWER than '..Said'. Prove '..Said' where nothing that the law and all that it calls make is longer than what came in: it says more and counts as full. Else prove '..UptoSaid'. A law counts once. -/
mutual
def uptoBulk {H : Type} : DataW H → Nat
  | .lit (.string bytes) => bytes.length + 1
  | .lit _ => 1
  | .nil => 1
  | .ptr d => uptoBulk d + 1
  | .slice elems spare => uptoBulkAll elems + uptoBulkAll spare + 1
  | .agg parts => uptoBulkAll parts + 1
  | .iface _ d => uptoBulk d + 1
  | .map entries => uptoBulkEntries entries + 1
  | .held _ => 1
def uptoBulkAll {H : Type} : List (DataW H) → Nat
  | [] => 0
  | d :: r => uptoBulk d + uptoBulkAll r
def uptoBulkEntries {H : Type} : List (Lit × DataW H) → Nat
  | [] => 0
  | x :: r => uptoBulkEntry x + uptoBulkEntries r
def uptoBulkEntry {H : Type} : Lit × DataW H → Nat
  | (.string bytes, d) => bytes.length + uptoBulk d + 1
  | (_, d) => uptoBulk d + 1
 end
def uptoSmall : (H : Type) → List (DataW H) → Bool := fun _ ds => decide (uptoBulkAll ds ≤ 1048576)
def OpenSpec.upto (s : _root_.Go.ChangeSpec) : _root_.Go.OpenSpec := { _root_.Go.OpenSpec.ofChange s with cond := some uptoSmall }

/-- 'rollcalllaw10.SetPlays', WHERE WHAT IT READS IS OF BULK AT MOST 1048576: true; the input reads as it did. -/
def setPlaysUptoRow : OpenClaim := { program := "yteiiaocohpbanaa", sum := "8cf7d2abba2338c208256f3dcb45a714d45c5d4c4cd985f5f267fc719490ddc5", func := "rollcall/rollcalllaw10.SetPlays", spec := "setPlays", inPlace := ["slices.overlaps[int]"], unfollowed := true, recurses := true, apart := false, narrowed := true }
def SetPlaysUptoSaid : Prop := setPlaysUptoRow.holds Try.pinned (OpenSpec.upto setPlaysSpec)

/-- 'rollcalllaw10.SetUnions', WHERE WHAT IT READS IS OF BULK AT MOST 1048576: true; the input reads as it did. -/
def setUnionsUptoRow : OpenClaim := { program := "yteiiaocohpbanaa", sum := "8cf7d2abba2338c208256f3dcb45a714d45c5d4c4cd985f5f267fc719490ddc5", func := "rollcall/rollcalllaw10.SetUnions", spec := "setUnions", unfollowed := true, recurses := true, apart := false, narrowed := true }
def SetUnionsUptoSaid : Prop := setUnionsUptoRow.holds Try.pinned (OpenSpec.upto setUnionsSpec)

/-- 'rollcalllaw10.SetStays', WHERE WHAT IT READS IS OF BULK AT MOST 1048576: true; the input reads as it did. -/
def setStaysUptoRow : OpenClaim := { program := "yteiiaocohpbanaa", sum := "8cf7d2abba2338c208256f3dcb45a714d45c5d4c4cd985f5f267fc719490ddc5", func := "rollcall/rollcalllaw10.SetStays", spec := "setStays", inPlace := ["slices.overlaps[int]"], unfollowed := true, recurses := true, apart := false, narrowed := true }
def SetStaysUptoSaid : Prop := setStaysUptoRow.holds Try.pinned (OpenSpec.upto setStaysSpec)

end Rows
end Go.Proofs.Yteiiaocohpbanaa
