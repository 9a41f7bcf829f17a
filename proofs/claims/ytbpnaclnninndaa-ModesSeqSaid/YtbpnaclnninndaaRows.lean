/-
  No cell of these rows narrows 'for every input' (looked for: loops, veiled, ifaces, maps, wideKeys, modest, calm, conditions, laid).
  DERIVED. THE GIVEN ROWS OF THIS SEAT. 4 by the template 'for every input the law returns true; each argument reads behind the call as it read before'; 0 by the template 'total and deterministic' (their statements: YtbpnaclnninndaaTotals.lean).
  GIVEN WITH THE SEED: the statements are not yours to turn. If you find one false, say at which input.
  Laid BY PROGRAM, IN A SANDBOX (cutbox-rows.mjs): the forced cells as the released guide's own fill.sh prints them over the translation 9051fdfa11f07e7a… (all of the seat's roots in one cut). By AI agents, Wed Nov 11 2026. No macro, syntax, notation, axiom, sorry.
-/
import Derived.Test.YtbpnaclnninndaaChecked
import GoSem.Claim
import GoSem.ClaimJoined
import GoSem.ClaimMapViews
import Derived.JoinedTies
import Derived.KernelRfl
namespace Go.Proofs.Ytbpnaclnninndaa
/- THE CELL 'sum', in the pinned program and in every row, IS THE sha256 OF THE DUMP (.gsa) THAT YtbpnaclnninndaaProg.lean LOADS. Nothing in Lean hashes anything: it is a label: what it is worth is what the hold of that sum in a sandbox is worth. -/
noncomputable def Try.pinned : Pinned := { name := "ytbpnaclnninndaa", sum := "9051fdfa11f07e7a14892cd887729165d8cfd92865e752f49d8914536b9feb23", checked := Try.checked }
namespace Rows
def none {H : Type} : Left H := { results := [], args := [] }

/-- 'rollcalllaw18.ModesParses': WHATEVER THE INPUT: true; the input reads as it did. -/
def modesParsesSpec : ChangeSpec := { name := "modesParses", fn := fun _ => fun
  | [d] => { results := [.lit (.bool true)], args := [d] }
  | _ => none }
def modesParsesRow : OpenClaim := { program := "ytbpnaclnninndaa", sum := "9051fdfa11f07e7a14892cd887729165d8cfd92865e752f49d8914536b9feb23", func := "rollcall/rollcalllaw18.ModesParses", spec := "modesParses", unfollowed := true, recurses := true, apart := false }
def ModesParsesSaid : Prop := modesParsesRow.holds Try.pinned (OpenSpec.ofChange modesParsesSpec)

/-- ITS FALSE NEIGHBOUR: 'it returns false'. Refute it at one input. -/
def modesParsesWrong : ChangeSpec := { name := "modesParses", fn := fun _ => fun
  | [d] => { results := [.lit (.bool false)], args := [d] }
  | _ => none }
def ModesParsesWrongFalsely : Prop := modesParsesRow.holds Try.pinned (OpenSpec.ofChange modesParsesWrong)

/-- 'rollcalllaw18.ModesTexts': WHATEVER THE INPUT: true; the input reads as it did. -/
def modesTextsSpec : ChangeSpec := { name := "modesTexts", fn := fun _ => fun
  | [d] => { results := [.lit (.bool true)], args := [d] }
  | _ => none }
def modesTextsRow : OpenClaim := { program := "ytbpnaclnninndaa", sum := "9051fdfa11f07e7a14892cd887729165d8cfd92865e752f49d8914536b9feb23", func := "rollcall/rollcalllaw18.ModesTexts", spec := "modesTexts", unfollowed := true, recurses := true, apart := false }
def ModesTextsSaid : Prop := modesTextsRow.holds Try.pinned (OpenSpec.ofChange modesTextsSpec)

/-- ITS FALSE NEIGHBOUR: 'it returns false'. Refute it at one input. -/
def modesTextsWrong : ChangeSpec := { name := "modesTexts", fn := fun _ => fun
  | [d] => { results := [.lit (.bool false)], args := [d] }
  | _ => none }
def ModesTextsWrongFalsely : Prop := modesTextsRow.holds Try.pinned (OpenSpec.ofChange modesTextsWrong)

/-- 'rollcalllaw18.ModesBack': WHATEVER THE INPUT: true; the input reads as it did. -/
def modesBackSpec : ChangeSpec := { name := "modesBack", fn := fun _ => fun
  | [d] => { results := [.lit (.bool true)], args := [d] }
  | _ => none }
def modesBackRow : OpenClaim := { program := "ytbpnaclnninndaa", sum := "9051fdfa11f07e7a14892cd887729165d8cfd92865e752f49d8914536b9feb23", func := "rollcall/rollcalllaw18.ModesBack", spec := "modesBack", unfollowed := true, recurses := true, apart := false }
def ModesBackSaid : Prop := modesBackRow.holds Try.pinned (OpenSpec.ofChange modesBackSpec)

/-- ITS FALSE NEIGHBOUR: 'it returns false'. Refute it at one input. -/
def modesBackWrong : ChangeSpec := { name := "modesBack", fn := fun _ => fun
  | [d] => { results := [.lit (.bool false)], args := [d] }
  | _ => none }
def ModesBackWrongFalsely : Prop := modesBackRow.holds Try.pinned (OpenSpec.ofChange modesBackWrong)

/-- 'rollcalllaw18.ModesSeq': WHATEVER THE INPUT: true; the input reads as it did. -/
def modesSeqSpec : ChangeSpec := { name := "modesSeq", fn := fun _ => fun
  | [d] => { results := [.lit (.bool true)], args := [d] }
  | _ => none }
def modesSeqRow : OpenClaim := { program := "ytbpnaclnninndaa", sum := "9051fdfa11f07e7a14892cd887729165d8cfd92865e752f49d8914536b9feb23", func := "rollcall/rollcalllaw18.ModesSeq", spec := "modesSeq", unfollowed := true, recurses := true, apart := false }
def ModesSeqSaid : Prop := modesSeqRow.holds Try.pinned (OpenSpec.ofChange modesSeqSpec)

/-- ITS FALSE NEIGHBOUR: 'it returns false'. Refute it at one input. -/
def modesSeqWrong : ChangeSpec := { name := "modesSeq", fn := fun _ => fun
  | [d] => { results := [.lit (.bool false)], args := [d] }
  | _ => none }
def ModesSeqWrongFalsely : Prop := modesSeqRow.holds Try.pinned (OpenSpec.ofChange modesSeqWrong)

/- THE SECOND FORM. 'bulk': how many values and letters a reading holds, each counted each time it is reached (what is shared counts as often as it is met; a slice's spare places count too). A statement '..UptoSaid' is the law's where the arguments, and the package variables that the reading takes, are together of bulk at most 1048576: NARROWER than '..Said'. Prove '..Said' where nothing that the law and all that it calls make is longer than what came in: it says more and counts as full. Else prove '..UptoSaid'. A law counts once. -/
mutual
def uptoBulk {H : Type} : DataW H → Nat
  | .lit (.string bytes) => bytes.length + 1
  | .lit _ => 1
  | .nil => 1
  | .ptr d => uptoBulk d + 1
  | .slice elems spare => uptoBulkAll elems + uptoBulkAll spare + 1
  | .agg parts => uptoBulkAll parts + 1
  | .iface _ d => uptoBulk d + 1
  | .map entries => uptoBulkEntries entries + 1
  | .held _ => 1
def uptoBulkAll {H : Type} : List (DataW H) → Nat
  | [] => 0
  | d :: r => uptoBulk d + uptoBulkAll r
def uptoBulkEntries {H : Type} : List (Lit × DataW H) → Nat
  | [] => 0
  | x :: r => uptoBulkEntry x + uptoBulkEntries r
def uptoBulkEntry {H : Type} : Lit × DataW H → Nat
  | (.string bytes, d) => bytes.length + uptoBulk d + 1
  | (_, d) => uptoBulk d + 1
 end
def uptoSmall : (H : Type) → List (DataW H) → Bool := fun _ ds => decide (uptoBulkAll ds ≤ 1048576)
def OpenSpec.upto (s : _root_.Go.ChangeSpec) : _root_.Go.OpenSpec := { _root_.Go.OpenSpec.ofChange s with cond := some uptoSmall }

/-- 'rollcalllaw18.ModesParses', WHERE WHAT IT READS IS OF BULK AT MOST 1048576: true; the input reads as it did. -/
def modesParsesUptoRow : OpenClaim := { program := "ytbpnaclnninndaa", sum := "9051fdfa11f07e7a14892cd887729165d8cfd92865e752f49d8914536b9feb23", func := "rollcall/rollcalllaw18.ModesParses", spec := "modesParses", unfollowed := true, recurses := true, apart := false, narrowed := true }
def ModesParsesUptoSaid : Prop := modesParsesUptoRow.holds Try.pinned (OpenSpec.upto modesParsesSpec)

/-- 'rollcalllaw18.ModesTexts', WHERE WHAT IT READS IS OF BULK AT MOST 1048576: true; the input reads as it did. -/
def modesTextsUptoRow : OpenClaim := { program := "ytbpnaclnninndaa", sum := "9051fdfa11f07e7a14892cd887729165d8cfd92865e752f49d8914536b9feb23", func := "rollcall/rollcalllaw18.ModesTexts", spec := "modesTexts", unfollowed := true, recurses := true, apart := false, narrowed := true }
def ModesTextsUptoSaid : Prop := modesTextsUptoRow.holds Try.pinned (OpenSpec.upto modesTextsSpec)

/-- 'rollcalllaw18.ModesBack', WHERE WHAT IT READS IS OF BULK AT MOST 1048576: true; the input reads as it did. -/
def modesBackUptoRow : OpenClaim := { program := "ytbpnaclnninndaa", sum := "9051fdfa11f07e7a14892cd887729165d8cfd92865e752f49d8914536b9feb23", func := "rollcall/rollcalllaw18.ModesBack", spec := "modesBack", unfollowed := true, recurses := true, apart := false, narrowed := true }
def ModesBackUptoSaid : Prop := modesBackUptoRow.holds Try.pinned (OpenSpec.upto modesBackSpec)

/-- 'rollcalllaw18.ModesSeq', WHERE WHAT IT READS IS OF BULK AT MOST 1048576: true; the input reads as it did. -/
def modesSeqUptoRow : OpenClaim := { program := "ytbpnaclnninndaa", sum := "9051fdfa11f07e7a14892cd887729165d8cfd92865e752f49d8914536b9feb23", func := "rollcall/rollcalllaw18.ModesSeq", spec := "modesSeq", unfollowed := true, recurses := true, apart := false, narrowed := true }
def ModesSeqUptoSaid : Prop := modesSeqUptoRow.holds Try.pinned (OpenSpec.upto modesSeqSpec)

end Rows
end Go.Proofs.Ytbpnaclnninndaa
