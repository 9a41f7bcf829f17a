/-
  No cell of these rows narrows 'for every input' (looked for: loops, veiled, ifaces, maps, wideKeys, modest, calm, conditions, laid).
  DERIVED. THE GIVEN ROWS OF THIS SEAT. 6 by the template 'for every input the law returns true; each argument reads behind the call as it read before'; 0 by the template 'total and deterministic' (their statements: YtbgmjieagnmpkaaTotals.lean).
  GIVEN WITH THE SEED: the statements are not yours to turn. If you find one false, say at which input.
  Laid BY PROGRAM, IN A SANDBOX (cutbox-rows.mjs): the forced cells as the released guide's own fill.sh prints them over the translation bbeb7cd2da713b74… (all of the seat's roots in one cut). By AI agents, Wed Nov 11 2026. No macro, syntax, notation, axiom, sorry.
-/
import Derived.Test.YtbgmjieagnmpkaaChecked
import GoSem.Claim
import GoSem.ClaimJoined
import GoSem.ClaimMapViews
import Derived.JoinedTies
import Derived.KernelRfl
namespace Go.Proofs.Ytbgmjieagnmpkaa
/- THE CELL 'sum', in the pinned program and in every row, IS THE sha256 OF THE DUMP (.gsa) THAT YtbgmjieagnmpkaaProg.lean LOADS. Nothing in Lean hashes anything: it is a label: what it is worth is what the hold of that sum in a sandbox is worth. -/
noncomputable def Try.pinned : Pinned := { name := "ytbgmjieagnmpkaa", sum := "bbeb7cd2da713b74d6f826d1d17feb2033fa75c4d9d37591afd8d5b1acba7ce7", checked := Try.checked }
namespace Rows
def none {H : Type} : Left H := { results := [], args := [] }

/-- 'rollcalllaw09.TimerPlays': WHATEVER THE INPUT: true; the input reads as it did. -/
def timerPlaysSpec : ChangeSpec := { name := "timerPlays", fn := fun _ => fun
  | [d1, d2] => { results := [.lit (.bool true)], args := [d1, d2] }
  | _ => none }
def timerPlaysRow : OpenClaim := { program := "ytbgmjieagnmpkaa", sum := "bbeb7cd2da713b74d6f826d1d17feb2033fa75c4d9d37591afd8d5b1acba7ce7", func := "rollcall/rollcalllaw09.TimerPlays", spec := "timerPlays", unfollowed := true, recurses := true, apart := false }
def TimerPlaysSaid : Prop := timerPlaysRow.holds Try.pinned (OpenSpec.ofChange timerPlaysSpec)

/-- ITS FALSE NEIGHBOUR: 'it returns false'. Refute it at one input. -/
def timerPlaysWrong : ChangeSpec := { name := "timerPlays", fn := fun _ => fun
  | [d1, d2] => { results := [.lit (.bool false)], args := [d1, d2] }
  | _ => none }
def TimerPlaysWrongFalsely : Prop := timerPlaysRow.holds Try.pinned (OpenSpec.ofChange timerPlaysWrong)

/-- 'rollcalllaw09.TimerDue': WHATEVER THE INPUT: true; the input reads as it did. -/
def timerDueSpec : ChangeSpec := { name := "timerDue", fn := fun _ => fun
  | [d1, d2] => { results := [.lit (.bool true)], args := [d1, d2] }
  | _ => none }
def timerDueRow : OpenClaim := { program := "ytbgmjieagnmpkaa", sum := "bbeb7cd2da713b74d6f826d1d17feb2033fa75c4d9d37591afd8d5b1acba7ce7", func := "rollcall/rollcalllaw09.TimerDue", spec := "timerDue", unfollowed := true, recurses := true, apart := false }
def TimerDueSaid : Prop := timerDueRow.holds Try.pinned (OpenSpec.ofChange timerDueSpec)

/-- ITS FALSE NEIGHBOUR: 'it returns false'. Refute it at one input. -/
def timerDueWrong : ChangeSpec := { name := "timerDue", fn := fun _ => fun
  | [d1, d2] => { results := [.lit (.bool false)], args := [d1, d2] }
  | _ => none }
def TimerDueWrongFalsely : Prop := timerDueRow.holds Try.pinned (OpenSpec.ofChange timerDueWrong)

/-- 'rollcalllaw09.TimerNone': WHATEVER THE INPUT: true; the input reads as it did. -/
def timerNoneSpec : ChangeSpec := { name := "timerNone", fn := fun _ => fun
  | [d1, d2] => { results := [.lit (.bool true)], args := [d1, d2] }
  | _ => none }
def timerNoneRow : OpenClaim := { program := "ytbgmjieagnmpkaa", sum := "bbeb7cd2da713b74d6f826d1d17feb2033fa75c4d9d37591afd8d5b1acba7ce7", func := "rollcall/rollcalllaw09.TimerNone", spec := "timerNone", unfollowed := true, recurses := true, apart := false }
def TimerNoneSaid : Prop := timerNoneRow.holds Try.pinned (OpenSpec.ofChange timerNoneSpec)

/-- ITS FALSE NEIGHBOUR: 'it returns false'. Refute it at one input. -/
def timerNoneWrong : ChangeSpec := { name := "timerNone", fn := fun _ => fun
  | [d1, d2] => { results := [.lit (.bool false)], args := [d1, d2] }
  | _ => none }
def TimerNoneWrongFalsely : Prop := timerNoneRow.holds Try.pinned (OpenSpec.ofChange timerNoneWrong)

/-- 'rollcalllaw16.PulsePlays': WHATEVER THE INPUT: true; the input reads as it did. -/
def pulsePlaysSpec : ChangeSpec := { name := "pulsePlays", fn := fun _ => fun
  | [d1, d2, d3, d4] => { results := [.lit (.bool true)], args := [d1, d2, d3, d4] }
  | _ => none }
def pulsePlaysRow : OpenClaim := { program := "ytbgmjieagnmpkaa", sum := "bbeb7cd2da713b74d6f826d1d17feb2033fa75c4d9d37591afd8d5b1acba7ce7", func := "rollcall/rollcalllaw16.PulsePlays", spec := "pulsePlays", unfollowed := true, recurses := true, apart := false }
def PulsePlaysSaid : Prop := pulsePlaysRow.holds Try.pinned (OpenSpec.ofChange pulsePlaysSpec)

/-- ITS FALSE NEIGHBOUR: 'it returns false'. Refute it at one input. -/
def pulsePlaysWrong : ChangeSpec := { name := "pulsePlays", fn := fun _ => fun
  | [d1, d2, d3, d4] => { results := [.lit (.bool false)], args := [d1, d2, d3, d4] }
  | _ => none }
def PulsePlaysWrongFalsely : Prop := pulsePlaysRow.holds Try.pinned (OpenSpec.ofChange pulsePlaysWrong)

/-- 'rollcalllaw16.PulseLives': WHATEVER THE INPUT: true; the input reads as it did. -/
def pulseLivesSpec : ChangeSpec := { name := "pulseLives", fn := fun _ => fun
  | [d1, d2, d3] => { results := [.lit (.bool true)], args := [d1, d2, d3] }
  | _ => none }
def pulseLivesRow : OpenClaim := { program := "ytbgmjieagnmpkaa", sum := "bbeb7cd2da713b74d6f826d1d17feb2033fa75c4d9d37591afd8d5b1acba7ce7", func := "rollcall/rollcalllaw16.PulseLives", spec := "pulseLives", unfollowed := true, recurses := true, apart := false }
def PulseLivesSaid : Prop := pulseLivesRow.holds Try.pinned (OpenSpec.ofChange pulseLivesSpec)

/-- ITS FALSE NEIGHBOUR: 'it returns false'. Refute it at one input. -/
def pulseLivesWrong : ChangeSpec := { name := "pulseLives", fn := fun _ => fun
  | [d1, d2, d3] => { results := [.lit (.bool false)], args := [d1, d2, d3] }
  | _ => none }
def PulseLivesWrongFalsely : Prop := pulseLivesRow.holds Try.pinned (OpenSpec.ofChange pulseLivesWrong)

/-- 'rollcalllaw16.PulseNone': WHATEVER THE INPUT: true; the input reads as it did. -/
def pulseNoneSpec : ChangeSpec := { name := "pulseNone", fn := fun _ => fun
  | [d1, d2] => { results := [.lit (.bool true)], args := [d1, d2] }
  | _ => none }
def pulseNoneRow : OpenClaim := { program := "ytbgmjieagnmpkaa", sum := "bbeb7cd2da713b74d6f826d1d17feb2033fa75c4d9d37591afd8d5b1acba7ce7", func := "rollcall/rollcalllaw16.PulseNone", spec := "pulseNone", unfollowed := true, recurses := true, apart := false }
def PulseNoneSaid : Prop := pulseNoneRow.holds Try.pinned (OpenSpec.ofChange pulseNoneSpec)

/-- ITS FALSE NEIGHBOUR: 'it returns false'. Refute it at one input. -/
def pulseNoneWrong : ChangeSpec := { name := "pulseNone", fn := fun _ => fun
  | [d1, d2] => { results := [.lit (.bool false)], args := [d1, d2] }
  | _ => none }
def PulseNoneWrongFalsely : Prop := pulseNoneRow.holds Try.pinned (OpenSpec.ofChange pulseNoneWrong)

/- THE SECOND FORM. 'bulk': how many values and letters a reading holds, each counted each time it is reached (what is shared counts as often as it is met; a slice's spare places count too). A statement '..UptoSaid' is the law's where the arguments, and the package variables that the reading takes, are together of bulk at most 1048576: NARROWER than '..Said'. Prove '..Said' where nothing that the law and all that it calls make is longer than what came in: it says more and counts as full. Else prove '..UptoSaid'. A law counts once. -/
mutual
def uptoBulk {H : Type} : DataW H → Nat
  | .lit (.string bytes) => bytes.length + 1
  | .lit _ => 1
  | .nil => 1
  | .ptr d => uptoBulk d + 1
  | .slice elems spare => uptoBulkAll elems + uptoBulkAll spare + 1
  | .agg parts => uptoBulkAll parts + 1
  | .iface _ d => uptoBulk d + 1
  | .map entries => uptoBulkEntries entries + 1
  | .held _ => 1
def uptoBulkAll {H : Type} : List (DataW H) → Nat
  | [] => 0
  | d :: r => uptoBulk d + uptoBulkAll r
def uptoBulkEntries {H : Type} : List (Lit × DataW H) → Nat
  | [] => 0
  | x :: r => uptoBulkEntry x + uptoBulkEntries r
def uptoBulkEntry {H : Type} : Lit × DataW H → Nat
  | (.string bytes, d) => bytes.length + uptoBulk d + 1
  | (_, d) => uptoBulk d + 1
 end
def uptoSmall : (H : Type) → List (DataW H) → Bool := fun _ ds => decide (uptoBulkAll ds ≤ 1048576)
def OpenSpec.upto (s : _root_.Go.ChangeSpec) : _root_.Go.OpenSpec := { _root_.Go.OpenSpec.ofChange s with cond := some uptoSmall }

/-- 'rollcalllaw09.TimerPlays', WHERE WHAT IT READS IS OF BULK AT MOST 1048576: true; the input reads as it did. -/
def timerPlaysUptoRow : OpenClaim := { program := "ytbgmjieagnmpkaa", sum := "bbeb7cd2da713b74d6f826d1d17feb2033fa75c4d9d37591afd8d5b1acba7ce7", func := "rollcall/rollcalllaw09.TimerPlays", spec := "timerPlays", unfollowed := true, recurses := true, apart := false, narrowed := true }
def TimerPlaysUptoSaid : Prop := timerPlaysUptoRow.holds Try.pinned (OpenSpec.upto timerPlaysSpec)

/-- 'rollcalllaw09.TimerDue', WHERE WHAT IT READS IS OF BULK AT MOST 1048576: true; the input reads as it did. -/
def timerDueUptoRow : OpenClaim := { program := "ytbgmjieagnmpkaa", sum := "bbeb7cd2da713b74d6f826d1d17feb2033fa75c4d9d37591afd8d5b1acba7ce7", func := "rollcall/rollcalllaw09.TimerDue", spec := "timerDue", unfollowed := true, recurses := true, apart := false, narrowed := true }
def TimerDueUptoSaid : Prop := timerDueUptoRow.holds Try.pinned (OpenSpec.upto timerDueSpec)

/-- 'rollcalllaw09.TimerNone', WHERE WHAT IT READS IS OF BULK AT MOST 1048576: true; the input reads as it did. -/
def timerNoneUptoRow : OpenClaim := { program := "ytbgmjieagnmpkaa", sum := "bbeb7cd2da713b74d6f826d1d17feb2033fa75c4d9d37591afd8d5b1acba7ce7", func := "rollcall/rollcalllaw09.TimerNone", spec := "timerNone", unfollowed := true, recurses := true, apart := false, narrowed := true }
def TimerNoneUptoSaid : Prop := timerNoneUptoRow.holds Try.pinned (OpenSpec.upto timerNoneSpec)

/-- 'rollcalllaw16.PulsePlays', WHERE WHAT IT READS IS OF BULK AT MOST 1048576: true; the input reads as it did. -/
def pulsePlaysUptoRow : OpenClaim := { program := "ytbgmjieagnmpkaa", sum := "bbeb7cd2da713b74d6f826d1d17feb2033fa75c4d9d37591afd8d5b1acba7ce7", func := "rollcall/rollcalllaw16.PulsePlays", spec := "pulsePlays", unfollowed := true, recurses := true, apart := false, narrowed := true }
def PulsePlaysUptoSaid : Prop := pulsePlaysUptoRow.holds Try.pinned (OpenSpec.upto pulsePlaysSpec)

/-- 'rollcalllaw16.PulseLives', WHERE WHAT IT READS IS OF BULK AT MOST 1048576: true; the input reads as it did. -/
def pulseLivesUptoRow : OpenClaim := { program := "ytbgmjieagnmpkaa", sum := "bbeb7cd2da713b74d6f826d1d17feb2033fa75c4d9d37591afd8d5b1acba7ce7", func := "rollcall/rollcalllaw16.PulseLives", spec := "pulseLives", unfollowed := true, recurses := true, apart := false, narrowed := true }
def PulseLivesUptoSaid : Prop := pulseLivesUptoRow.holds Try.pinned (OpenSpec.upto pulseLivesSpec)

/-- 'rollcalllaw16.PulseNone', WHERE WHAT IT READS IS OF BULK AT MOST 1048576: true; the input reads as it did. -/
def pulseNoneUptoRow : OpenClaim := { program := "ytbgmjieagnmpkaa", sum := "bbeb7cd2da713b74d6f826d1d17feb2033fa75c4d9d37591afd8d5b1acba7ce7", func := "rollcall/rollcalllaw16.PulseNone", spec := "pulseNone", unfollowed := true, recurses := true, apart := false, narrowed := true }
def PulseNoneUptoSaid : Prop := pulseNoneUptoRow.holds Try.pinned (OpenSpec.upto pulseNoneSpec)

end Rows
end Go.Proofs.Ytbgmjieagnmpkaa
