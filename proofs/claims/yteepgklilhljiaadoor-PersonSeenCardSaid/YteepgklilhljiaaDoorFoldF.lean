/- fold.Runs: the walk of its function that ranges. -/
import Derived.Test.YteepgklilhljiaaDoorFoldE
import Derived.Outline
namespace Go.Proofs.YteepgklilhljiaaDoor
open Go.RowKit Go.Shelf
attribute [local go_sem] Oper.semAt_some



end Go.Proofs.YteepgklilhljiaaDoor
