/- fold.Runs: the walk of its function that ranges. -/
import Derived.Test.YtmoioihclnpcbaaDoorFoldE
import Derived.Outline
namespace Go.Proofs.YtmoioihclnpcbaaDoor
open Go.RowKit Go.Shelf
attribute [local go_sem] Oper.semAt_some



end Go.Proofs.YtmoioihclnpcbaaDoor
