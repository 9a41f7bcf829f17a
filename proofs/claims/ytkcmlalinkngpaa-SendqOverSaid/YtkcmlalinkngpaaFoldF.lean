/- fold.Runs: the walk of its function that ranges. -/
import Derived.Test.YtkcmlalinkngpaaFoldE
import Derived.Outline
namespace Go.Proofs.Ytkcmlalinkngpaa
open Go.RowKit Go.Shelf
attribute [local go_sem] Oper.semAt_some



end Go.Proofs.Ytkcmlalinkngpaa
