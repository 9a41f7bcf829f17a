/- fold.Runs: the walk of its function that ranges. -/
import Derived.Test.YtefdjpfmhhnbkaaDoorFoldE
import Derived.Outline
namespace Go.Proofs.YtefdjpfmhhnbkaaDoor
open Go.RowKit Go.Shelf
attribute [local go_sem] Oper.semAt_some



end Go.Proofs.YtefdjpfmhhnbkaaDoor
