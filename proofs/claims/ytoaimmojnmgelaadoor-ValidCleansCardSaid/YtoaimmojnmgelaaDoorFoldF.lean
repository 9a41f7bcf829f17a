/- fold.Runs: the walk of its function that ranges. -/
import Derived.Test.YtoaimmojnmgelaaDoorFoldE
import Derived.Outline
namespace Go.Proofs.YtoaimmojnmgelaaDoor
open Go.RowKit Go.Shelf
attribute [local go_sem] Oper.semAt_some



end Go.Proofs.YtoaimmojnmgelaaDoor
