/- fold.Runs: the walk of its function that ranges. -/
import Derived.Test.YtadbpgkhenbpfaaFoldE
import Derived.Outline
namespace Go.Proofs.Ytadbpgkhenbpfaa
open Go.RowKit Go.Shelf
attribute [local go_sem] Oper.semAt_some



end Go.Proofs.Ytadbpgkhenbpfaa
