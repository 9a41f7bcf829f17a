/- The document's Complete of layer 4. -/
import Derived.Test.YtadbpgkhenbpfaaGlobE
namespace Go.Proofs.Ytadbpgkhenbpfaa
open Go.RowKit

















end Go.Proofs.Ytadbpgkhenbpfaa
