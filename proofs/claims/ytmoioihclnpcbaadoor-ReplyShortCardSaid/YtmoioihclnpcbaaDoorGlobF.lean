/- The document's Complete of layer 4. -/
import Derived.Test.YtmoioihclnpcbaaDoorGlobE
namespace Go.Proofs.YtmoioihclnpcbaaDoor
open Go.RowKit

















end Go.Proofs.YtmoioihclnpcbaaDoor
