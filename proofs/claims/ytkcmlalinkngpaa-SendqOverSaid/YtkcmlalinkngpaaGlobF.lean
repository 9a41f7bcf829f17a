/- The document's Complete of layer 4. -/
import Derived.Test.YtkcmlalinkngpaaGlobE
namespace Go.Proofs.Ytkcmlalinkngpaa
open Go.RowKit

















end Go.Proofs.Ytkcmlalinkngpaa
