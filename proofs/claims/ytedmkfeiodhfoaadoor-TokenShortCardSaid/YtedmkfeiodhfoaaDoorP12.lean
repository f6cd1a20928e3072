/- The keyed hash. -/
import Derived.Test.YtedmkfeiodhfoaaDoorP11
namespace Go.Proofs.YtedmkfeiodhfoaaDoor
open Go.RowKit
set_option maxRecDepth 100000
set_option maxHeartbeats 20000000
end Go.Proofs.YtedmkfeiodhfoaaDoor
