/- The keyed hash: derived keys; equality; the reference's. -/
import Derived.Test.YtedmkfeiodhfoaaDoorP12
namespace Go.Proofs.YtedmkfeiodhfoaaDoor
open Go.RowKit
set_option maxRecDepth 100000
set_option maxHeartbeats 20000000
end Go.Proofs.YtedmkfeiodhfoaaDoor
