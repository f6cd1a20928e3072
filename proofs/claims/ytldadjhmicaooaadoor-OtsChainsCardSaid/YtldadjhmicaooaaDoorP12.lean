/- The keyed hash. -/
import Derived.Test.YtldadjhmicaooaaDoorP11
namespace Go.Proofs.YtldadjhmicaooaaDoor
open Go.RowKit
set_option maxRecDepth 100000
set_option maxHeartbeats 20000000
end Go.Proofs.YtldadjhmicaooaaDoor
