/- The keyed hash. -/
import Derived.Test.YtjhcehfliacjeaaDoorP11
namespace Go.Proofs.YtjhcehfliacjeaaDoor
open Go.RowKit
set_option maxRecDepth 100000
set_option maxHeartbeats 20000000
end Go.Proofs.YtjhcehfliacjeaaDoor
