/- The keyed hash: derived keys; equality; the reference's. -/
import Derived.Test.YtjhcehfliacjeaaDoorP12
namespace Go.Proofs.YtjhcehfliacjeaaDoor
open Go.RowKit
set_option maxRecDepth 100000
set_option maxHeartbeats 20000000
end Go.Proofs.YtjhcehfliacjeaaDoor
