/- The keyed hash. -/
import Derived.Test.YtfdigpmkjhjdhaaDoorP11
namespace Go.Proofs.YtfdigpmkjhjdhaaDoor
open Go.RowKit
set_option maxRecDepth 100000
set_option maxHeartbeats 20000000
end Go.Proofs.YtfdigpmkjhjdhaaDoor
