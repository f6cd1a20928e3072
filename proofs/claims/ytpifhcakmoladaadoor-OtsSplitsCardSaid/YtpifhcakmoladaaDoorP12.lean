/- The keyed hash. -/
import Derived.Test.YtpifhcakmoladaaDoorP11
namespace Go.Proofs.YtpifhcakmoladaaDoor
open Go.RowKit
set_option maxRecDepth 100000
set_option maxHeartbeats 20000000
end Go.Proofs.YtpifhcakmoladaaDoor
