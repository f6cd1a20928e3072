/- The keyed hash: derived keys; equality; the reference's. -/
import Derived.Test.YtpifhcakmoladaaDoorP12
namespace Go.Proofs.YtpifhcakmoladaaDoor
open Go.RowKit
set_option maxRecDepth 100000
set_option maxHeartbeats 20000000
end Go.Proofs.YtpifhcakmoladaaDoor
