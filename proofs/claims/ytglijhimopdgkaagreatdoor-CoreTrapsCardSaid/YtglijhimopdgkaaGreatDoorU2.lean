/- Fuses: the reference's calls. -/
import Derived.Test.YtglijhimopdgkaaGreatDoorU1
namespace Go.Proofs.YtglijhimopdgkaaGreatDoor
open Go.RowKit
set_option maxRecDepth 100000
set_option maxHeartbeats 20000000
def pr (i j : Int) (k : Nat) : Int := if k = 0 then i else j
end Go.Proofs.YtglijhimopdgkaaGreatDoor
