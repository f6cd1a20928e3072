/- The core: CoreHeld. -/
import Derived.Test.YtglijhimopdgkaaGreatDoorCL
namespace Go.Proofs.YtglijhimopdgkaaGreatDoor
open Go.RowKit
set_option maxRecDepth 100000
set_option maxHeartbeats 20000000
structure HeS where
  i : Nat
  s : CoS
attribute [local irreducible] stepO stepM layF
end Go.Proofs.YtglijhimopdgkaaGreatDoor
