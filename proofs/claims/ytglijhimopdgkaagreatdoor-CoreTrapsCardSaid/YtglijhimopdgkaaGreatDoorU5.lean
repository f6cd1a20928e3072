/- Fuses: the other laws. -/
import Derived.Test.YtglijhimopdgkaaGreatDoorU2
import Derived.Test.YtglijhimopdgkaaGreatDoorGH
namespace Go.Proofs.YtglijhimopdgkaaGreatDoor
open Go.RowKit
set_option maxRecDepth 100000
set_option maxHeartbeats 20000000
theorem len_of {c : Cx} {fr : Bool} {et : Ty} {l : Nat} {f : Nat → AV} {v : Value} (h : RV c (.imm fr et l f) v) : l ≤ maxLen := by
  obtain ⟨A, q, _, h1, h2, _⟩ := rv_imm h
  omega
end Go.Proofs.YtglijhimopdgkaaGreatDoor
