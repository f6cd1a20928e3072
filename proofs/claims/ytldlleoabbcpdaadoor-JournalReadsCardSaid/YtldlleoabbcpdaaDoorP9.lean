/- The laws of layer 1. -/
import Derived.Test.YtldlleoabbcpdaaDoorP8
namespace Go.Proofs.YtldlleoabbcpdaaDoor
open Go.RowKit
set_option maxRecDepth 100000
set_option maxHeartbeats 20000000
attribute [local irreducible] hsh rst sha256 press dig valN
theorem eqB_agg {u u' : Bool} {n : Nat} {F G : Nat → AV} (h : ∀ i, i < n → AEq (F i) (G i)) : eqB (.agg u n F) (.agg u' n G) = true := eqB_iff.2 h
theorem bad {b : Bool} {p : Prop} (h1 : b = true) (h2 : b = false) : p := by rw [h1] at h2; cases h2
end Go.Proofs.YtldlleoabbcpdaaDoor
