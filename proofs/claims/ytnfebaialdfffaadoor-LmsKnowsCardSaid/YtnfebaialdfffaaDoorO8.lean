/- One-time signatures: the example. -/
import Derived.Test.YtnfebaialdfffaaDoorO6
import Derived.Test.YtnfebaialdfffaaDoorF2
namespace Go.Proofs.YtnfebaialdfffaaDoor
open Go.RowKit
set_option maxRecDepth 100000
set_option maxHeartbeats 20000000
attribute [local irreducible] hsh rst sha256 press dig st1 at8 mash fold digs ch tw tp tlS cf ckN dgT pubE upTo sgV sigB mashD clE mixA clK pubK
theorem nb {b : Bool} (h : (!b) = false) : b = true := by cases b; cases h; rfl
end Go.Proofs.YtnfebaialdfffaaDoor
