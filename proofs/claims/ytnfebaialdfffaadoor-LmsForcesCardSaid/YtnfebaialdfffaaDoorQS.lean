/- lms: the reference's climb. -/
import Derived.Test.YtnfebaialdfffaaDoorQ5
namespace Go.Proofs.YtnfebaialdfffaaDoor
open Go.RowKit
set_option maxRecDepth 100000
set_option maxHeartbeats 20000000
attribute [local irreducible] hsh rst sha256 press dig valN mash fold digs ch tw tp tlS cf ckN dgT pubE upTo sgV sigB mashD clE mixA clK pubK st1 at8 hgN w4
abbrev T16 : Ty := ty 32
def C_r6_Climb : SpecP := fun A K => ∃ id q d n p, A [arr8 16 id, .u32 q, arr8 32 d, dgs n p] ∧ n ≤ 25 ∧ K (arr8 32 (at8 (clb id (q + 1#32 <<< n) (lw 32 d) p n)))
def L_r6_Climb (id : Nat → BitVec 8) (r : BitVec 32) (d : Nat → BitVec 8) (n : Nat) (p : Nat → Nat → BitVec 8) : LI := ⟨Nat, (· ≤ n), fun k => [(4, .ptr T16 8 []), (6, .ptr TD 16 []), (8, .ptr TD 24 []), (9, .u32 (rr r k)), (17, dgs n p), (18, .nat n), (19, .nat k)],
  fun k => [(8, .var T16 (arr8 16 id)), (16, .var TD (arr8 32 (at8 (clb id r (lw 32 d) p k)))), (24, .var TD TD.zero)], fun k => n - k, some, some⟩
end Go.Proofs.YtnfebaialdfffaaDoor
