/- Tokens: bodies, forth and back. -/
import Derived.Test.YtnfebaialdfffaaDoorKB
namespace Go.Proofs.YtnfebaialdfffaaDoor
open Go.RowKit
set_option maxRecDepth 100000
set_option maxHeartbeats 20000000
attribute [local irreducible] hsh rst sha256 press dig
def C_tok_put : SpecM := fun A K => ∃ n o l f v, A [.gsub 5 0 n o l, .u32 v] [(0, .grow 5 n (bys f))] ∧ o + l ≤ n ∧ n ≤ 1000000000 ∧ 4 ≤ l ∧ K (.tup 0 fun _ => .junk) [(0, .grow 5 n (bys (put4 f o v)))]
/-! ### Bodies read -/
def tkM (b : Nat → BitVec 8) : Prop := lw 4 b = [84, 79, 75, 78]
instance (b : Nat → BitVec 8) : Decidable (tkM b) := inferInstanceAs (Decidable (lw 4 b = [84, 79, 75, 78]))
section
attribute [local irreducible] at8 be tkM lw
end
section
end
end Go.Proofs.YtnfebaialdfffaaDoor
