/- Digits; the first law's example. -/
import Derived.Test.YtldlleoabbcpdaaDoorP7
namespace Go.Proofs.YtldlleoabbcpdaaDoor
open Go.RowKit
set_option maxRecDepth 100000
set_option maxHeartbeats 20000000
def hxs : List UInt8 := [48, 49, 50, 51, 52, 53, 54, 55, 56, 57, 97, 98, 99, 100, 101, 102]
def C_sha_Sum_a : SpecP := fun A K => ∃ l0 b0, A [prt [(l0, b0)]] ∧ l0 ≤ 1000000000 ∧ K (arr8 32 (at8 (sha256 (lw l0 b0))))
theorem g_sha_Sum_a : Gd 28 (pureP ty C_sha_Sum_a) := good_imp g_sha_Sum fun args m key K ⟨l0, b0, hA, h0, hK⟩ =>
  ⟨[(l0, b0)], hA, fun i => (by rcases i with _ | i <;> first | exact h0 | exact Nat.zero_le _), (show 1 ≤ 1000000 by omega), (by
    have e : cat [(l0, b0)] = lw l0 b0 := by simp [cat]
    rw [e]; exact hK)⟩
attribute [local irreducible] hsh rst sha256 press dig
end Go.Proofs.YtldlleoabbcpdaaDoor
