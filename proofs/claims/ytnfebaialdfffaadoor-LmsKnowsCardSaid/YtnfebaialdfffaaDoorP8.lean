/- Digits; the first law's example. -/
import Derived.Test.YtnfebaialdfffaaDoorP7
namespace Go.Proofs.YtnfebaialdfffaaDoor
open Go.RowKit
set_option maxRecDepth 100000
set_option maxHeartbeats 20000000
def hxs : List UInt8 := [48, 49, 50, 51, 52, 53, 54, 55, 56, 57, 97, 98, 99, 100, 101, 102]
/-! ### The sum of one part, of two, of three -/
def C_sha_Sum_b : SpecP := fun A K => ∃ l0 b0 l1 b1, A [prt [(l0, b0), (l1, b1)]] ∧ l0 ≤ 1000000000 ∧ l1 ≤ 1000000000 ∧ K (arr8 32 (at8 (sha256 (lw l0 b0 ++ lw l1 b1))))
def C_sha_Sum_c : SpecP := fun A K => ∃ l0 b0 l1 b1 l2 b2, A [prt [(l0, b0), (l1, b1), (l2, b2)]] ∧ l0 ≤ 1000000000 ∧ l1 ≤ 1000000000 ∧ l2 ≤ 1000000000 ∧ K (arr8 32 (at8 (sha256 (lw l0 b0 ++ lw l1 b1 ++ lw l2 b2))))
theorem g_sha_Sum_b : Gd 48 (pureP ty C_sha_Sum_b) := good_imp g_sha_Sum fun args m key K ⟨l0, b0, l1, b1, hA, h0, h1, hK⟩ =>
  ⟨[(l0, b0), (l1, b1)], hA, fun i => (by rcases i with _ | _ | i <;> first | exact h0 | exact h1 | exact Nat.zero_le _), (show 2 ≤ 1000000 by omega), (by
    have e : cat [(l0, b0), (l1, b1)] = lw l0 b0 ++ lw l1 b1 := by simp [cat]
    rw [e]; exact hK)⟩
theorem g_sha_Sum_c : Gd 48 (pureP ty C_sha_Sum_c) := good_imp g_sha_Sum fun args m key K ⟨l0, b0, l1, b1, l2, b2, hA, h0, h1, h2, hK⟩ =>
  ⟨[(l0, b0), (l1, b1), (l2, b2)], hA, fun i => (by rcases i with _ | _ | _ | i <;> first | exact h0 | exact h1 | exact h2 | exact Nat.zero_le _), (by show 3 ≤ 1000000; omega), (by
    have e : cat [(l0, b0), (l1, b1), (l2, b2)] = lw l0 b0 ++ lw l1 b1 ++ lw l2 b2 := by simp [cat]
    rw [e]; exact hK)⟩
attribute [local irreducible] hsh rst sha256 press dig
end Go.Proofs.YtnfebaialdfffaaDoor
