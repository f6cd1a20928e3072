/- Key slots: the reference's acts. -/
import Derived.Test.YtifmnjpjddefpaaDoorZ3
namespace Go.Proofs.YtifmnjpjddefpaaDoor
open Go.RowKit
set_option maxRecDepth 100000
set_option maxHeartbeats 20000000
attribute [local irreducible] hsh rst sha256 press dig valN cat
theorem rwN_le (s : Sl) (l : List Int) : ∀ k, rwN s l k ≤ k
  | 0 => Nat.le_refl _
  | k + 1 => by
    have := rwN_le s l k
    show rwN s l k + (if kdF (rwS s l k) (nth 0 l k) = 0 then 0 else 1) ≤ k + 1
    split <;> omega
end Go.Proofs.YtifmnjpjddefpaaDoor
