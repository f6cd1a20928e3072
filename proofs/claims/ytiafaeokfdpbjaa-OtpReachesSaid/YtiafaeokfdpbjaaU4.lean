/- Fuses: the laws, scripts. -/
import Derived.Test.YtiafaeokfdpbjaaU3
namespace Go.Proofs.Ytiafaeokfdpbjaa
open Go.RowKit
set_option maxRecDepth 100000
set_option maxHeartbeats 20000000
theorem or_keeps (a b : BitVec 32) : a &&& ~~~(a ||| b) = 0 := by
  apply BitVec.eq_of_getLsbD_eq
  intro i hi
  rw [BitVec.getLsbD_and, BitVec.getLsbD_not, BitVec.getLsbD_or]
  cases a.getLsbD i <;> simp
theorem andNot_self (a : BitVec 32) : a &&& ~~~a = 0 := by simp
theorem setW_keeps (w : Nat → BitVec 32) (z : Nat → Int) (k : Nat) : ∀ m, w k &&& ~~~(setW w z m k) = 0
  | 0 => andNot_self _
  | m + 1 => by
    have ih := setW_keeps w z k m
    unfold setW
    by_cases e : k = (z m / 32).toNat
    · rw [if_pos e, ← e]
      apply not_and_bit
      intro b hb hw
      have := and_not_bit ih b hw
      rw [BitVec.getLsbD_or, this, Bool.true_or]
    · rw [if_neg e]; exact ih
theorem cutW_keeps (w : Nat → BitVec 32) (i : Nat) (v g : BitVec 32) (k : Nat) : w k &&& ~~~(cutW w i v g k) = 0 := by
  unfold cutW
  by_cases e : k = i
  · rw [if_pos e, e]; exact or_keeps _ _
  · rw [if_neg e]; exact andNot_self _
end Go.Proofs.Ytiafaeokfdpbjaa
