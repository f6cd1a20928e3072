/- The core: CoreTimer. -/
import Derived.Test.YtglijhimopdgkaaGreatDoorCR
namespace Go.Proofs.YtglijhimopdgkaaGreatDoor
open Go.RowKit
set_option maxRecDepth 100000
set_option maxHeartbeats 20000000
attribute [local irreducible] wdV opV fR fA fB fI fC isV stepO stepM layF stX cdV enK enW
abbrev wdM : BitVec 32 := wdV (BitVec.ofInt 8 41) 0 0 0 0 0
theorem bitN (x : BitVec 32) (k : Nat) (hk : k < 32) : (x / BitVec.ofNat 32 (2 ^ k) % 2#32 = 1#32) ↔ ¬ (x &&& BitVec.ofNat 32 (2 ^ k) = 0#32) := by
  have hp : 2 ^ k < 2 ^ 32 := Nat.pow_lt_pow_right (by decide) hk
  have ht : x.toNat.testBit k = decide (x.toNat / 2 ^ k % 2 = 1) := Nat.testBit_eq_decide_div_mod_eq
  rw [← BitVec.toNat_inj, ← BitVec.toNat_inj, BitVec.toNat_umod, BitVec.toNat_udiv, BitVec.toNat_and, BitVec.toNat_ofNat, Nat.mod_eq_of_lt hp]
  show x.toNat / 2 ^ k % 2 = 1 ↔ ¬ (x.toNat &&& 2 ^ k = 0)
  by_cases h : x.toNat / 2 ^ k % 2 = 1
  · refine ⟨fun _ q => ?_, fun _ => h⟩
    have q2 := congrArg (fun z => Nat.testBit z k) q
    replace q2 : (x.toNat &&& 2 ^ k).testBit k = (0 : Nat).testBit k := q2
    rw [Nat.testBit_and, Nat.testBit_two_pow, Nat.zero_testBit, ht, decide_eq_true h, decide_eq_true rfl] at q2
    exact absurd q2 (by decide)
  · refine ⟨fun q => absurd q h, fun q => absurd (Nat.eq_of_testBit_eq fun j => ?_) q⟩
    rw [Nat.testBit_and, Nat.testBit_two_pow, Nat.zero_testBit]
    by_cases e : k = j
    · rw [← e, ht, decide_eq_false h]; rfl
    · rw [decide_eq_false e, Bool.and_false]
theorem bit3 (x : BitVec 32) : (x / BitVec.ofInt 32 8 % BitVec.ofInt 32 2 = BitVec.ofInt 32 1) ↔ ¬ (x &&& BitVec.ofInt 32 8 = BitVec.ofInt 32 0) := bitN x 3 (by decide)
end Go.Proofs.YtglijhimopdgkaaGreatDoor
