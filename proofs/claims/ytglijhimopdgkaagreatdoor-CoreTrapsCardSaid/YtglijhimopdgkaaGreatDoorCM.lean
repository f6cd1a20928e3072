/- The core: CoreHeld. -/
import Derived.Test.YtglijhimopdgkaaGreatDoorCL
namespace Go.Proofs.YtglijhimopdgkaaGreatDoor
open Go.RowKit
set_option maxRecDepth 100000
set_option maxHeartbeats 20000000
theorem wrt0 : wrtB in0 = false := by decide
theorem inc_trap (s : CoS) (ca va : BitVec 32) : incO (trapO s ca va) = ⟨⟨s.x, (trapO s ca va).s.pc, upW (trapO s ca va).s.c 8 ((trapO s ca va).s.c 8 + BitVec.ofInt 32 1)⟩, true, ca, in0, 0, 0, fun _ => 0⟩ := by
  have hw : wroteC (trapO s ca va) = false := by
    unfold wroteC
    show (wrtB in0 && _) = false
    rw [wrt0]; rfl
  unfold incO
  rw [hw]
  rfl
theorem lay_hi (l : Nat) (p : Nat → BitVec 8) (j : Nat) : layF (l1k l) p (4096 + j) = 0 := by
  have h : l1k l ≤ 1024 := Nat.min_le_right _ _
  unfold layF
  rw [if_neg (by omega)]
structure HeS where
  i : Nat
  s : CoS
attribute [local irreducible] stepO stepM layF stX
end Go.Proofs.YtglijhimopdgkaaGreatDoor
