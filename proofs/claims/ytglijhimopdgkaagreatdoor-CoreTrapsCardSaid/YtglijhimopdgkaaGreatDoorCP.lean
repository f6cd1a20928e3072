/- The core: what is fetched of a word's own bytes; interrupts, MRET: mathematics for CoreTimer, CoreTraps, CoreAdds. -/
import Derived.Test.YtglijhimopdgkaaGreatDoorCL
namespace Go.Proofs.YtglijhimopdgkaaGreatDoor
open Go.RowKit
set_option maxRecDepth 100000
set_option maxHeartbeats 20000000
def lvL (b : Nat → BitVec 8) : Nat → Nat
  | 0 => 0
  | k + 1 => lvL b k + (b k).toNat * 2 ^ (8 * k)
theorem lvL_lt (b : Nat → BitVec 8) : ∀ k, lvL b k < 2 ^ (8 * k)
  | 0 => Nat.one_pos
  | k + 1 => by
    have h := lvL_lt b k
    have hb := (b k).isLt
    have e : 2 ^ (8 * (k + 1)) = 256 * 2 ^ (8 * k) := by rw [Nat.mul_add, Nat.pow_add]; exact Nat.mul_comm _ _
    rw [e]
    unfold lvL
    have := Nat.mul_le_mul_right (2 ^ (8 * k)) (show (b k).toNat ≤ 255 by omega)
    omega
theorem nuL_nat (b : Nat → BitVec 8) : ∀ k, k ≤ 4 → (nuL b k).toNat = lvL b k
  | 0, _ => rfl
  | k + 1, h => by
    have ih := nuL_nat b k (by omega)
    have hl := lvL_lt b k
    have hb := (b k).isLt
    have hp : 2 ^ (8 * k) ≤ 2 ^ 24 := Nat.pow_le_pow_right (by decide) (by omega)
    have e32 : (2:Nat) ^ 32 = 2 ^ 8 * 2 ^ 24 := by decide
    have hm : (b k).toNat * 2 ^ (8 * k) < 2 ^ 32 := by
      rw [e32]
      exact Nat.lt_of_lt_of_le (Nat.mul_lt_mul_of_pos_right hb (Nat.two_pow_pos _)) (Nat.mul_le_mul_left _ hp)
    unfold nuL lvL
    rw [BitVec.toNat_or, ih, BitVec.toNat_shiftLeft, BitVec.toNat_setWidth, Nat.mod_eq_of_lt (show (b k).toNat < 2 ^ 32 by omega), Nat.shiftLeft_eq, Nat.mod_eq_of_lt hm, Nat.or_comm, ← Nat.shiftLeft_eq, ← Nat.shiftLeft_add_eq_or_of_lt hl, Nat.shiftLeft_eq, Nat.add_comm]
theorem ft_nu (b : Nat → BitVec 8) : ftW b = nuL b 4 := by
  show _ = (((0#32 ||| (b 0).setWidth 32 <<< (8 * 0)) ||| (b 1).setWidth 32 <<< (8 * 1)) ||| (b 2).setWidth 32 <<< (8 * 2)) ||| (b 3).setWidth 32 <<< (8 * 3)
  rw [BitVec.zero_or, show (b 0).setWidth 32 <<< (8 * 0) = (b 0).setWidth 32 from BitVec.shiftLeft_zero _]
  rfl
theorem ft_by (w : BitVec 32) (b : Nat → BitVec 8) (h : ∀ j, j < 4 → b j = (w >>> (8 * j)).setWidth 8) : ftW b = w := by
  rw [ft_nu]
  apply BitVec.eq_of_toNat_eq
  rw [nuL_nat _ 4 (Nat.le_refl 4)]
  have hw := w.isLt
  simp only [lvL, h 0 (by decide), h 1 (by decide), h 2 (by decide), h 3 (by decide), BitVec.toNat_setWidth, BitVec.toNat_ushiftRight, Nat.shiftRight_eq_div_pow]
  omega
theorem int_f (s : CoS) : ¬ intB (tmS s false) := fun q => by
  have e7 : (tmS s false).c 7 = 0#32 := rfl
  have h := q.1
  rw [e7, BitVec.zero_and, BitVec.zero_and] at h
  exact h rfl
theorem ex_mret {st : Nat} {me : MeS} {m : Nat → BitVec 8} {w : Nat → BitVec 32} {s : CoS} {i : InS} {wd : BitVec 32} (h : i.o = BitVec.ofInt 8 41) :
    exO st me m w s i wd = okO (backS s) i ∧ exM st me s i = me ∧ wrtB i = false := by
  refine ⟨?_, ?_, ?_⟩
  · unfold exO
    rw [if_neg (by rw [h]; decide), if_neg (by rw [h]; decide), if_neg (by rw [h]; decide), if_neg (by rw [h]; decide), if_neg (by rw [h]; decide), if_neg (by rw [h]; decide), if_neg (by rw [h]; decide), if_neg (by rw [h]; decide), if_neg (by rw [h]; decide), if_neg (by rw [h]; decide), if_pos h]
  · unfold exM
    rw [if_neg (by rw [h]; decide)]
  · unfold wrtB
    rw [if_neg (by rw [h]; decide), if_neg (by rw [h]; decide), if_neg (by rw [h]; decide)]
theorem trap_is (s : CoS) (ca va : BitVec 32) : (trapS s ca va).x = s.x ∧ (trapS s ca va).pc = s.c 2 ∧ (trapS s ca va).c 4 = s.pc &&& BitVec.ofInt 32 4294967292 ∧ (trapS s ca va).c 5 = ca &&& BitVec.ofInt 32 4294967295 ∧ (trapS s ca va).c 1 = s.c 1 ∧ (trapS s ca va).c 2 = s.c 2 ∧ (trapS s ca va).c 8 = s.c 8 :=
  ⟨rfl, rfl, rfl, rfl, rfl, rfl, rfl⟩
theorem trap_0 (s : CoS) (ca va : BitVec 32) : (trapS s ca va).c 0 = if s.c 0 &&& BitVec.ofInt 32 8 = BitVec.ofInt 32 0 then BitVec.ofInt 32 0 else BitVec.ofInt 32 128 := by
  have e : trapC s ca va 0 = s.c 0 := rfl
  show (if trapC s ca va 0 &&& BitVec.ofInt 32 8 = BitVec.ofInt 32 0 then BitVec.ofInt 32 0 else BitVec.ofInt 32 128) &&& btV 0 = _
  rw [e]
  split
  · decide
  · decide
end Go.Proofs.YtglijhimopdgkaaGreatDoor
