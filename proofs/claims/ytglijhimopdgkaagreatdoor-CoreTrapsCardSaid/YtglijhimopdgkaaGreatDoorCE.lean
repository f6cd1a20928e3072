/- The core: what its instructions reckon (printed by genco2.py). -/
import Derived.Test.YtglijhimopdgkaaGreatDoorCD
namespace Go.Proofs.YtglijhimopdgkaaGreatDoor
open Go.RowKit
set_option maxRecDepth 100000
set_option maxHeartbeats 20000000
attribute [local irreducible] quoV remV hiP
def aluG (o : BitVec 8) (a b : BitVec 32) : BitVec 32 :=
  if o = BitVec.ofInt 8 19 ∨ o = BitVec.ofInt 8 28 then a + b else
  if o = BitVec.ofInt 8 29 then a - b else
  if o = BitVec.ofInt 8 20 ∨ o = BitVec.ofInt 8 31 then if a.toInt < b.toInt then BitVec.ofInt 32 1 else BitVec.ofInt 32 0 else
  if o = BitVec.ofInt 8 21 ∨ o = BitVec.ofInt 8 32 then if a < b then BitVec.ofInt 32 1 else BitVec.ofInt 32 0 else
  if o = BitVec.ofInt 8 22 ∨ o = BitVec.ofInt 8 33 then a ^^^ b else
  if o = BitVec.ofInt 8 23 ∨ o = BitVec.ofInt 8 36 then a ||| b else
  if o = BitVec.ofInt 8 24 ∨ o = BitVec.ofInt 8 37 then a &&& b else
  if o = BitVec.ofInt 8 25 ∨ o = BitVec.ofInt 8 30 then a <<< (b &&& BitVec.ofInt 32 31).toNat else
  if o = BitVec.ofInt 8 26 ∨ o = BitVec.ofInt 8 34 then a >>> (b &&& BitVec.ofInt 32 31).toNat else
  if o = BitVec.ofInt 8 27 ∨ o = BitVec.ofInt 8 35 then a.sshiftRight (b &&& BitVec.ofInt 32 31).toNat else
  if o = BitVec.ofInt 8 49 then a * b else
  if o = BitVec.ofInt 8 50 then hiP a.toInt b.toInt else
  if o = BitVec.ofInt 8 51 then hiP a.toInt (b.toNat : Int) else
  if o = BitVec.ofInt 8 52 then ((a.setWidth 64 * b.setWidth 64) >>> 32).setWidth 32 else
  if o = BitVec.ofInt 8 53 then quoV (BitVec.ofInt 8 53) a b else
  if o = BitVec.ofInt 8 54 then quoV (BitVec.ofInt 8 54) a b else
  if o = BitVec.ofInt 8 55 then remV (BitVec.ofInt 8 55) a b else
  if o = BitVec.ofInt 8 56 then remV (BitVec.ofInt 8 56) a b else
  0
theorem alu_am : (b : BitVec 32) → (b &&& BitVec.ofInt 32 31).toNat < 32 := fun b => by
  rw [BitVec.toNat_and]
  exact Nat.lt_of_le_of_lt Nat.and_le_right (by decide)
def C_rv_AluG : SpecP := fun A K => ∃ o a b, A [.u8 o, .u32 a, .u32 b] ∧ K (tupOf [.u32 (aluG o a b), .bo (decide (o = BitVec.ofInt 8 19 ∨ o = BitVec.ofInt 8 28 ∨ o = BitVec.ofInt 8 29 ∨ o = BitVec.ofInt 8 20 ∨ o = BitVec.ofInt 8 31 ∨ o = BitVec.ofInt 8 21 ∨ o = BitVec.ofInt 8 32 ∨ o = BitVec.ofInt 8 22 ∨ o = BitVec.ofInt 8 33 ∨ o = BitVec.ofInt 8 23 ∨ o = BitVec.ofInt 8 36 ∨ o = BitVec.ofInt 8 24 ∨ o = BitVec.ofInt 8 37 ∨ o = BitVec.ofInt 8 25 ∨ o = BitVec.ofInt 8 30 ∨ o = BitVec.ofInt 8 26 ∨ o = BitVec.ofInt 8 34 ∨ o = BitVec.ofInt 8 27 ∨ o = BitVec.ofInt 8 35 ∨ o = BitVec.ofInt 8 49 ∨ o = BitVec.ofInt 8 50 ∨ o = BitVec.ofInt 8 51 ∨ o = BitVec.ofInt 8 52 ∨ o = BitVec.ofInt 8 53 ∨ o = BitVec.ofInt 8 54 ∨ o = BitVec.ofInt 8 55 ∨ o = BitVec.ofInt 8 56))])
theorem g_rv_AluG : Gd 123 (pureP ty C_rv_AluG) := by
  refine goodP (E := PG [(133, pureP ty C_rv_bit), (134, pureP ty C_rv_productG), (135, pureP ty C_rv_quotient), (136, pureP ty C_rv_remainder)]) (pgOK ⟨g_rv_bit, g_rv_productG, g_rv_quotient, g_rv_remainder, trivial⟩) mixes Tryz.func123 (by kernel_rfl) (by kernel_rfl) ?_
  rintro A K ⟨o, a, b, hA, hK⟩
  refine ⟨_, _, fun _ => none, hA, hK, by kernel_rfl, own_res trivial trivial, ?_⟩
  have h32 := alu_am b
  rcases Decidable.em (o = BitVec.ofInt 8 19) with rfl | h19
  rotate_left
  rcases Decidable.em (o = BitVec.ofInt 8 28) with rfl | h28
  rotate_left
  rcases Decidable.em (o = BitVec.ofInt 8 29) with rfl | h29
  rotate_left
  rcases Decidable.em (o = BitVec.ofInt 8 22) with rfl | h22
  rotate_left
  rcases Decidable.em (o = BitVec.ofInt 8 33) with rfl | h33
  rotate_left
  rcases Decidable.em (o = BitVec.ofInt 8 23) with rfl | h23
  rotate_left
  rcases Decidable.em (o = BitVec.ofInt 8 36) with rfl | h36
  rotate_left
  rcases Decidable.em (o = BitVec.ofInt 8 24) with rfl | h24
  rotate_left
  rcases Decidable.em (o = BitVec.ofInt 8 37) with rfl | h37
  rotate_left
  rcases Decidable.em (o = BitVec.ofInt 8 25) with rfl | h25
  rotate_left
  rcases Decidable.em (o = BitVec.ofInt 8 30) with rfl | h30
  rotate_left
  rcases Decidable.em (o = BitVec.ofInt 8 26) with rfl | h26
  rotate_left
  rcases Decidable.em (o = BitVec.ofInt 8 34) with rfl | h34
  rotate_left
  rcases Decidable.em (o = BitVec.ofInt 8 27) with rfl | h27
  rotate_left
  rcases Decidable.em (o = BitVec.ofInt 8 35) with rfl | h35
  rotate_left
  rcases Decidable.em (o = BitVec.ofInt 8 20) with rfl | h20
  rotate_left
  rcases Decidable.em (o = BitVec.ofInt 8 31) with rfl | h31
  rotate_left
  rcases Decidable.em (o = BitVec.ofInt 8 21) with rfl | h21
  rotate_left
  rcases Decidable.em (o = BitVec.ofInt 8 32) with rfl | h32
  rotate_left
  rcases Decidable.em (o = BitVec.ofInt 8 49) with rfl | h49
  rotate_left
  rcases Decidable.em (o = BitVec.ofInt 8 50) with rfl | h50
  rotate_left
  rcases Decidable.em (o = BitVec.ofInt 8 51) with rfl | h51
  rotate_left
  rcases Decidable.em (o = BitVec.ofInt 8 52) with rfl | h52
  rotate_left
  rcases Decidable.em (o = BitVec.ofInt 8 53) with rfl | h53
  rotate_left
  rcases Decidable.em (o = BitVec.ofInt 8 54) with rfl | h54
  rotate_left
  rcases Decidable.em (o = BitVec.ofInt 8 55) with rfl | h55
  rotate_left
  rcases Decidable.em (o = BitVec.ofInt 8 56) with rfl | h56
  rotate_left
  · skip
    repeat ((conv => whnf); first | refine sdO ?_ | refine nlO ?_ | refine goA ?_ | refine goB ?_ | (apply Exists.intro; (repeat apply Exists.intro); refine caO ?_) | (refine Or.inl ?_; (conv => whnf); (repeat apply Exists.intro); refine caO ?_) | (refine Or.inr ?_; (conv => whnf); first | ((repeat apply Exists.intro); refine caO ?_) | (refine Or.inl ?_; (conv => whnf); (repeat apply Exists.intro); refine caO ?_) | (refine Or.inr ?_; (conv => whnf); (repeat apply Exists.intro); refine caO ?_)) | refine And.intro (by assumption) ?_ | refine goT ?_ | refine goF ?_ | refine goL ?_ | refine goR ?_ | refine goRL ?_ | refine goRR ?_)
    all_goals try (conv => whnf)
    ((repeat' ((conv => whnf) <;> first | exact trivial | (with_reducible first | refine And.intro ?_ ?_ | refine qL1 ?_ | refine qL2 ?_ ?_ | refine qL3 ?_ ?_ ?_ | refine qL4 ?_ ?_ ?_ ?_ | refine qL5 ?_ ?_ ?_ ?_ ?_ | refine yL1 ?_ | refine yL2 ?_ ?_ | refine yL3 ?_ ?_ ?_ | refine qL7 ?_ ?_ ?_ ?_ ?_ ?_ ?_ | refine zL1 ?_ | refine zL2 ?_ ?_ | refine zL3 ?_ ?_ ?_ | refine fun (_ : Nat) => ?_) | refine fun (_ : (_ : Nat) < _) => ?_ | exact rfl | exact Nat.le_of_ble_eq_true rfl | (change (_ : Nat) ≤ _; omega) | (change (_ : Nat) = _; omega) | (change (_ : Int) = _; omega))); (all_goals try (conv => whnf)))
    · unfold aluG
      simp only [h19, h28, h29, h20, h31, h21, h32, h22, h33, h23, h36, h24, h37, h25, h30, h26, h34, h27, h35, h49, h50, h51, h52, h53, h54, h55, h56, or_self, if_false]
      rfl
    · exact (decide_eq_false (by simp only [h19, h28, h29, h20, h31, h21, h32, h22, h33, h23, h36, h24, h37, h25, h30, h26, h34, h27, h35, h49, h50, h51, h52, h53, h54, h55, h56, or_self, not_false_eq_true])).symm
  all_goals
    have hp49 : BitVec.ofInt 8 49 = BitVec.ofInt 8 49 ∨ BitVec.ofInt 8 49 = BitVec.ofInt 8 50 ∨ BitVec.ofInt 8 49 = BitVec.ofInt 8 51 ∨ BitVec.ofInt 8 49 = BitVec.ofInt 8 52 := .inl rfl
    have hp50 : BitVec.ofInt 8 50 = BitVec.ofInt 8 49 ∨ BitVec.ofInt 8 50 = BitVec.ofInt 8 50 ∨ BitVec.ofInt 8 50 = BitVec.ofInt 8 51 ∨ BitVec.ofInt 8 50 = BitVec.ofInt 8 52 := .inr (.inl rfl)
    have hp51 : BitVec.ofInt 8 51 = BitVec.ofInt 8 49 ∨ BitVec.ofInt 8 51 = BitVec.ofInt 8 50 ∨ BitVec.ofInt 8 51 = BitVec.ofInt 8 51 ∨ BitVec.ofInt 8 51 = BitVec.ofInt 8 52 := .inr (.inr (.inl rfl))
    have hp52 : BitVec.ofInt 8 52 = BitVec.ofInt 8 49 ∨ BitVec.ofInt 8 52 = BitVec.ofInt 8 50 ∨ BitVec.ofInt 8 52 = BitVec.ofInt 8 51 ∨ BitVec.ofInt 8 52 = BitVec.ofInt 8 52 := .inr (.inr (.inr rfl))
    have hp53 : BitVec.ofInt 8 53 = BitVec.ofInt 8 53 ∨ BitVec.ofInt 8 53 = BitVec.ofInt 8 54 := .inl rfl
    have hp54 : BitVec.ofInt 8 54 = BitVec.ofInt 8 53 ∨ BitVec.ofInt 8 54 = BitVec.ofInt 8 54 := .inr rfl
    have hp55 : BitVec.ofInt 8 55 = BitVec.ofInt 8 55 ∨ BitVec.ofInt 8 55 = BitVec.ofInt 8 56 := .inl rfl
    have hp56 : BitVec.ofInt 8 56 = BitVec.ofInt 8 55 ∨ BitVec.ofInt 8 56 = BitVec.ofInt 8 56 := .inr rfl
    repeat ((conv => whnf); first | refine sdO ?_ | refine nlO ?_ | refine goA ?_ | refine goB ?_ | (apply Exists.intro; (repeat apply Exists.intro); refine caO ?_) | (refine Or.inl ?_; (conv => whnf); (repeat apply Exists.intro); refine caO ?_) | (refine Or.inr ?_; (conv => whnf); first | ((repeat apply Exists.intro); refine caO ?_) | (refine Or.inl ?_; (conv => whnf); (repeat apply Exists.intro); refine caO ?_) | (refine Or.inr ?_; (conv => whnf); (repeat apply Exists.intro); refine caO ?_)) | refine And.intro (by assumption) ?_ | refine goT ?_ | refine goF ?_ | refine goL ?_ | refine goR ?_ | refine goRL ?_ | refine goRR ?_)
    all_goals try (conv => whnf)
    ((repeat' ((conv => whnf) <;> first | exact trivial | (with_reducible first | refine And.intro ?_ ?_ | refine qL1 ?_ | refine qL2 ?_ ?_ | refine qL3 ?_ ?_ ?_ | refine qL4 ?_ ?_ ?_ ?_ | refine qL5 ?_ ?_ ?_ ?_ ?_ | refine yL1 ?_ | refine yL2 ?_ ?_ | refine yL3 ?_ ?_ ?_ | refine qL7 ?_ ?_ ?_ ?_ ?_ ?_ ?_ | refine zL1 ?_ | refine zL2 ?_ ?_ | refine zL3 ?_ ?_ ?_ | refine fun (_ : Nat) => ?_) | refine fun (_ : (_ : Nat) < _) => ?_ | exact rfl | exact Nat.le_of_ble_eq_true rfl | (change (_ : Nat) ≤ _; omega) | (change (_ : Nat) = _; omega) | (change (_ : Int) = _; omega))); (all_goals try (conv => whnf)))
    all_goals first | rfl | ((first | rw [show aluG (BitVec.ofInt 8 20) a b = (if a.toInt < b.toInt then BitVec.ofInt 32 1 else BitVec.ofInt 32 0) from rfl] | rw [show aluG (BitVec.ofInt 8 31) a b = (if a.toInt < b.toInt then BitVec.ofInt 32 1 else BitVec.ofInt 32 0) from rfl] | rw [show aluG (BitVec.ofInt 8 21) a b = (if a < b then BitVec.ofInt 32 1 else BitVec.ofInt 32 0) from rfl] | rw [show aluG (BitVec.ofInt 8 32) a b = (if a < b then BitVec.ofInt 32 1 else BitVec.ofInt 32 0) from rfl]); simp only [BitVec.setWidth_eq, decide_eq_true_eq])
end Go.Proofs.YtglijhimopdgkaaGreatDoor
