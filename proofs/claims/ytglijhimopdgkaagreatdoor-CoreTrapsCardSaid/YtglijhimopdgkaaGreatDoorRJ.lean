/- Words in a row. -/
import Derived.Test.YtglijhimopdgkaaGreatDoorRI
namespace Go.Proofs.YtglijhimopdgkaaGreatDoor
open Go.RowKit
set_option maxRecDepth 100000
set_option maxHeartbeats 20000000
abbrev inss (n : Nat) (o r x y : Nat → BitVec 8) (i : Nat → BitVec 32) (c : Nat → BitVec 16) : AV := .imm false TIns n (fun k => insA (o k) (r k) (x k) (y k) (i k) (c k))
noncomputable def enK (o r x y : Nat → BitVec 8) (i : Nat → BitVec 32) (c : Nat → BitVec 16) (k : Nat) : BitVec 32 := enW (o k) (r k) (x k) (y k) (i k) (c k)
noncomputable def cdV (o r x y : Nat → BitVec 8) (i : Nat → BitVec 32) (c : Nat → BitVec 16) (j : Nat) : BitVec 8 := (enK o r x y i c (j / 4) >>> (8 * (j % 4))).setWidth 8
theorem cdV_at (o r x y : Nat → BitVec 8) (i : Nat → BitVec 32) (c : Nat → BitVec 16) (k j : Nat) (hj : j < 4) : cdV o r x y i c (4 * k + j) = (enK o r x y i c k >>> (8 * j)).setWidth 8 := by
  unfold cdV
  rw [show (4 * k + j) / 4 = k by omega, show (4 * k + j) % 4 = j by omega]
attribute [local irreducible] enW enO cdV
def C_rv_Code : SpecP := fun A K => ∃ n o r x y i c, A [inss n o r x y i c] ∧ n ≤ 30 ∧ K (bsf (4 * n) (cdV o r x y i c))
noncomputable def L_rv_Code (n : Nat) (o r x y : Nat → BitVec 8) (i : Nat → BitVec 32) (c : Nat → BitVec 16) : LI := ⟨Nat, (· ≤ n), fun k => [(3, .gsl 5 1056 (4 * k)), (12, inss n o r x y i c), (13, .nat n), (14, .nat k)], fun k => [(1056, .grow 5 (4 * k) (bys (cdV o r x y i c)))], fun k => n - k, some, some⟩
theorem g_rv_Code : Gd 21 (pureP ty C_rv_Code) := by
  refine goodP (E := PG [(8, pureP ty C_rv_Encode)]) (pgOK ⟨g_rv_Encode, trivial⟩) mixes Tryz.func21 (by kernel_rfl) (by kernel_rfl) ?_
  rintro A K ⟨n, o, r, x, y, i, c, hA, hn, hK⟩
  refine ⟨_, _, loops [(3, L_rv_Code n o r x y i c)], hA, hK, by kernel_rfl, ⟨rfl, fun _ _ => trivial⟩, ?_⟩
  repeat ((conv => whnf); first | refine sdO ?_ | refine nlO ?_ | refine goA ?_ | refine goB ?_ | (apply Exists.intro; (repeat apply Exists.intro); refine caO ?_) | (refine Or.inl ?_; (conv => whnf); (repeat apply Exists.intro); refine caO ?_) | (refine Or.inr ?_; (conv => whnf); first | ((repeat apply Exists.intro); refine caO ?_) | (refine Or.inl ?_; (conv => whnf); (repeat apply Exists.intro); refine caO ?_) | (refine Or.inr ?_; (conv => whnf); (repeat apply Exists.intro); refine caO ?_)) | refine And.intro (by assumption) ?_ | refine goT ?_ | refine goF ?_ | refine goL ?_ | refine goR ?_ | refine goRL ?_ | refine goRR ?_)
  all_goals try (conv => whnf)
  refine Exists.intro (fun _ => True) (And.intro (Enter.mk (0 : Nat) (Nat.zero_le _) trivial ?_) (fun (k : Nat) (hk : k ≤ n) _ => ?_))
  · ((repeat' ((conv => whnf) <;> first | exact trivial | (with_reducible first | refine And.intro ?_ ?_ | refine qL1 ?_ | refine qL2 ?_ ?_ | refine qL3 ?_ ?_ ?_ | refine qL4 ?_ ?_ ?_ ?_ | refine qL5 ?_ ?_ ?_ ?_ ?_ | refine yL1 ?_ | refine yL2 ?_ ?_ | refine yL3 ?_ ?_ ?_ | refine qL7 ?_ ?_ ?_ ?_ ?_ ?_ ?_ | refine zL1 ?_ | refine zL2 ?_ ?_ | refine zL3 ?_ ?_ ?_ | refine fun (_ : Nat) => ?_) | refine fun (_ : (_ : Nat) < _) => ?_ | exact rfl | exact Nat.le_of_ble_eq_true rfl | (change (_ : Nat) ≤ _; omega) | (change (_ : Nat) = _; omega) | (change (_ : Int) = _; omega))); (all_goals try (conv => whnf)))
    rename_i z hz
    exact absurd hz (by show ¬ z < 4 * 0; omega)
  rcases Nat.lt_or_ge k n with h | h
  · skip
    repeat ((conv => whnf); first | refine sdO ?_ | refine nlO ?_ | refine goA ?_ | refine goB ?_ | (apply Exists.intro; (repeat apply Exists.intro); refine caO ?_) | (refine Or.inl ?_; (conv => whnf); (repeat apply Exists.intro); refine caO ?_) | (refine Or.inr ?_; (conv => whnf); first | ((repeat apply Exists.intro); refine caO ?_) | (refine Or.inl ?_; (conv => whnf); (repeat apply Exists.intro); refine caO ?_) | (refine Or.inr ?_; (conv => whnf); (repeat apply Exists.intro); refine caO ?_)) | refine And.intro (by assumption) ?_ | refine goT ?_ | refine goF ?_ | refine goL ?_ | refine goR ?_ | refine goRL ?_ | refine goRR ?_)
    all_goals try (conv => whnf)
    refine Again.mk (k + 1 : Nat) (show k + 1 ≤ n by omega) trivial (show n - (k + 1) < n - k by omega) ?_
    ((repeat' ((conv => whnf) <;> first | exact trivial | (with_reducible first | refine And.intro ?_ ?_ | refine qL1 ?_ | refine qL2 ?_ ?_ | refine qL3 ?_ ?_ ?_ | refine qL4 ?_ ?_ ?_ ?_ | refine qL5 ?_ ?_ ?_ ?_ ?_ | refine yL1 ?_ | refine yL2 ?_ ?_ | refine yL3 ?_ ?_ ?_ | refine qL7 ?_ ?_ ?_ ?_ ?_ ?_ ?_ | refine zL1 ?_ | refine zL2 ?_ ?_ | refine zL3 ?_ ?_ ?_ | refine fun (_ : Nat) => ?_) | refine fun (_ : (_ : Nat) < _) => ?_ | exact rfl | exact Nat.le_of_ble_eq_true rfl | (change (_ : Nat) ≤ _; omega) | (change (_ : Nat) = _; omega) | (change (_ : Int) = _; omega))); (all_goals try (conv => whnf)))
    rename_i z hz
    by_cases e : z < 4 * k
    · exact if_pos e
    · rw [if_neg e]
      obtain ⟨j, hj, rfl⟩ : ∃ j, j < 4 ∧ z = 4 * k + j := ⟨z - 4 * k, by omega, by omega⟩
      rw [cdV_at _ _ _ _ _ _ k j hj, Nat.add_sub_cancel_left]
      rcases four4 hj with rfl | rfl | rfl | rfl <;> rfl
  · obtain rfl : k = n := by omega
    repeat ((conv => whnf); first | refine sdO ?_ | refine nlO ?_ | refine goA ?_ | refine goB ?_ | (apply Exists.intro; (repeat apply Exists.intro); refine caO ?_) | (refine Or.inl ?_; (conv => whnf); (repeat apply Exists.intro); refine caO ?_) | (refine Or.inr ?_; (conv => whnf); first | ((repeat apply Exists.intro); refine caO ?_) | (refine Or.inl ?_; (conv => whnf); (repeat apply Exists.intro); refine caO ?_) | (refine Or.inr ?_; (conv => whnf); (repeat apply Exists.intro); refine caO ?_)) | refine And.intro (by assumption) ?_ | refine goT ?_ | refine goF ?_ | refine goL ?_ | refine goR ?_ | refine goRL ?_ | refine goRR ?_)
    all_goals try (conv => whnf)
    ((repeat' ((conv => whnf) <;> first | exact trivial | (with_reducible first | refine And.intro ?_ ?_ | refine qL1 ?_ | refine qL2 ?_ ?_ | refine qL3 ?_ ?_ ?_ | refine qL4 ?_ ?_ ?_ ?_ | refine qL5 ?_ ?_ ?_ ?_ ?_ | refine yL1 ?_ | refine yL2 ?_ ?_ | refine yL3 ?_ ?_ ?_ | refine qL7 ?_ ?_ ?_ ?_ ?_ ?_ ?_ | refine zL1 ?_ | refine zL2 ?_ ?_ | refine zL3 ?_ ?_ ?_ | refine fun (_ : Nat) => ?_) | refine fun (_ : (_ : Nat) < _) => ?_ | exact rfl | exact Nat.le_of_ble_eq_true rfl | (change (_ : Nat) ≤ _; omega) | (change (_ : Nat) = _; omega) | (change (_ : Int) = _; omega))); (all_goals try (conv => whnf)))
end Go.Proofs.YtglijhimopdgkaaGreatDoor
