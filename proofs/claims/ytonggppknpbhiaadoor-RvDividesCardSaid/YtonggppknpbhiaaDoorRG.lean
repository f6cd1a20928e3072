/- RvDivides. -/
import Derived.Test.YtonggppknpbhiaaDoorRF
namespace Go.Proofs.YtonggppknpbhiaaDoor
open Go.RowKit
set_option maxRecDepth 100000
set_option maxHeartbeats 20000000
attribute [local irreducible] aluV BitVec.mul BitVec.add BitVec.shiftLeft
def C_l19_RvDivides : SpecP := fun A K => ∃ a b : BitVec 32, A [.u32 a, .u32 b] ∧ K (.bo true)
theorem g_l19_RvDivides : Gd 4 (pureP ty C_l19_RvDivides) := by
  refine goodP (E := PG [(7, pureP ty C_l19_awake), (11, pureP ty C_rv_Alu)]) (pgOK ⟨g_l19_awake, g_rv_Alu, trivial⟩) mixes Tryd.func4 (by kernel_rfl) (by kernel_rfl) ?_
  rintro A K ⟨a, b, hA, hK⟩
  refine ⟨_, _, fun _ => none, hA, hK, by kernel_rfl, trivial, ?_⟩
  have h54 : BitVec.ofInt 8 54 = BitVec.ofInt 8 49 ∨ BitVec.ofInt 8 54 = BitVec.ofInt 8 52 ∨ BitVec.ofInt 8 54 = BitVec.ofInt 8 53 ∨ BitVec.ofInt 8 54 = BitVec.ofInt 8 54 ∨ BitVec.ofInt 8 54 = BitVec.ofInt 8 55 ∨ BitVec.ofInt 8 54 = BitVec.ofInt 8 56 := by decide
  have h56 : BitVec.ofInt 8 56 = BitVec.ofInt 8 49 ∨ BitVec.ofInt 8 56 = BitVec.ofInt 8 52 ∨ BitVec.ofInt 8 56 = BitVec.ofInt 8 53 ∨ BitVec.ofInt 8 56 = BitVec.ofInt 8 54 ∨ BitVec.ofInt 8 56 = BitVec.ofInt 8 55 ∨ BitVec.ofInt 8 56 = BitVec.ofInt 8 56 := by decide
  have h53 : BitVec.ofInt 8 53 = BitVec.ofInt 8 49 ∨ BitVec.ofInt 8 53 = BitVec.ofInt 8 52 ∨ BitVec.ofInt 8 53 = BitVec.ofInt 8 53 ∨ BitVec.ofInt 8 53 = BitVec.ofInt 8 54 ∨ BitVec.ofInt 8 53 = BitVec.ofInt 8 55 ∨ BitVec.ofInt 8 53 = BitVec.ofInt 8 56 := by decide
  have h55 : BitVec.ofInt 8 55 = BitVec.ofInt 8 49 ∨ BitVec.ofInt 8 55 = BitVec.ofInt 8 52 ∨ BitVec.ofInt 8 55 = BitVec.ofInt 8 53 ∨ BitVec.ofInt 8 55 = BitVec.ofInt 8 54 ∨ BitVec.ofInt 8 55 = BitVec.ofInt 8 55 ∨ BitVec.ofInt 8 55 = BitVec.ofInt 8 56 := by decide
  have h49 : BitVec.ofInt 8 49 = BitVec.ofInt 8 49 ∨ BitVec.ofInt 8 49 = BitVec.ofInt 8 52 ∨ BitVec.ofInt 8 49 = BitVec.ofInt 8 53 ∨ BitVec.ofInt 8 49 = BitVec.ofInt 8 54 ∨ BitVec.ofInt 8 49 = BitVec.ofInt 8 55 ∨ BitVec.ofInt 8 49 = BitVec.ofInt 8 56 := by decide
  have h52 : BitVec.ofInt 8 52 = BitVec.ofInt 8 49 ∨ BitVec.ofInt 8 52 = BitVec.ofInt 8 52 ∨ BitVec.ofInt 8 52 = BitVec.ofInt 8 53 ∨ BitVec.ofInt 8 52 = BitVec.ofInt 8 54 ∨ BitVec.ofInt 8 52 = BitVec.ofInt 8 55 ∨ BitVec.ofInt 8 52 = BitVec.ofInt 8 56 := by decide
  have hm := halves a b
  rcases Decidable.em (b = BitVec.ofInt 32 0) with rfl | hb
  · have e1 : aluV (BitVec.ofInt 8 54) a (BitVec.ofInt 32 0) = BitVec.ofInt 32 4294967295 := by unfold aluV; rfl
    have e2 : aluV (BitVec.ofInt 8 56) a (BitVec.ofInt 32 0) = a := by unfold aluV; rfl
    have e3 : aluV (BitVec.ofInt 8 53) a (BitVec.ofInt 32 0) = BitVec.ofInt 32 4294967295 := by unfold aluV; rfl
    have e4 : aluV (BitVec.ofInt 8 55) a (BitVec.ofInt 32 0) = a := by unfold aluV; rfl
    repeat ((conv => whnf); first | refine sdO ?_ | refine nlO ?_ | refine goA ?_ | refine goB ?_ | (apply Exists.intro; (repeat apply Exists.intro); refine caO ?_) | (refine Or.inl ?_; (conv => whnf); (repeat apply Exists.intro); refine caO ?_) | (refine Or.inr ?_; (conv => whnf); first | ((repeat apply Exists.intro); refine caO ?_) | (refine Or.inl ?_; (conv => whnf); (repeat apply Exists.intro); refine caO ?_) | (refine Or.inr ?_; (conv => whnf); (repeat apply Exists.intro); refine caO ?_)) | refine And.intro (by assumption) ?_ | refine goT ?_ | refine goF ?_ | refine goL ?_ | refine goR ?_ | refine goRL ?_ | refine goRR ?_)
    all_goals try (conv => whnf)
    ((repeat' ((conv => whnf) <;> first | exact trivial | (with_reducible first | refine And.intro ?_ ?_ | refine rows_lt1 ?_ | refine rows_lt2 ?_ ?_ | refine rows_lt3 ?_ ?_ ?_ | refine rows_lt4 ?_ ?_ ?_ ?_ | refine rows_lt5 ?_ ?_ ?_ ?_ ?_ | refine aggs_lt1 ?_ | refine aggs_lt2 ?_ ?_ | refine aggs_lt3 ?_ ?_ ?_ | refine fun (_ : Nat) => ?_) | refine fun (_ : (_ : Nat) < _) => ?_ | exact rfl | exact Nat.le_of_ble_eq_true rfl | (change (_ : Nat) ≤ _; omega) | (change (_ : Nat) = _; omega) | (change (_ : Int) = _; omega))); (all_goals try (conv => whnf)))
    all_goals exact decide_eq_true e4
  · have hd := (divs a b hb).1
    have hl := (divs a b hb).2
    have hs := sdivs a b hb
    repeat ((conv => whnf); first | refine sdO ?_ | refine nlO ?_ | refine goA ?_ | refine goB ?_ | (apply Exists.intro; (repeat apply Exists.intro); refine caO ?_) | (refine Or.inl ?_; (conv => whnf); (repeat apply Exists.intro); refine caO ?_) | (refine Or.inr ?_; (conv => whnf); first | ((repeat apply Exists.intro); refine caO ?_) | (refine Or.inl ?_; (conv => whnf); (repeat apply Exists.intro); refine caO ?_) | (refine Or.inr ?_; (conv => whnf); (repeat apply Exists.intro); refine caO ?_)) | refine And.intro (by assumption) ?_ | refine goT ?_ | refine goF ?_ | refine goL ?_ | refine goR ?_ | refine goRL ?_ | refine goRR ?_)
    all_goals try (conv => whnf)
    ((repeat' ((conv => whnf) <;> first | exact trivial | (with_reducible first | refine And.intro ?_ ?_ | refine rows_lt1 ?_ | refine rows_lt2 ?_ ?_ | refine rows_lt3 ?_ ?_ ?_ | refine rows_lt4 ?_ ?_ ?_ ?_ | refine rows_lt5 ?_ ?_ ?_ ?_ ?_ | refine aggs_lt1 ?_ | refine aggs_lt2 ?_ ?_ | refine aggs_lt3 ?_ ?_ ?_ | refine fun (_ : Nat) => ?_) | refine fun (_ : (_ : Nat) < _) => ?_ | exact rfl | exact Nat.le_of_ble_eq_true rfl | (change (_ : Nat) ≤ _; omega) | (change (_ : Nat) = _; omega) | (change (_ : Int) = _; omega))); (all_goals try (conv => whnf)))
    all_goals exact decide_eq_true hs
end Go.Proofs.YtonggppknpbhiaaDoor
