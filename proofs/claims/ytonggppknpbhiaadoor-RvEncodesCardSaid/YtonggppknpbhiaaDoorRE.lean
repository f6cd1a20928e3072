/- The document's example. -/
import Derived.Test.YtonggppknpbhiaaDoorRD
namespace Go.Proofs.YtonggppknpbhiaaDoor
open Go.RowKit
set_option maxRecDepth 100000
set_option maxHeartbeats 20000000
theorem ex_op : opV (BitVec.ofInt 32 1048723) = BitVec.ofInt 8 19 ∧ fR (BitVec.ofInt 32 1048723) = BitVec.ofInt 8 1 ∧ fA (BitVec.ofInt 32 1048723) = 0 ∧ fB (BitVec.ofInt 32 1048723) = 0 ∧ fI (BitVec.ofInt 32 1048723) = BitVec.ofInt 32 1 ∧ fC (BitVec.ofInt 32 1048723) = 0 := by decide +kernel
theorem ex_is : isV (BitVec.ofInt 32 1048723) = true := by decide +kernel
theorem ex_nm : nmV (BitVec.ofInt 8 56) = [114, 101, 109, 117] := by decide +kernel
def C_l19_awake : SpecP := fun A K => A [] ∧ K (.bo true)
theorem g_l19_awake : Gd 7 (pureP ty C_l19_awake) := by
  refine goodP (E := PG [(10, pureP ty C_rv_Decode), (13, pureP ty C_rv_Name)]) (pgOK ⟨g_rv_Decode, g_rv_Name, trivial⟩) mixes Tryd.func7 (by kernel_rfl) (by kernel_rfl) ?_
  rintro A K ⟨hA, hK⟩
  refine ⟨_, _, fun _ => none, hA, hK, by kernel_rfl, trivial, ?_⟩
  have h1 := ex_is
  obtain ⟨e1, e2, e3, e4, e5, e6⟩ := ex_op
  have h2 := ex_nm
  repeat ((conv => whnf); first | refine sdO ?_ | refine nlO ?_ | refine goA ?_ | refine goB ?_ | (apply Exists.intro; (repeat apply Exists.intro); refine caO ?_) | (refine Or.inl ?_; (conv => whnf); (repeat apply Exists.intro); refine caO ?_) | (refine Or.inr ?_; (conv => whnf); first | ((repeat apply Exists.intro); refine caO ?_) | (refine Or.inl ?_; (conv => whnf); (repeat apply Exists.intro); refine caO ?_) | (refine Or.inr ?_; (conv => whnf); (repeat apply Exists.intro); refine caO ?_)) | refine And.intro (by assumption) ?_ | refine goT ?_ | refine goF ?_ | refine goL ?_ | refine goR ?_ | refine goRL ?_ | refine goRR ?_)
  all_goals try (conv => whnf)
  refine And.intro (fun h => ?_) (fun h => bad (eqB_agg fun i hi => ?_) h)
  rotate_left
  · rcases i with _ | _ | _ | _ | _ | _ | i
    · exact e1
    · exact e2
    · exact e3
    · exact e4
    · exact e5
    · exact e6
    · exact absurd hi (by show ¬ i + 6 < 6; omega)
  repeat ((conv => whnf); first | refine sdO ?_ | refine nlO ?_ | refine goA ?_ | refine goB ?_ | (apply Exists.intro; (repeat apply Exists.intro); refine caO ?_) | (refine Or.inl ?_; (conv => whnf); (repeat apply Exists.intro); refine caO ?_) | (refine Or.inr ?_; (conv => whnf); first | ((repeat apply Exists.intro); refine caO ?_) | (refine Or.inl ?_; (conv => whnf); (repeat apply Exists.intro); refine caO ?_) | (refine Or.inr ?_; (conv => whnf); (repeat apply Exists.intro); refine caO ?_)) | refine And.intro (by assumption) ?_ | refine goT ?_ | refine goF ?_ | refine goL ?_ | refine goR ?_ | refine goRL ?_ | refine goRR ?_)
  all_goals try (conv => whnf)
  ((repeat' ((conv => whnf) <;> first | exact trivial | (with_reducible first | refine And.intro ?_ ?_ | refine rows_lt1 ?_ | refine rows_lt2 ?_ ?_ | refine rows_lt3 ?_ ?_ ?_ | refine rows_lt4 ?_ ?_ ?_ ?_ | refine rows_lt5 ?_ ?_ ?_ ?_ ?_ | refine aggs_lt1 ?_ | refine aggs_lt2 ?_ ?_ | refine aggs_lt3 ?_ ?_ ?_ | refine fun (_ : Nat) => ?_) | refine fun (_ : (_ : Nat) < _) => ?_ | exact rfl | exact Nat.le_of_ble_eq_true rfl | (change (_ : Nat) ≤ _; omega) | (change (_ : Nat) = _; omega) | (change (_ : Int) = _; omega))); (all_goals try (conv => whnf)))
end Go.Proofs.YtonggppknpbhiaaDoor
