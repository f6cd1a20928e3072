/- The journal: the example; JournalReads. -/
import Derived.Test.YtldlleoabbcpdaaDoorIH
namespace Go.Proofs.YtldlleoabbcpdaaDoor
open Go.RowKit
set_option maxRecDepth 100000
set_option maxHeartbeats 20000000
theorem js_eq (q : BitVec 32) (a t r : Int) : eqB (jsA q a t r) (jsA q a t r) = true := eqB_agg fun i hi => by rcases i with _ | _ | _ | _ | i <;> first | exact rfl | (exfalso; omega)
attribute [local irreducible] at8 be rcF rcH lw hsh rst sha256 press dig isR rgt w4 rdN bQ bA bT bR setF badB opW opM doM opK nxM nxP
theorem bl_read : rdN (fun _ => 255) 2 = (jsF, -1) := rd2_n (not_rec rfl) (not_rec rfl)
theorem bl_nxt : nxP (fun _ => 255) = 32 := by unfold nxP; rw [bl_read]; exact if_neg (show ¬ ((-1 : Int) = 32) by decide)
theorem aw_rgt : rgt 1 0 0 := by unfold rgt; decide
theorem aw_read : rdN (nxM (fun _ => 255) 32 (rcF (0 + BitVec.ofInt 32 1) 1 0 0) 2) 2 = (⟨0 + BitVec.ofInt 32 1, 1, 0, 0⟩, 32) := by
  have h := nx_read (m := fun _ => 255) aw_rgt (by rw [bl_read]; decide)
  rw [bl_read, bl_nxt] at h
  exact h
def C_l22_awake : SpecP := fun A K => A [] ∧ K (.bo true)
theorem g_l22_awake : Gd 8 (pureP ty C_l22_awake) := by
  refine goodP (E := PG [(27, pureR ty C_fl_New), (23, pureR ty C_jn_Next), (24, mutD ty [true, false, false] C_jn_Do), (19, pureP ty C_jn_Read)]) (pgOK ⟨g_fl_New, g_jn_Next, g_jn_Do, g_jn_Read, trivial⟩) mixes Tryd.func8 (by kernel_rfl) (by kernel_rfl) ?_
  rintro A K ⟨hA, hK⟩
  refine ⟨_, _, fun _ => none, hA, hK, by kernel_rfl, trivial, ?_⟩
  have hr := aw_rgt
  have e0 := bl_read
  have hq : ¬ (rdN (fun _ => 255) 2).1.q = qL := by rw [e0]; decide
  repeat ((conv => whnf); first | refine sdO ?_ | refine nlO ?_ | refine goA ?_ | refine goB ?_ | (apply Exists.intro; (repeat apply Exists.intro); refine caO ?_) | (refine Or.inl ?_; (conv => whnf); (repeat apply Exists.intro); refine caO ?_) | (refine Or.inr ?_; (conv => whnf); first | ((repeat apply Exists.intro); refine caO ?_) | (refine Or.inl ?_; (conv => whnf); (repeat apply Exists.intro); refine caO ?_) | (refine Or.inr ?_; (conv => whnf); (repeat apply Exists.intro); refine caO ?_)) | refine And.intro (by assumption) ?_ | refine goT ?_ | refine goF ?_ | refine goL ?_ | refine goR ?_ | refine goRL ?_ | refine goRR ?_)
  all_goals try (conv => whnf)
  refine And.intro ⟨hr, hq⟩ ?_
  repeat ((conv => whnf); first | refine sdO ?_ | refine nlO ?_ | refine goA ?_ | refine goB ?_ | (apply Exists.intro; (repeat apply Exists.intro); refine caO ?_) | (refine Or.inl ?_; (conv => whnf); (repeat apply Exists.intro); refine caO ?_) | (refine Or.inr ?_; (conv => whnf); first | ((repeat apply Exists.intro); refine caO ?_) | (refine Or.inl ?_; (conv => whnf); (repeat apply Exists.intro); refine caO ?_) | (refine Or.inr ?_; (conv => whnf); (repeat apply Exists.intro); refine caO ?_)) | refine And.intro (by assumption) ?_ | refine goT ?_ | refine goF ?_ | refine goL ?_ | refine goR ?_ | refine goRL ?_ | refine goRR ?_)
  all_goals try (conv => whnf)
  refine ⟨2, nxK, fun _ => 32, nxL, nxB (rcF (0 + BitVec.ofInt 32 1) 1 0 0), fun _ => 255, ?_, by decide, nxo_ok _ (by decide) _, ?_⟩
  · ((repeat' ((conv => whnf) <;> first | exact trivial | (with_reducible first | refine And.intro ?_ ?_ | refine rows_lt1 ?_ | refine rows_lt2 ?_ ?_ | refine rows_lt3 ?_ ?_ ?_ | refine rows_lt4 ?_ ?_ ?_ ?_ | refine rows_lt5 ?_ ?_ ?_ ?_ ?_ | refine ints_lt1 ?_ | refine ints_lt2 ?_ ?_ | refine ints_lt3 ?_ ?_ ?_ | refine rows_lt7 ?_ ?_ ?_ ?_ ?_ ?_ ?_ | refine aggs_lt1 ?_ | refine aggs_lt2 ?_ ?_ | refine aggs_lt3 ?_ ?_ ?_ | refine fun (_ : Nat) => ?_) | refine fun (_ : (_ : Nat) < _) => ?_ | exact rfl | exact Nat.le_of_ble_eq_true rfl | (change (_ : Nat) ≤ _; omega) | (change (_ : Nat) = _; omega) | (change (_ : Int) = _; omega))); (all_goals try (conv => whnf)))
    all_goals (rename_i x hx; rcases x with _ | _ | x <;> first | (exfalso; omega) | ((repeat' ((conv => whnf) <;> first | exact trivial | (with_reducible first | refine And.intro ?_ ?_ | refine rows_lt1 ?_ | refine rows_lt2 ?_ ?_ | refine rows_lt3 ?_ ?_ ?_ | refine rows_lt4 ?_ ?_ ?_ ?_ | refine rows_lt5 ?_ ?_ ?_ ?_ ?_ | refine ints_lt1 ?_ | refine ints_lt2 ?_ ?_ | refine ints_lt3 ?_ ?_ ?_ | refine rows_lt7 ?_ ?_ ?_ ?_ ?_ ?_ ?_ | refine aggs_lt1 ?_ | refine aggs_lt2 ?_ ?_ | refine aggs_lt3 ?_ ?_ ?_ | refine fun (_ : Nat) => ?_) | refine fun (_ : (_ : Nat) < _) => ?_ | exact rfl | exact Nat.le_of_ble_eq_true rfl | (change (_ : Nat) ≤ _; omega) | (change (_ : Nat) = _; omega) | (change (_ : Int) = _; omega))); (all_goals try (conv => whnf))))
    all_goals first | exact bl_nxt | (rw [bl_read]; rfl)
  have z2 : (fun x => doM nxK (fun _ => 32) nxL (nxB (rcF (0 + BitVec.ofInt 32 1) 1 0 0)) (fun _ => 255) 2 (0 + x)) = nxM (fun _ => 255) 32 (rcF (0 + BitVec.ofInt 32 1) 1 0 0) 2 := funext fun x => by rw [Nat.zero_add]; unfold nxM; rfl
  have e1 := aw_read
  have e2 : eqB (jsA (0 + BitVec.ofInt 32 1) 1 0 0) (jsA (BitVec.ofInt 32 1) 1 0 0) = true := js_eq _ _ _ _
  repeat ((conv => whnf); first | refine sdO ?_ | refine nlO ?_ | refine goA ?_ | refine goB ?_ | (apply Exists.intro; (repeat apply Exists.intro); refine caO ?_) | (refine Or.inl ?_; (conv => whnf); (repeat apply Exists.intro); refine caO ?_) | (refine Or.inr ?_; (conv => whnf); first | ((repeat apply Exists.intro); refine caO ?_) | (refine Or.inl ?_; (conv => whnf); (repeat apply Exists.intro); refine caO ?_) | (refine Or.inr ?_; (conv => whnf); (repeat apply Exists.intro); refine caO ?_)) | refine And.intro (by assumption) ?_ | refine goT ?_ | refine goF ?_ | refine goL ?_ | refine goR ?_ | refine goRL ?_ | refine goRR ?_)
  all_goals try (conv => whnf)
  rw [z2, e1]
  repeat ((conv => whnf); first | refine sdO ?_ | refine nlO ?_ | refine goA ?_ | refine goB ?_ | (apply Exists.intro; (repeat apply Exists.intro); refine caO ?_) | (refine Or.inl ?_; (conv => whnf); (repeat apply Exists.intro); refine caO ?_) | (refine Or.inr ?_; (conv => whnf); first | ((repeat apply Exists.intro); refine caO ?_) | (refine Or.inl ?_; (conv => whnf); (repeat apply Exists.intro); refine caO ?_) | (refine Or.inr ?_; (conv => whnf); (repeat apply Exists.intro); refine caO ?_)) | refine And.intro (by assumption) ?_ | refine goT ?_ | refine goF ?_ | refine goL ?_ | refine goR ?_ | refine goRL ?_ | refine goRR ?_)
  all_goals try (conv => whnf)
  exact eqB_agg fun i hi => by rcases i with _ | _ | _ | _ | i <;> first | exact rfl | (exfalso; omega)
end Go.Proofs.YtldlleoabbcpdaaDoor
