/- The reference's instruction of a word: all others. -/
import Derived.Test.YtonggppknpbhiaaDoorRN
namespace Go.Proofs.YtonggppknpbhiaaDoor
open Go.RowKit
set_option maxRecDepth 100000
set_option maxHeartbeats 20000000
attribute [local irreducible] cutV extV opV fR fA fB fI fC isV alV imV BitVec.mul BitVec.add BitVec.sub
def C_r19_DecX : SpecP := fun A K => ∃ w : BitVec 32, A [.u32 w] ∧ (isV w = true ∧ (¬ fmtN w = 4 ∧ ¬ fmtN w = 7)) ∧ K (dcA w)
theorem g_r19_DecX : Gd 9 (pureP ty C_r19_DecX) := by
  refine goodP (E := PG [(18, pureP ty C_r19_cut), (19, pureP ty C_r19_extend), (20, pureP ty C_r19_at), (21, pureP ty C_r19_alone)]) (pgOK ⟨g_r19_cut, g_r19_extend, g_r19_at, g_r19_alone, trivial⟩) mixes Tryd.func9 (by kernel_rfl) (by kernel_rfl) ?_
  rintro A K ⟨w, hA, ⟨hi, hcd⟩, hK⟩
  refine ⟨_, _, fun _ => none, hA, hK, by kernel_rfl, own_ins, ?_⟩
  obtain ⟨j, hj, hk⟩ := lk_some hi
  have hop := op_some hj hk
  have hlt := fmtN_lt w
  have x12 : ExtIs (cutV w 31 20) 12 := ⟨.inl rfl, cut_lt w 31 20 12 rfl (by decide)⟩
  have k0 : CutIs w 11 7 (cutV w 11 7) := ⟨rfl⟩
  have k1 : CutIs w 19 15 (cutV w 19 15) := ⟨rfl⟩
  have k2 : CutIs w 24 20 (cutV w 24 20) := ⟨rfl⟩
  have k3 : CutIs w 31 20 (cutV w 31 20) := ⟨rfl⟩
  have n4096 : BitVec.ofInt 32 4096 ≠ 0 := by decide
  unfold kyW at hk
  generalize hf : fmtN w = f at *
  rcases (show f = 0 ∨ f = 1 ∨ f = 2 ∨ f = 3 ∨ f = 5 ∨ f = 6 ∨ f = 8 ∨ f = 9 ∨ f = 10 ∨ f = 11 by omega) with rfl | rfl | rfl | rfl | rfl | rfl | rfl | rfl | rfl | rfl
  · exact absurd hj (Nat.not_lt_zero j)
  · have hR : fR w = (cutV w 11 7).setWidth 8 := (fR_y hi hf).trans (fl_7 w)
    have hA2 : fA w = 0 := (fA_y hi hf).trans (fl_z w 15)
    have hB : fB w = 0 := (fB_y hi hf).trans (fl_z w 20)
    have hC : fC w = 0 := (fC_y hi hf).trans (cs_z w)
    have hI := (iva_1 w).trans (fI_y hi hf).symm
    have c0 : CutIs w 14 12 (cutV w 14 12) := ⟨rfl⟩
    have c1 : CutIs w 31 25 (cutV w 31 25) := ⟨rfl⟩
    rcases (show j = 0 ∨ j = 1 from by have h := hj; revert h; show j < 2 → _; omega) with rfl | rfl
    all_goals
      have c2 := CutIs.mk (cut_k 6 0 127#32 hk (by decide) (by decide))
      repeat ((conv => whnf); first | refine sdO ?_ | refine nlO ?_ | refine goA ?_ | refine goB ?_ | (apply Exists.intro; (repeat apply Exists.intro); refine caO ?_) | (refine Or.inl ?_; (conv => whnf); (repeat apply Exists.intro); refine caO ?_) | (refine Or.inr ?_; (conv => whnf); first | ((repeat apply Exists.intro); refine caO ?_) | (refine Or.inl ?_; (conv => whnf); (repeat apply Exists.intro); refine caO ?_) | (refine Or.inr ?_; (conv => whnf); (repeat apply Exists.intro); refine caO ?_)) | refine And.intro (by assumption) ?_ | refine goT ?_ | refine goF ?_ | refine goL ?_ | refine goR ?_ | refine goRL ?_ | refine goRR ?_)
      all_goals try (conv => whnf)
      ((repeat' ((conv => whnf) <;> first | exact trivial | (with_reducible first | refine And.intro ?_ ?_ | refine rows_lt1 ?_ | refine rows_lt2 ?_ ?_ | refine rows_lt3 ?_ ?_ ?_ | refine rows_lt4 ?_ ?_ ?_ ?_ | refine rows_lt5 ?_ ?_ ?_ ?_ ?_ | refine aggs_lt1 ?_ | refine aggs_lt2 ?_ ?_ | refine aggs_lt3 ?_ ?_ ?_ | refine fun (_ : Nat) => ?_) | refine fun (_ : (_ : Nat) < _) => ?_ | exact rfl | exact Nat.le_of_ble_eq_true rfl | (change (_ : Nat) ≤ _; omega) | (change (_ : Nat) = _; omega) | (change (_ : Int) = _; omega))); (all_goals try (conv => whnf)))
    all_goals first | exact hop.symm | exact hR.symm | exact hA2.symm | exact hB.symm | exact hC.symm | exact hI
  · have hR : fR w = (cutV w 11 7).setWidth 8 := (fR_y hi hf).trans (fl_7 w)
    have hA2 : fA w = 0 := (fA_y hi hf).trans (fl_z w 15)
    have hB : fB w = 0 := (fB_y hi hf).trans (fl_z w 20)
    have hC : fC w = 0 := (fC_y hi hf).trans (cs_z w)
    have hI := (iva_2 w).trans (fI_y hi hf).symm
    have q0 : CutIs w 31 31 (cutV w 31 31) := ⟨rfl⟩
    have q1 : CutIs w 19 12 (cutV w 19 12) := ⟨rfl⟩
    have q2 : CutIs w 20 20 (cutV w 20 20) := ⟨rfl⟩
    have q3 : CutIs w 30 21 (cutV w 30 21) := ⟨rfl⟩
    have xx : ExtIs (iv2 w) 21 := ⟨.inr (.inr rfl), ivl_2 w⟩
    unfold iv2 at hI xx
    have c0 : CutIs w 14 12 (cutV w 14 12) := ⟨rfl⟩
    have c1 : CutIs w 31 25 (cutV w 31 25) := ⟨rfl⟩
    obtain rfl : j = 0 := by have h : j < 1 := hj; omega
    all_goals
      have c2 := CutIs.mk (cut_k 6 0 127#32 hk (by decide) (by decide))
      repeat ((conv => whnf); first | refine sdO ?_ | refine nlO ?_ | refine goA ?_ | refine goB ?_ | (apply Exists.intro; (repeat apply Exists.intro); refine caO ?_) | (refine Or.inl ?_; (conv => whnf); (repeat apply Exists.intro); refine caO ?_) | (refine Or.inr ?_; (conv => whnf); first | ((repeat apply Exists.intro); refine caO ?_) | (refine Or.inl ?_; (conv => whnf); (repeat apply Exists.intro); refine caO ?_) | (refine Or.inr ?_; (conv => whnf); (repeat apply Exists.intro); refine caO ?_)) | refine And.intro (by assumption) ?_ | refine goT ?_ | refine goF ?_ | refine goL ?_ | refine goR ?_ | refine goRL ?_ | refine goRR ?_)
      all_goals try (conv => whnf)
      ((repeat' ((conv => whnf) <;> first | exact trivial | (with_reducible first | refine And.intro ?_ ?_ | refine rows_lt1 ?_ | refine rows_lt2 ?_ ?_ | refine rows_lt3 ?_ ?_ ?_ | refine rows_lt4 ?_ ?_ ?_ ?_ | refine rows_lt5 ?_ ?_ ?_ ?_ ?_ | refine aggs_lt1 ?_ | refine aggs_lt2 ?_ ?_ | refine aggs_lt3 ?_ ?_ ?_ | refine fun (_ : Nat) => ?_) | refine fun (_ : (_ : Nat) < _) => ?_ | exact rfl | exact Nat.le_of_ble_eq_true rfl | (change (_ : Nat) ≤ _; omega) | (change (_ : Nat) = _; omega) | (change (_ : Int) = _; omega))); (all_goals try (conv => whnf)))
    all_goals first | exact hop.symm | exact hR.symm | exact hA2.symm | exact hB.symm | exact hC.symm | exact hI
  · have hR : fR w = 0 := (fR_y hi hf).trans (fl_z w 7)
    have hA2 : fA w = (cutV w 19 15).setWidth 8 := (fA_y hi hf).trans (fl_15 w)
    have hB : fB w = (cutV w 24 20).setWidth 8 := (fB_y hi hf).trans (fl_20 w)
    have hC : fC w = 0 := (fC_y hi hf).trans (cs_z w)
    have hI := (iva_3 w).trans (fI_y hi hf).symm
    have q0 : CutIs w 31 31 (cutV w 31 31) := ⟨rfl⟩
    have q1 : CutIs w 7 7 (cutV w 7 7) := ⟨rfl⟩
    have q2 : CutIs w 30 25 (cutV w 30 25) := ⟨rfl⟩
    have q3 : CutIs w 11 8 (cutV w 11 8) := ⟨rfl⟩
    have xx : ExtIs (iv3 w) 13 := ⟨.inr (.inl rfl), ivl_3 w⟩
    unfold iv3 at hI xx
    have c1 : CutIs w 31 25 (cutV w 31 25) := ⟨rfl⟩
    rcases (show j = 0 ∨ j = 1 ∨ j = 2 ∨ j = 3 ∨ j = 4 ∨ j = 5 from by have h := hj; revert h; show j < 6 → _; omega) with rfl | rfl | rfl | rfl | rfl | rfl
    all_goals
      have c0 := CutIs.mk (cut_k 14 12 28672#32 hk (by decide) (by decide))
      have c2 := CutIs.mk (cut_k 6 0 127#32 hk (by decide) (by decide))
      repeat ((conv => whnf); first | refine sdO ?_ | refine nlO ?_ | refine goA ?_ | refine goB ?_ | (apply Exists.intro; (repeat apply Exists.intro); refine caO ?_) | (refine Or.inl ?_; (conv => whnf); (repeat apply Exists.intro); refine caO ?_) | (refine Or.inr ?_; (conv => whnf); first | ((repeat apply Exists.intro); refine caO ?_) | (refine Or.inl ?_; (conv => whnf); (repeat apply Exists.intro); refine caO ?_) | (refine Or.inr ?_; (conv => whnf); (repeat apply Exists.intro); refine caO ?_)) | refine And.intro (by assumption) ?_ | refine goT ?_ | refine goF ?_ | refine goL ?_ | refine goR ?_ | refine goRL ?_ | refine goRR ?_)
      all_goals try (conv => whnf)
      ((repeat' ((conv => whnf) <;> first | exact trivial | (with_reducible first | refine And.intro ?_ ?_ | refine rows_lt1 ?_ | refine rows_lt2 ?_ ?_ | refine rows_lt3 ?_ ?_ ?_ | refine rows_lt4 ?_ ?_ ?_ ?_ | refine rows_lt5 ?_ ?_ ?_ ?_ ?_ | refine aggs_lt1 ?_ | refine aggs_lt2 ?_ ?_ | refine aggs_lt3 ?_ ?_ ?_ | refine fun (_ : Nat) => ?_) | refine fun (_ : (_ : Nat) < _) => ?_ | exact rfl | exact Nat.le_of_ble_eq_true rfl | (change (_ : Nat) ≤ _; omega) | (change (_ : Nat) = _; omega) | (change (_ : Int) = _; omega))); (all_goals try (conv => whnf)))
    all_goals first | exact hop.symm | exact hR.symm | exact hA2.symm | exact hB.symm | exact hC.symm | exact hI
  · have hR : fR w = (cutV w 11 7).setWidth 8 := (fR_y hi hf).trans (fl_7 w)
    have hA2 : fA w = (cutV w 19 15).setWidth 8 := (fA_y hi hf).trans (fl_15 w)
    have hB : fB w = 0 := (fB_y hi hf).trans (fl_z w 20)
    have hC : fC w = 0 := (fC_y hi hf).trans (cs_z w)
    have hI := (iva_5 w).trans (fI_y hi hf).symm
    rcases (show j = 0 ∨ j = 1 ∨ j = 2 from by have h := hj; revert h; show j < 3 → _; omega) with rfl | rfl | rfl
    all_goals
      have c0 := CutIs.mk (cut_k 14 12 28672#32 hk (by decide) (by decide))
      have c1 := CutIs.mk (cut_k 31 25 4261412864#32 hk (by decide) (by decide))
      have c2 := CutIs.mk (cut_k 6 0 127#32 hk (by decide) (by decide))
      repeat ((conv => whnf); first | refine sdO ?_ | refine nlO ?_ | refine goA ?_ | refine goB ?_ | (apply Exists.intro; (repeat apply Exists.intro); refine caO ?_) | (refine Or.inl ?_; (conv => whnf); (repeat apply Exists.intro); refine caO ?_) | (refine Or.inr ?_; (conv => whnf); first | ((repeat apply Exists.intro); refine caO ?_) | (refine Or.inl ?_; (conv => whnf); (repeat apply Exists.intro); refine caO ?_) | (refine Or.inr ?_; (conv => whnf); (repeat apply Exists.intro); refine caO ?_)) | refine And.intro (by assumption) ?_ | refine goT ?_ | refine goF ?_ | refine goL ?_ | refine goR ?_ | refine goRL ?_ | refine goRR ?_)
      all_goals try (conv => whnf)
      ((repeat' ((conv => whnf) <;> first | exact trivial | (with_reducible first | refine And.intro ?_ ?_ | refine rows_lt1 ?_ | refine rows_lt2 ?_ ?_ | refine rows_lt3 ?_ ?_ ?_ | refine rows_lt4 ?_ ?_ ?_ ?_ | refine rows_lt5 ?_ ?_ ?_ ?_ ?_ | refine aggs_lt1 ?_ | refine aggs_lt2 ?_ ?_ | refine aggs_lt3 ?_ ?_ ?_ | refine fun (_ : Nat) => ?_) | refine fun (_ : (_ : Nat) < _) => ?_ | exact rfl | exact Nat.le_of_ble_eq_true rfl | (change (_ : Nat) ≤ _; omega) | (change (_ : Nat) = _; omega) | (change (_ : Int) = _; omega))); (all_goals try (conv => whnf)))
    all_goals first | exact hop.symm | exact hR.symm | exact hA2.symm | exact hB.symm | exact hC.symm | exact hI
  · have hR : fR w = 0 := (fR_y hi hf).trans (fl_z w 7)
    have hA2 : fA w = (cutV w 19 15).setWidth 8 := (fA_y hi hf).trans (fl_15 w)
    have hB : fB w = (cutV w 24 20).setWidth 8 := (fB_y hi hf).trans (fl_20 w)
    have hC : fC w = 0 := (fC_y hi hf).trans (cs_z w)
    have hI := (iva_6 w).trans (fI_y hi hf).symm
    have xx : ExtIs (iv6 w) 12 := ⟨.inl rfl, ivl_6 w⟩
    unfold iv6 at hI xx
    have c1 : CutIs w 31 25 (cutV w 31 25) := ⟨rfl⟩
    rcases (show j = 0 ∨ j = 1 ∨ j = 2 from by have h := hj; revert h; show j < 3 → _; omega) with rfl | rfl | rfl
    all_goals
      have c0 := CutIs.mk (cut_k 14 12 28672#32 hk (by decide) (by decide))
      have c2 := CutIs.mk (cut_k 6 0 127#32 hk (by decide) (by decide))
      repeat ((conv => whnf); first | refine sdO ?_ | refine nlO ?_ | refine goA ?_ | refine goB ?_ | (apply Exists.intro; (repeat apply Exists.intro); refine caO ?_) | (refine Or.inl ?_; (conv => whnf); (repeat apply Exists.intro); refine caO ?_) | (refine Or.inr ?_; (conv => whnf); first | ((repeat apply Exists.intro); refine caO ?_) | (refine Or.inl ?_; (conv => whnf); (repeat apply Exists.intro); refine caO ?_) | (refine Or.inr ?_; (conv => whnf); (repeat apply Exists.intro); refine caO ?_)) | refine And.intro (by assumption) ?_ | refine goT ?_ | refine goF ?_ | refine goL ?_ | refine goR ?_ | refine goRL ?_ | refine goRR ?_)
      all_goals try (conv => whnf)
      ((repeat' ((conv => whnf) <;> first | exact trivial | (with_reducible first | refine And.intro ?_ ?_ | refine rows_lt1 ?_ | refine rows_lt2 ?_ ?_ | refine rows_lt3 ?_ ?_ ?_ | refine rows_lt4 ?_ ?_ ?_ ?_ | refine rows_lt5 ?_ ?_ ?_ ?_ ?_ | refine aggs_lt1 ?_ | refine aggs_lt2 ?_ ?_ | refine aggs_lt3 ?_ ?_ ?_ | refine fun (_ : Nat) => ?_) | refine fun (_ : (_ : Nat) < _) => ?_ | exact rfl | exact Nat.le_of_ble_eq_true rfl | (change (_ : Nat) ≤ _; omega) | (change (_ : Nat) = _; omega) | (change (_ : Int) = _; omega))); (all_goals try (conv => whnf)))
    all_goals first | exact hop.symm | exact hR.symm | exact hA2.symm | exact hB.symm | exact hC.symm | exact hI
  · have hR : fR w = 0 := (fR_y hi hf).trans (fl_z w 7)
    have hA2 : fA w = 0 := (fA_y hi hf).trans (fl_z w 15)
    have hB : fB w = 0 := (fB_y hi hf).trans (fl_z w 20)
    have hC : fC w = 0 := (fC_y hi hf).trans (cs_z w)
    have hI := (iva_8 w).trans (fI_y hi hf).symm
    have c1 : CutIs w 31 25 (cutV w 31 25) := ⟨rfl⟩
    obtain rfl : j = 0 := by have h : j < 1 := hj; omega
    all_goals
      have c0 := CutIs.mk (cut_k 14 12 28672#32 hk (by decide) (by decide))
      have c2 := CutIs.mk (cut_k 6 0 127#32 hk (by decide) (by decide))
      repeat ((conv => whnf); first | refine sdO ?_ | refine nlO ?_ | refine goA ?_ | refine goB ?_ | (apply Exists.intro; (repeat apply Exists.intro); refine caO ?_) | (refine Or.inl ?_; (conv => whnf); (repeat apply Exists.intro); refine caO ?_) | (refine Or.inr ?_; (conv => whnf); first | ((repeat apply Exists.intro); refine caO ?_) | (refine Or.inl ?_; (conv => whnf); (repeat apply Exists.intro); refine caO ?_) | (refine Or.inr ?_; (conv => whnf); (repeat apply Exists.intro); refine caO ?_)) | refine And.intro (by assumption) ?_ | refine goT ?_ | refine goF ?_ | refine goL ?_ | refine goR ?_ | refine goRL ?_ | refine goRR ?_)
      all_goals try (conv => whnf)
      ((repeat' ((conv => whnf) <;> first | exact trivial | (with_reducible first | refine And.intro ?_ ?_ | refine rows_lt1 ?_ | refine rows_lt2 ?_ ?_ | refine rows_lt3 ?_ ?_ ?_ | refine rows_lt4 ?_ ?_ ?_ ?_ | refine rows_lt5 ?_ ?_ ?_ ?_ ?_ | refine aggs_lt1 ?_ | refine aggs_lt2 ?_ ?_ | refine aggs_lt3 ?_ ?_ ?_ | refine fun (_ : Nat) => ?_) | refine fun (_ : (_ : Nat) < _) => ?_ | exact rfl | exact Nat.le_of_ble_eq_true rfl | (change (_ : Nat) ≤ _; omega) | (change (_ : Nat) = _; omega) | (change (_ : Int) = _; omega))); (all_goals try (conv => whnf)))
    all_goals first | exact hop.symm | exact hR.symm | exact hA2.symm | exact hB.symm | exact hC.symm | exact hI
  · have hR : fR w = 0 := (fR_y hi hf).trans (fl_z w 7)
    have hA2 : fA w = 0 := (fA_y hi hf).trans (fl_z w 15)
    have hB : fB w = 0 := (fB_y hi hf).trans (fl_z w 20)
    have hC : fC w = 0 := (fC_y hi hf).trans (cs_z w)
    have hI := (iva_9 w).trans (fI_y hi hf).symm
    rcases (show j = 0 ∨ j = 1 ∨ j = 2 ∨ j = 3 from by have h := hj; revert h; show j < 4 → _; omega) with rfl | rfl | rfl | rfl
    all_goals
      have c0 := CutIs.mk (cut_k 14 12 28672#32 hk (by decide) (by decide))
      have c1 := CutIs.mk (cut_k 31 25 4261412864#32 hk (by decide) (by decide))
      have c2 := CutIs.mk (cut_k 6 0 127#32 hk (by decide) (by decide))
      have hw : w = _ := (BitVec.and_allOnes (x := w)).symm.trans hk
      have hal : alV w = opV w := by rw [hop, hw]; unfold alV; decide
      repeat ((conv => whnf); first | refine sdO ?_ | refine nlO ?_ | refine goA ?_ | refine goB ?_ | (apply Exists.intro; (repeat apply Exists.intro); refine caO ?_) | (refine Or.inl ?_; (conv => whnf); (repeat apply Exists.intro); refine caO ?_) | (refine Or.inr ?_; (conv => whnf); first | ((repeat apply Exists.intro); refine caO ?_) | (refine Or.inl ?_; (conv => whnf); (repeat apply Exists.intro); refine caO ?_) | (refine Or.inr ?_; (conv => whnf); (repeat apply Exists.intro); refine caO ?_)) | refine And.intro (by assumption) ?_ | refine goT ?_ | refine goF ?_ | refine goL ?_ | refine goR ?_ | refine goRL ?_ | refine goRR ?_)
      all_goals try (conv => whnf)
      ((repeat' ((conv => whnf) <;> first | exact trivial | (with_reducible first | refine And.intro ?_ ?_ | refine rows_lt1 ?_ | refine rows_lt2 ?_ ?_ | refine rows_lt3 ?_ ?_ ?_ | refine rows_lt4 ?_ ?_ ?_ ?_ | refine rows_lt5 ?_ ?_ ?_ ?_ ?_ | refine aggs_lt1 ?_ | refine aggs_lt2 ?_ ?_ | refine aggs_lt3 ?_ ?_ ?_ | refine fun (_ : Nat) => ?_) | refine fun (_ : (_ : Nat) < _) => ?_ | exact rfl | exact Nat.le_of_ble_eq_true rfl | (change (_ : Nat) ≤ _; omega) | (change (_ : Nat) = _; omega) | (change (_ : Int) = _; omega))); (all_goals try (conv => whnf)))
    all_goals first | exact hop.symm | exact hR.symm | exact hA2.symm | exact hB.symm | exact hC.symm | exact hI | exact hal
  · have hR : fR w = (cutV w 11 7).setWidth 8 := (fR_y hi hf).trans (fl_7 w)
    have hA2 : fA w = (cutV w 19 15).setWidth 8 := (fA_y hi hf).trans (fl_15 w)
    have hB : fB w = 0 := (fB_y hi hf).trans (fl_z w 20)
    have hC : fC w = (cutV w 31 20).setWidth 16 := (fC_y hi hf).trans (cs_20 w)
    have hI := (iva_10 w).trans (fI_y hi hf).symm
    have c1 : CutIs w 31 25 (cutV w 31 25) := ⟨rfl⟩
    rcases (show j = 0 ∨ j = 1 ∨ j = 2 from by have h := hj; revert h; show j < 3 → _; omega) with rfl | rfl | rfl
    all_goals
      have c0 := CutIs.mk (cut_k 14 12 28672#32 hk (by decide) (by decide))
      have c2 := CutIs.mk (cut_k 6 0 127#32 hk (by decide) (by decide))
      repeat ((conv => whnf); first | refine sdO ?_ | refine nlO ?_ | refine goA ?_ | refine goB ?_ | (apply Exists.intro; (repeat apply Exists.intro); refine caO ?_) | (refine Or.inl ?_; (conv => whnf); (repeat apply Exists.intro); refine caO ?_) | (refine Or.inr ?_; (conv => whnf); first | ((repeat apply Exists.intro); refine caO ?_) | (refine Or.inl ?_; (conv => whnf); (repeat apply Exists.intro); refine caO ?_) | (refine Or.inr ?_; (conv => whnf); (repeat apply Exists.intro); refine caO ?_)) | refine And.intro (by assumption) ?_ | refine goT ?_ | refine goF ?_ | refine goL ?_ | refine goR ?_ | refine goRL ?_ | refine goRR ?_)
      all_goals try (conv => whnf)
      ((repeat' ((conv => whnf) <;> first | exact trivial | (with_reducible first | refine And.intro ?_ ?_ | refine rows_lt1 ?_ | refine rows_lt2 ?_ ?_ | refine rows_lt3 ?_ ?_ ?_ | refine rows_lt4 ?_ ?_ ?_ ?_ | refine rows_lt5 ?_ ?_ ?_ ?_ ?_ | refine aggs_lt1 ?_ | refine aggs_lt2 ?_ ?_ | refine aggs_lt3 ?_ ?_ ?_ | refine fun (_ : Nat) => ?_) | refine fun (_ : (_ : Nat) < _) => ?_ | exact rfl | exact Nat.le_of_ble_eq_true rfl | (change (_ : Nat) ≤ _; omega) | (change (_ : Nat) = _; omega) | (change (_ : Int) = _; omega))); (all_goals try (conv => whnf)))
    all_goals first | exact hop.symm | exact hR.symm | exact hA2.symm | exact hB.symm | exact hC.symm | exact hI
  · have hR : fR w = (cutV w 11 7).setWidth 8 := (fR_y hi hf).trans (fl_7 w)
    have hA2 : fA w = 0 := (fA_y hi hf).trans (fl_z w 15)
    have hB : fB w = 0 := (fB_y hi hf).trans (fl_z w 20)
    have hC : fC w = (cutV w 31 20).setWidth 16 := (fC_y hi hf).trans (cs_20 w)
    have hI := (iva_11 w).trans (fI_y hi hf).symm
    have c1 : CutIs w 31 25 (cutV w 31 25) := ⟨rfl⟩
    rcases (show j = 0 ∨ j = 1 ∨ j = 2 from by have h := hj; revert h; show j < 3 → _; omega) with rfl | rfl | rfl
    all_goals
      have c0 := CutIs.mk (cut_k 14 12 28672#32 hk (by decide) (by decide))
      have c2 := CutIs.mk (cut_k 6 0 127#32 hk (by decide) (by decide))
      repeat ((conv => whnf); first | refine sdO ?_ | refine nlO ?_ | refine goA ?_ | refine goB ?_ | (apply Exists.intro; (repeat apply Exists.intro); refine caO ?_) | (refine Or.inl ?_; (conv => whnf); (repeat apply Exists.intro); refine caO ?_) | (refine Or.inr ?_; (conv => whnf); first | ((repeat apply Exists.intro); refine caO ?_) | (refine Or.inl ?_; (conv => whnf); (repeat apply Exists.intro); refine caO ?_) | (refine Or.inr ?_; (conv => whnf); (repeat apply Exists.intro); refine caO ?_)) | refine And.intro (by assumption) ?_ | refine goT ?_ | refine goF ?_ | refine goL ?_ | refine goR ?_ | refine goRL ?_ | refine goRR ?_)
      all_goals try (conv => whnf)
      ((repeat' ((conv => whnf) <;> first | exact trivial | (with_reducible first | refine And.intro ?_ ?_ | refine rows_lt1 ?_ | refine rows_lt2 ?_ ?_ | refine rows_lt3 ?_ ?_ ?_ | refine rows_lt4 ?_ ?_ ?_ ?_ | refine rows_lt5 ?_ ?_ ?_ ?_ ?_ | refine aggs_lt1 ?_ | refine aggs_lt2 ?_ ?_ | refine aggs_lt3 ?_ ?_ ?_ | refine fun (_ : Nat) => ?_) | refine fun (_ : (_ : Nat) < _) => ?_ | exact rfl | exact Nat.le_of_ble_eq_true rfl | (change (_ : Nat) ≤ _; omega) | (change (_ : Nat) = _; omega) | (change (_ : Int) = _; omega))); (all_goals try (conv => whnf)))
    all_goals first | exact hop.symm | exact hR.symm | exact hA2.symm | exact hB.symm | exact hC.symm | exact hI
end Go.Proofs.YtonggppknpbhiaaDoor
