/- The reference's instruction of a word: of registers. -/
import Derived.Test.YtonggppknpbhiaaDoorRN
namespace Go.Proofs.YtonggppknpbhiaaDoor
open Go.RowKit
set_option maxRecDepth 100000
set_option maxHeartbeats 20000000
attribute [local irreducible] cutV extV opV fR fA fB fI fC isV alV imV
def C_r19_Dec7 : SpecP := fun A K => ∃ w : BitVec 32, A [.u32 w] ∧ (isV w = true ∧ fmtN w = 7) ∧ K (dcA w)
theorem g_r19_Dec7 : Gd 9 (pureP ty C_r19_Dec7) := by
  refine goodP (E := PG [(18, pureP ty C_r19_cut), (19, pureP ty C_r19_extend), (20, pureP ty C_r19_at), (21, pureP ty C_r19_alone)]) (pgOK ⟨g_r19_cut, g_r19_extend, g_r19_at, g_r19_alone, trivial⟩) mixes Tryd.func9 (by kernel_rfl) (by kernel_rfl) ?_
  rintro A K ⟨w, hA, ⟨hi, hcd⟩, hK⟩
  refine ⟨_, _, fun _ => none, hA, hK, by kernel_rfl, own_ins, ?_⟩
  obtain ⟨j, hj, hk⟩ := lk_some hi
  have hop := op_some hj hk
  have hlt := fmtN_lt w
  have x12 : ExtIs (cutV w 31 20) 12 := ⟨.inl rfl, cut_lt w 31 20 12 rfl (by decide)⟩
  have k0 : CutIs w 11 7 (cutV w 11 7) := ⟨rfl⟩
  have k1 : CutIs w 19 15 (cutV w 19 15) := ⟨rfl⟩
  have k2 : CutIs w 24 20 (cutV w 24 20) := ⟨rfl⟩
  have k3 : CutIs w 31 20 (cutV w 31 20) := ⟨rfl⟩
  have n4096 : BitVec.ofInt 32 4096 ≠ 0 := by decide
  unfold kyW at hk
  generalize hf : fmtN w = f at *
  obtain rfl : f = 7 := hcd
  · have hR : fR w = (cutV w 11 7).setWidth 8 := (fR_y hi hf).trans (fl_7 w)
    have hA2 : fA w = (cutV w 19 15).setWidth 8 := (fA_y hi hf).trans (fl_15 w)
    have hB : fB w = (cutV w 24 20).setWidth 8 := (fB_y hi hf).trans (fl_20 w)
    have hC : fC w = 0 := (fC_y hi hf).trans (cs_z w)
    have hI := (iva_7 w).trans (fI_y hi hf).symm
    rcases (show j = 0 ∨ j = 1 ∨ j = 2 ∨ j = 3 ∨ j = 4 ∨ j = 5 ∨ j = 6 ∨ j = 7 ∨ j = 8 ∨ j = 9 ∨ j = 10 ∨ j = 11 ∨ j = 12 ∨ j = 13 ∨ j = 14 ∨ j = 15 ∨ j = 16 ∨ j = 17 from by have h := hj; revert h; show j < 18 → _; omega) with rfl | rfl | rfl | rfl | rfl | rfl | rfl | rfl | rfl | rfl | rfl | rfl | rfl | rfl | rfl | rfl | rfl | rfl
    all_goals
      have c0 := CutIs.mk (cut_k 14 12 28672#32 hk (by decide) (by decide))
      have c1 := CutIs.mk (cut_k 31 25 4261412864#32 hk (by decide) (by decide))
      have c2 := CutIs.mk (cut_k 6 0 127#32 hk (by decide) (by decide))
      repeat ((conv => whnf); first | refine sdO ?_ | refine nlO ?_ | refine goA ?_ | refine goB ?_ | (apply Exists.intro; (repeat apply Exists.intro); refine caO ?_) | (refine Or.inl ?_; (conv => whnf); (repeat apply Exists.intro); refine caO ?_) | (refine Or.inr ?_; (conv => whnf); first | ((repeat apply Exists.intro); refine caO ?_) | (refine Or.inl ?_; (conv => whnf); (repeat apply Exists.intro); refine caO ?_) | (refine Or.inr ?_; (conv => whnf); (repeat apply Exists.intro); refine caO ?_)) | refine And.intro (by assumption) ?_ | refine goT ?_ | refine goF ?_ | refine goL ?_ | refine goR ?_ | refine goRL ?_ | refine goRR ?_)
      all_goals try (conv => whnf)
      ((repeat' ((conv => whnf) <;> first | exact trivial | (with_reducible first | refine And.intro ?_ ?_ | refine rows_lt1 ?_ | refine rows_lt2 ?_ ?_ | refine rows_lt3 ?_ ?_ ?_ | refine rows_lt4 ?_ ?_ ?_ ?_ | refine rows_lt5 ?_ ?_ ?_ ?_ ?_ | refine aggs_lt1 ?_ | refine aggs_lt2 ?_ ?_ | refine aggs_lt3 ?_ ?_ ?_ | refine fun (_ : Nat) => ?_) | refine fun (_ : (_ : Nat) < _) => ?_ | exact rfl | exact Nat.le_of_ble_eq_true rfl | (change (_ : Nat) ≤ _; omega) | (change (_ : Nat) = _; omega) | (change (_ : Int) = _; omega))); (all_goals try (conv => whnf)))
    all_goals first | exact hop.symm | exact hR.symm | exact hA2.symm | exact hB.symm | exact hC.symm | exact hI
end Go.Proofs.YtonggppknpbhiaaDoor
