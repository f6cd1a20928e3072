/- The reference's instruction of a word. -/
import Derived.Test.YtonggppknpbhiaaDoorRM
namespace Go.Proofs.YtonggppknpbhiaaDoor
open Go.RowKit
set_option maxRecDepth 100000
set_option maxHeartbeats 20000000
theorem lk_some {w : BitVec 32} (h : isV w = true) : ∃ j, j < tn (fmtN w) ∧ kyW w = tk (fmtN w) j := by
  by_cases hq : ∃ j, j < tn (fmtN w) ∧ kyW w = tk (fmtN w) j
  · exact hq
  · have hl := lk_miss (f := fmtN w) (k := kyW w) fun i hi he => hq ⟨i, hi, he⟩
    unfold isV at h
    rw [hl] at h; cases h
theorem op_some {w : BitVec 32} {j : Nat} (hj : j < tn (fmtN w)) (he : kyW w = tk (fmtN w) j) : opV w = tv (fmtN w) j := by
  have hl := lk_hit (fmtN w) (fmtN_lt w) j hj
  rw [← he] at hl
  unfold opV
  rw [hl]; rfl
theorem fR_y {w : BitVec 32} (h : isV w = true) {f : Nat} (hf : fmtN w = f) : fR w = fldV w (lf f 1) 7 := by unfold fR; rw [h, hf]; rfl
theorem fA_y {w : BitVec 32} (h : isV w = true) {f : Nat} (hf : fmtN w = f) : fA w = fldV w (lf f 2) 15 := by unfold fA; rw [h, hf]; rfl
theorem fB_y {w : BitVec 32} (h : isV w = true) {f : Nat} (hf : fmtN w = f) : fB w = fldV w (lf f 3) 20 := by unfold fB; rw [h, hf]; rfl
theorem fI_y {w : BitVec 32} (h : isV w = true) {f : Nat} (hf : fmtN w = f) : fI w = imV w (lat f) (lto f) (lsz f) (lsg f) := by unfold fI; rw [h, hf]; rfl
theorem fC_y {w : BitVec 32} (h : isV w = true) {f : Nat} (hf : fmtN w = f) : fC w = csrV w (lf f 4) := by unfold fC; rw [h, hf]; rfl
end Go.Proofs.YtonggppknpbhiaaDoor
