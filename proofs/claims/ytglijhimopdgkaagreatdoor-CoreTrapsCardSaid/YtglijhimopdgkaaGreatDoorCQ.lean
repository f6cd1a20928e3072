/- The core: the words of the programs that the laws lay. -/
import Derived.Test.YtglijhimopdgkaaGreatDoorCP
import Derived.Test.YtglijhimopdgkaaGreatDoorRJ
namespace Go.Proofs.YtglijhimopdgkaaGreatDoor
open Go.RowKit
set_option maxRecDepth 100000
set_option maxHeartbeats 20000000
theorem en_wd {o r x y : BitVec 8} {i : BitVec 32} {c : BitVec 16} (h : isV (wdV o r x y i c) = true ∧ opV (wdV o r x y i c) = o ∧ fR (wdV o r x y i c) = r ∧ fA (wdV o r x y i c) = x ∧ fB (wdV o r x y i c) = y ∧ fI (wdV o r x y i c) = i ∧ fC (wdV o r x y i c) = c) : enW o r x y i c = wdV o r x y i c := by
  obtain ⟨h0, h1, h2, h3, h4, h5, h6⟩ := h
  have e : enO o r x y i c = true := by
    unfold enO
    rw [h0]
    show eqB (insA (opV (wdV o r x y i c)) (fR (wdV o r x y i c)) (fA (wdV o r x y i c)) (fB (wdV o r x y i c)) (fI (wdV o r x y i c)) (fC (wdV o r x y i c))) _ = true
    rw [h1, h2, h3, h4, h5, h6]
    exact eqB_agg (six rfl rfl rfl rfl rfl rfl)
  unfold enW
  rw [e]
  rfl
abbrev insR (o r x y : BitVec 8) (i : BitVec 32) : Prop := isV (wdV o r x y i 0) = true ∧ opV (wdV o r x y i 0) = o ∧ fR (wdV o r x y i 0) = r ∧ fA (wdV o r x y i 0) = x ∧ fB (wdV o r x y i 0) = y ∧ fI (wdV o r x y i 0) = i ∧ fC (wdV o r x y i 0) = 0
theorem in_mret : insR (BitVec.ofInt 8 41) 0 0 0 0 := by decide +kernel
end Go.Proofs.YtglijhimopdgkaaGreatDoor
