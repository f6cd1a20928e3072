/- The core: the words of the programs that the laws lay. -/
import Derived.Test.YtglijhimopdgkaaGreatDoorCP
import Derived.Test.YtglijhimopdgkaaGreatDoorRJ
namespace Go.Proofs.YtglijhimopdgkaaGreatDoor
open Go.RowKit
set_option maxRecDepth 100000
set_option maxHeartbeats 20000000
theorem en_wd {o r x y : BitVec 8} {i : BitVec 32} {c : BitVec 16} (h : isV (wdV o r x y i c) = true ∧ opV (wdV o r x y i c) = o ∧ fR (wdV o r x y i c) = r ∧ fA (wdV o r x y i c) = x ∧ fB (wdV o r x y i c) = y ∧ fI (wdV o r x y i c) = i ∧ fC (wdV o r x y i c) = c) : enW o r x y i c = wdV o r x y i c := by
  obtain ⟨h0, h1, h2, h3, h4, h5, h6⟩ := h
  have e : enO o r x y i c = true := by
    unfold enO
    rw [h0]
    show eqB (insA (opV (wdV o r x y i c)) (fR (wdV o r x y i c)) (fA (wdV o r x y i c)) (fB (wdV o r x y i c)) (fI (wdV o r x y i c)) (fC (wdV o r x y i c))) _ = true
    rw [h1, h2, h3, h4, h5, h6]
    exact eqB_agg (six rfl rfl rfl rfl rfl rfl)
  unfold enW
  rw [e]
  rfl
theorem all8 {p : BitVec 8 → Prop} (h : ∀ n, n < 256 → p (BitVec.ofNat 8 n)) (m : BitVec 8) : p m := by
  have e := h m.toNat m.isLt
  rwa [BitVec.ofNat_toNat, BitVec.setWidth_eq] at e
abbrev insR (o r x y : BitVec 8) (i : BitVec 32) : Prop := isV (wdV o r x y i 0) = true ∧ opV (wdV o r x y i 0) = o ∧ fR (wdV o r x y i 0) = r ∧ fA (wdV o r x y i 0) = x ∧ fB (wdV o r x y i 0) = y ∧ fI (wdV o r x y i 0) = i ∧ fC (wdV o r x y i 0) = 0
theorem in_ebreak : insR (BitVec.ofInt 8 40) 0 0 0 0 := by decide +kernel
theorem in_addi1 : ∀ m : BitVec 8, insR (BitVec.ofInt 8 19) 1 0 0 (m.setWidth 32) := all8 (by decide +kernel)
theorem in_addi2 : ∀ m : BitVec 8, insR (BitVec.ofInt 8 19) 2 2 0 (m.setWidth 32) := all8 (by decide +kernel)
theorem in_down : insR (BitVec.ofInt 8 19) 1 1 0 (BitVec.ofInt 32 4294967295) := by decide +kernel
end Go.Proofs.YtglijhimopdgkaaGreatDoor
