/- The core: BNE and EBREAK, and what is fetched further on: mathematics for CoreAdds. -/
import Derived.Test.YtglijhimopdgkaaGreatDoorCR
namespace Go.Proofs.YtglijhimopdgkaaGreatDoor
open Go.RowKit
set_option maxRecDepth 100000
set_option maxHeartbeats 20000000
theorem in_bne : insR (BitVec.ofInt 8 6) 0 1 0 (BitVec.ofInt 32 4294967288) := by decide +kernel
attribute [local irreducible] wdV opV fR fA fB fI fC isV
theorem code_k : ∀ k, k < 5 → ftK 1 (BitVec.ofNat 32 (536870912 + 4 * k)) = (1, 4 * k, 0) := by
  intro k hk
  rcases (show k = 0 ∨ k = 1 ∨ k = 2 ∨ k = 3 ∨ k = 4 by omega) with rfl | rfl | rfl | rfl | rfl
  all_goals (unfold ftK fdk ck; decide)
theorem fw_codek {ra po m : Nat → BitVec 8} {w : Nat → BitVec 32} {k : Nat} (hk : k < 5) : fwV 1 ⟨ra, po⟩ m w (BitVec.ofNat 32 (536870912 + 4 * k)) = ftW fun j => ra (4 * k + j) := by
  unfold fwV
  rw [code_k k hk]
  show ftW (fun j => rdF 1 ra po m w (4 * k + j)) = _
  congr 1
theorem ex_bne {st : Nat} {me : MeS} {m : Nat → BitVec 8} {w : Nat → BitVec 32} {s : CoS} {i : InS} {wd : BitVec 32} (h : i.o = BitVec.ofInt 8 6) :
    exO st me m w s i wd = braO s i ∧ exM st me s i = me ∧ wrtB i = false := by
  refine ⟨?_, ?_, ?_⟩
  · unfold exO
    rw [if_neg (by rw [h]; decide), if_neg (by rw [h]; decide), if_neg (by rw [h]; decide), if_neg (by rw [h]; decide), if_pos (by rw [h]; decide)]
  · unfold exM
    rw [if_neg (by rw [h]; decide)]
  · unfold wrtB
    rw [if_neg (by rw [h]; decide), if_neg (by rw [h]; decide), if_neg (by rw [h]; decide)]
theorem ex_ebreak {st : Nat} {me : MeS} {m : Nat → BitVec 8} {w : Nat → BitVec 32} {s : CoS} {i : InS} {wd : BitVec 32} (h : i.o = BitVec.ofInt 8 40) :
    exO st me m w s i wd = trapO s (BitVec.ofInt 32 3) s.pc ∧ exM st me s i = me := by
  refine ⟨?_, ?_⟩
  · unfold exO
    rw [if_neg (by rw [h]; decide), if_neg (by rw [h]; decide), if_neg (by rw [h]; decide), if_neg (by rw [h]; decide), if_neg (by rw [h]; decide), if_neg (by rw [h]; decide), if_neg (by rw [h]; decide), if_neg (by rw [h]; decide), if_neg (by rw [h]; decide), if_pos h]
  · unfold exM
    rw [if_neg (by rw [h]; decide)]
end Go.Proofs.YtglijhimopdgkaaGreatDoor
