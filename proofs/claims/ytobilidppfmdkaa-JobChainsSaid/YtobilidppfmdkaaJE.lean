/- Jobs: the example; what is read has just these bytes. -/
import Derived.Test.YtobilidppfmdkaaJD
namespace Go.Proofs.Ytobilidppfmdkaa
open Go.RowKit
set_option maxRecDepth 100000
set_option maxHeartbeats 20000000
theorem w4_b (a b c d : BitVec 8) (j : Nat) (hj : j < 4) : (w4 a b c d >>> (24 - 8 * j)).setWidth 8 = nth 0 [a, b, c, d] j := by
  apply BitVec.eq_of_getLsbD_eq
  intro i hi
  have hi8 : i < 8 := hi
  unfold w4
  rcases four hj with rfl | rfl | rfl | rfl
  all_goals
    rcases (show i = 0 ∨ i = 1 ∨ i = 2 ∨ i = 3 ∨ i = 4 ∨ i = 5 ∨ i = 6 ∨ i = 7 by omega) with rfl | rfl | rfl | rfl | rfl | rfl | rfl | rfl <;> simp [nth]
/-- What is read has just these bytes. -/
theorem jF_read (b : Nat → BitVec 8) (h5 : wJ b 5 = BitVec.ofInt 32 0) (h6 : wJ b 6 = BitVec.ofInt 32 0) (x : Nat) (hx : x < 32) : jF (b 0) (b 1) (b 2) (b 3) (wJ b 1) (wJ b 2) (wJ b 3) (wJ b 4) (wJ b 7) x = b x := by
  by_cases h4 : x < 4
  · rw [jF_lo _ _ _ _ _ _ _ _ _ h4]
    rcases four h4 with rfl | rfl | rfl | rfl <;> rfl
  · obtain ⟨i, j, hi, hj, rfl⟩ : ∃ i j, i < 7 ∧ j < 4 ∧ x = 4 + 4 * i + j := ⟨(x - 4) / 4, (x - 4) % 4, by omega, by omega, by omega⟩
    rw [jF_hi _ _ _ _ _ _ _ _ _ i j hj]
    have e : jw (wJ b 1) (wJ b 2) (wJ b 3) (wJ b 4) (wJ b 7) i = wJ b (i + 1) := by
      rcases (show i = 0 ∨ i = 1 ∨ i = 2 ∨ i = 3 ∨ i = 4 ∨ i = 5 ∨ i = 6 by omega) with rfl | rfl | rfl | rfl | rfl | rfl | rfl
      · rfl
      · rfl
      · rfl
      · rfl
      · exact h5.symm
      · exact h6.symm
      · rfl
    rw [e]
    unfold wJ
    rw [w4_b _ _ _ _ j hj]
    rcases four hj with rfl | rfl | rfl | rfl <;> (show b _ = b _; congr 1; omega)
theorem jF_readL (b : Nat → BitVec 8) (h5 : wJ b 5 = BitVec.ofInt 32 0) (h6 : wJ b 6 = BitVec.ofInt 32 0) : lw 32 (jF (b 0) (b 1) (b 2) (b 3) (wJ b 1) (wJ b 2) (wJ b 3) (wJ b 4) (wJ b 7)) = lw 32 b := lw_eq.2 (jF_read b h5 h6)
attribute [local irreducible] w4 valN jE jeP hexL wJ
abbrev xJ : Nat → BitVec 8 := jF (BitVec.ofInt 8 1) 0 0 0 (BitVec.ofInt 32 536875008) (BitVec.ofInt 32 536875264) (BitVec.ofInt 32 5) 0 0
def C_l17_awake : SpecP := fun A K => A [] ∧ K (.bo true)
theorem g_l17_awake : Gd 6 (pureP ty C_l17_awake) := by
  refine goodP (E := PG [(8, pureP ty C_j_Bytes), (14, pureP ty C_j_Parse), (17, pureP ty C_r1_Hex)]) (pgOK ⟨g_j_Bytes, g_j_Parse, g_r1_Hex, trivial⟩) mixes Try.func6 (by kernel_rfl) (by kernel_rfl) ?_
  rintro A K ⟨hA, hK⟩
  refine ⟨_, _, fun _ => none, hA, hK, by kernel_rfl, trivial, ?_⟩
  have f1 : jForm 32 xJ := by decide +kernel
  have f2 : jeP xJ = 0 := by decide +kernel
  have f3 : wJ xJ 3 = BitVec.ofInt 32 5 := by decide +kernel
  have f4 : hexL (lw 16 xJ) = [48, 49, 48, 48, 48, 48, 48, 48, 50, 48, 48, 48, 49, 48, 48, 48, 50, 48, 48, 48, 49, 49, 48, 48, 48, 48, 48, 48, 48, 48, 48, 53] := by decide +kernel
  repeat (first | ((conv => whnf); refine And.intro ?_ ?_; exact sideOf) | ((conv => whnf); refine NilE.some ?_ ?_; exact sideOf) | ((conv => whnf); refine And.intro (fun _ => ?_) (fun h => nomatch (show true = false from h))) | ((conv => whnf); refine And.intro (fun h => nomatch (show false = true from h)) (fun _ => ?_)) | ((conv => whnf); first | (apply Exists.intro; (repeat apply Exists.intro); refine And.intro ?_ ?_; exact leOf) | (refine Or.inl ?_; (conv => whnf); (repeat apply Exists.intro); refine And.intro ?_ ?_; exact leOf) | (refine Or.inr ?_; (conv => whnf); first | ((repeat apply Exists.intro); refine And.intro ?_ ?_; exact leOf) | (refine Or.inl ?_; (conv => whnf); (repeat apply Exists.intro); refine And.intro ?_ ?_; exact leOf) | (refine Or.inr ?_; (conv => whnf); (repeat apply Exists.intro); refine And.intro ?_ ?_; exact leOf))) | ((conv => whnf); first | refine And.intro (by assumption) ?_ | refine goT ?_ | refine goF ?_ | refine goL ?_ | refine goR ?_ | refine goRL ?_ | refine goRR ?_))
  all_goals try (conv => whnf)
  exact decide_eq_true ((congrArg (fun g => hexL (lw 16 g)) (funext fun x => congrArg xJ (Nat.zero_add x))).trans f4)
end Go.Proofs.Ytobilidppfmdkaa
