/- The example; what is locked. -/
import Derived.Test.YtbpkmlakfdaooaaDoorR5
namespace Go.Proofs.YtbpkmlakfdaooaaDoor
open Go.RowKit
set_option maxRecDepth 100000
set_option maxHeartbeats 20000000
def C_l14_awake : SpecP := fun A K => A [] ∧ K (.bo true)
theorem g_l14_awake : Gd 7 (pureP ty C_l14_awake) := by
  refine goodP (E := PG [(11, pureP ty C_g_Where), (8, pureP ty C_g_Check)]) (pgOK ⟨g_g_Where, g_g_Check, trivial⟩) mixes Tryd.func7 (by kernel_rfl) (by kernel_rfl) ?_
  rintro A K ⟨hA, hK⟩
  refine ⟨_, _, fun _ => none, hA, hK, by kernel_rfl, trivial, ?_⟩
  have h1 : whi (BitVec.ofInt 32 536870916).toNat = Int.toNat 1 := by decide +kernel
  have h2 : who (BitVec.ofInt 32 536870916).toNat = Int.toNat 4 := by decide +kernel
  have h3 : (ck ((Int.toNat 1 : Nat) : Int) ((Int.toNat 1 : Nat) : Int) (BitVec.ofInt 32 536870916).toNat ((Int.toNat 4 : Nat) : Int) true false).2.2 = Int.toNat 8 := by decide +kernel
  have h4 : (ck ((Int.toNat 1 : Nat) : Int) ((Int.toNat 1 : Nat) : Int) (BitVec.ofInt 32 536870916).toNat ((Int.toNat 4 : Nat) : Int) false true).2.2 = Int.toNat 0 := by decide +kernel
  repeat (first | ((conv => whnf); refine And.intro ?_ ?_; exact sideOf) | ((conv => whnf); refine NilE.some ?_ ?_; exact sideOf) | ((conv => whnf); refine And.intro (fun _ => ?_) (fun h => nomatch (show true = false from h))) | ((conv => whnf); refine And.intro (fun h => nomatch (show false = true from h)) (fun _ => ?_)) | ((conv => whnf); first | (apply Exists.intro; (repeat apply Exists.intro); refine And.intro ?_ ?_; exact leOf) | (refine Or.inl ?_; (conv => whnf); (repeat apply Exists.intro); refine And.intro ?_ ?_; exact leOf) | (refine Or.inr ?_; (conv => whnf); first | ((repeat apply Exists.intro); refine And.intro ?_ ?_; exact leOf) | (refine Or.inl ?_; (conv => whnf); (repeat apply Exists.intro); refine And.intro ?_ ?_; exact leOf) | (refine Or.inr ?_; (conv => whnf); (repeat apply Exists.intro); refine And.intro ?_ ?_; exact leOf))) | ((conv => whnf); first | refine And.intro (by assumption) ?_ | refine goT ?_ | refine goF ?_ | refine goL ?_ | refine goR ?_ | refine goRL ?_ | refine goRR ?_))
  all_goals try (conv => whnf)
  exact decide_eq_true h4
theorem ck_ok {w s : Int} {n : Nat} {z : Int} {wr fe : Bool} (h : (ck w s n z wr fe).2.2 = 0) : (0 ≤ w ∧ w ≤ 3) ∧ (0 ≤ s ∧ s ≤ 2) ∧ (wr && fe) = false ∧ (1 ≤ whi n ∧ whi n ≤ 5) ∧ ¬ den w s (whi n) wr fe ∧ ck w s n z wr fe = (whi n, who n, 0) := by
  unfold ck at h ⊢
  by_cases h1 : malB w s z wr fe = true
  · rw [if_pos h1] at h; cases h
  rw [if_neg h1] at h ⊢
  have h1 : malB w s z wr fe = false := by cases h : malB w s z wr fe <;> first | rfl | exact absurd h h1
  obtain ⟨⟨a1, a2, a3, a4, _⟩, a5⟩ := mal_no h1
  by_cases h2 : ¬ n % z.toNat = 0
  · rw [if_pos h2] at h; cases h
  rw [if_neg h2] at h ⊢
  by_cases h3 : whi n = 0
  · rw [if_pos h3] at h; cases h
  rw [if_neg h3] at h ⊢
  by_cases h4 : den w s (whi n) wr fe
  · rw [if_pos h4] at h; cases h
  rw [if_neg h4]
  have := (whi_in h3).2
  exact ⟨⟨a1, a2⟩, ⟨a3, a4⟩, a5, by omega, h4, rfl⟩
theorem ck_no {w s : Int} {n : Nat} {z : Int} {wr fe : Bool} (h : ¬ (ck w s n z wr fe).2.2 = 0) : (ck w s n z wr fe).1 = 0 ∧ (ck w s n z wr fe).2.1 = 0 := by
  unfold ck at h ⊢
  by_cases h1 : malB w s z wr fe = true
  · rw [if_pos h1]; exact ⟨rfl, rfl⟩
  rw [if_neg h1] at h ⊢
  by_cases h2 : ¬ n % z.toNat = 0
  · rw [if_pos h2]; exact ⟨rfl, rfl⟩
  rw [if_neg h2] at h ⊢
  by_cases h3 : whi n = 0
  · rw [if_pos h3]; exact ⟨rfl, rfl⟩
  rw [if_neg h3] at h ⊢
  by_cases h4 : den w s (whi n) wr fe
  · rw [if_pos h4]; exact ⟨rfl, rfl⟩
  rw [if_neg h4] at h
  exact absurd rfl h
end Go.Proofs.YtbpkmlakfdaooaaDoor
