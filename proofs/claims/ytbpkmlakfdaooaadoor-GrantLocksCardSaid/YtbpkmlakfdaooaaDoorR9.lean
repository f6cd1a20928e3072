/- What is locked before the hand-off, and behind it. -/
import Derived.Test.YtbpkmlakfdaooaaDoorR8
namespace Go.Proofs.YtbpkmlakfdaooaaDoor
open Go.RowKit
set_option maxRecDepth 100000
set_option maxHeartbeats 20000000
def C_l14_GrantLocks : SpecP := fun A K => ∃ w s a z wr fe, A [acA w s a z wr fe] ∧ K (.bo true)
theorem g_l14_GrantLocks : Gd 5 (pureP ty C_l14_GrantLocks) := by
  refine goodP (E := PG [(7, pureP ty C_l14_awake), (8, pureP ty C_g_Check)]) (pgOK ⟨g_l14_awake, g_g_Check, trivial⟩) mixes Tryd.func5 (by kernel_rfl) (by kernel_rfl) ?_
  rintro A K ⟨w, s, a, z, wr, fe, hA, hK⟩
  refine ⟨_, _, fun _ => none, hA, hK, by kernel_rfl, trivial, ?_⟩
  by_cases h0 : (ck w s a.toNat z wr fe).2.2 = 0
  · obtain ⟨⟨w1, w2⟩, ⟨s1, s2⟩, hb, ⟨q1, q2⟩, hd, hck⟩ := ck_ok h0
    have hq : (ck w s a.toNat z wr fe).1 = whi a.toNat := by rw [hck]
    have h0' : ¬ ¬ (ck w s a.toNat z wr fe).2.2 = Int.toNat 0 := fun h => h h0
    clear hck
    generalize whi a.toNat = q at hq hd q1 q2
    repeat (first | ((conv => whnf); refine And.intro ?_ ?_; exact sideOf) | ((conv => whnf); refine NilE.some ?_ ?_; exact sideOf) | ((conv => whnf); refine And.intro (fun _ => ?_) (fun h => nomatch (show true = false from h))) | ((conv => whnf); refine And.intro (fun h => nomatch (show false = true from h)) (fun _ => ?_)) | ((conv => whnf); first | (apply Exists.intro; (repeat apply Exists.intro); refine And.intro ?_ ?_; exact leOf) | (refine Or.inl ?_; (conv => whnf); (repeat apply Exists.intro); refine And.intro ?_ ?_; exact leOf) | (refine Or.inr ?_; (conv => whnf); first | ((repeat apply Exists.intro); refine And.intro ?_ ?_; exact leOf) | (refine Or.inl ?_; (conv => whnf); (repeat apply Exists.intro); refine And.intro ?_ ?_; exact leOf) | (refine Or.inr ?_; (conv => whnf); (repeat apply Exists.intro); refine And.intro ?_ ?_; exact leOf))) | ((conv => whnf); first | refine And.intro (by assumption) ?_ | refine goT ?_ | refine goF ?_ | refine goL ?_ | refine goR ?_ | refine goRL ?_ | refine goRR ?_))
    all_goals try (conv => whnf)
    cases fe <;> cases wr
    all_goals first | (exact absurd hb (by decide)) | skip
    all_goals rcases (show w = 0 ∨ w = 1 ∨ w = 2 ∨ w = 3 by omega) with rfl | rfl | rfl | rfl
    all_goals rcases (show s = 0 ∨ s = 1 ∨ s = 2 by omega) with rfl | rfl | rfl
    all_goals rcases (show q = 1 ∨ q = 2 ∨ q = 3 ∨ q = 4 ∨ q = 5 by omega) with rfl | rfl | rfl | rfl | rfl
    all_goals first | (exfalso; exact hd (by decide)) | skip
    all_goals (
      repeat (first | ((conv => whnf); refine And.intro ?_ ?_; exact sideOf) | ((conv => whnf); refine NilE.some ?_ ?_; exact sideOf) | ((conv => whnf); refine And.intro (fun _ => ?_) (fun h => nomatch (show true = false from h))) | ((conv => whnf); refine And.intro (fun h => nomatch (show false = true from h)) (fun _ => ?_)) | ((conv => whnf); first | (apply Exists.intro; (repeat apply Exists.intro); refine And.intro ?_ ?_; exact leOf) | (refine Or.inl ?_; (conv => whnf); (repeat apply Exists.intro); refine And.intro ?_ ?_; exact leOf) | (refine Or.inr ?_; (conv => whnf); first | ((repeat apply Exists.intro); refine And.intro ?_ ?_; exact leOf) | (refine Or.inl ?_; (conv => whnf); (repeat apply Exists.intro); refine And.intro ?_ ?_; exact leOf) | (refine Or.inr ?_; (conv => whnf); (repeat apply Exists.intro); refine And.intro ?_ ?_; exact leOf))) | ((conv => whnf); first | refine And.intro (by assumption) ?_ | refine goT ?_ | refine goF ?_ | refine goL ?_ | refine goR ?_ | refine goRL ?_ | refine goRR ?_))
      all_goals try (conv => whnf)
      try (exact rfl))
  · obtain ⟨e1, _⟩ := ck_no h0
    repeat (first | ((conv => whnf); refine And.intro ?_ ?_; exact sideOf) | ((conv => whnf); refine NilE.some ?_ ?_; exact sideOf) | ((conv => whnf); refine And.intro (fun _ => ?_) (fun h => nomatch (show true = false from h))) | ((conv => whnf); refine And.intro (fun h => nomatch (show false = true from h)) (fun _ => ?_)) | ((conv => whnf); first | (apply Exists.intro; (repeat apply Exists.intro); refine And.intro ?_ ?_; exact leOf) | (refine Or.inl ?_; (conv => whnf); (repeat apply Exists.intro); refine And.intro ?_ ?_; exact leOf) | (refine Or.inr ?_; (conv => whnf); first | ((repeat apply Exists.intro); refine And.intro ?_ ?_; exact leOf) | (refine Or.inl ?_; (conv => whnf); (repeat apply Exists.intro); refine And.intro ?_ ?_; exact leOf) | (refine Or.inr ?_; (conv => whnf); (repeat apply Exists.intro); refine And.intro ?_ ?_; exact leOf))) | ((conv => whnf); first | refine And.intro (by assumption) ?_ | refine goT ?_ | refine goF ?_ | refine goL ?_ | refine goR ?_ | refine goRL ?_ | refine goRR ?_))
    all_goals try (conv => whnf)
    exact decide_eq_true e1
end Go.Proofs.YtbpkmlakfdaooaaDoor
