/- lms: what is verified; the reference's heights, nodes and the climb. -/
import Derived.Test.YtnfebaialdfffaaDoorQ4
namespace Go.Proofs.YtnfebaialdfffaaDoor
open Go.RowKit
set_option maxRecDepth 100000
set_option maxHeartbeats 20000000
attribute [local irreducible] hsh rst sha256 press dig valN mash fold digs ch tw tp tlS cf ckN dgT pubE upTo sgV sigB mashD clE mixA clK pubK st1 at8 hgN w4
/-! ### Verify -/
def C_HasSuffix : SpecP := fun A K => ∃ l b m c, A [bsl l b, bsl m c] ∧ (m ≤ l ∧ l ≤ 1000000) ∧ K (.bo (decide (lw m (fun j => b (l - m + j)) = lw m c)))
theorem g_HasSuffix : Gd 41 (pureP ty C_HasSuffix) := by
  refine goodP (E := PG [(39, pureP ty C_bytes_Equal)]) (pgOK ⟨g_bytes_Equal, trivial⟩) mixes Tryd.func41 (by kernel_rfl) (by kernel_rfl) ?_
  rintro A K ⟨l, b, m, c, hA, ⟨hm, hl⟩, hK⟩
  refine ⟨_, _, fun _ => none, hA, hK, by kernel_rfl, trivial, ?_⟩
  repeat ((conv => whnf); first | refine sdO ?_ | refine nlO ?_ | refine goA ?_ | refine goB ?_ | (apply Exists.intro; (repeat apply Exists.intro); refine caO ?_) | (refine Or.inl ?_; (conv => whnf); (repeat apply Exists.intro); refine caO ?_) | (refine Or.inr ?_; (conv => whnf); first | ((repeat apply Exists.intro); refine caO ?_) | (refine Or.inl ?_; (conv => whnf); (repeat apply Exists.intro); refine caO ?_) | (refine Or.inr ?_; (conv => whnf); (repeat apply Exists.intro); refine caO ?_)) | refine And.intro (by assumption) ?_ | refine goT ?_ | refine goF ?_ | refine goL ?_ | refine goR ?_ | refine goRL ?_ | refine goRR ?_)
  all_goals try (conv => whnf)
  ((repeat' ((conv => whnf) <;> first | exact trivial | (with_reducible first | refine And.intro ?_ ?_ | refine rows_lt1 ?_ | refine rows_lt2 ?_ ?_ | refine rows_lt3 ?_ ?_ ?_ | refine rows_lt4 ?_ ?_ ?_ ?_ | refine rows_lt5 ?_ ?_ ?_ ?_ ?_ | refine aggs_lt1 ?_ | refine aggs_lt2 ?_ ?_ | refine aggs_lt3 ?_ ?_ ?_ | refine fun (_ : Nat) => ?_) | refine fun (_ : (_ : Nat) < _) => ?_ | exact rfl | exact Nat.le_of_ble_eq_true rfl | (change (_ : Nat) ≤ _; omega) | (change (_ : Nat) = _; omega) | (change (_ : Int) = _; omega))); (all_goals try (conv => whnf)))
  rw [show ((l : Int) - (m : Int)).toNat = l - m by omega, show l - (l - m) = m by omega]
/-- What the root's way tells: 0, or the error. -/
def roE (lp : Nat) (pub : Nat → BitVec 8) (l : Nat) (b : Nat → BitVec 8) : Nat :=
  if ¬ lp = 56 then 2 else if ¬ pbOK pub then 6 else if ¬ paE l b = 0 then paE l b else if ¬ trT b = lfQ pub then 6 else if ¬ sgT b = sgT pub then 6 else 0
theorem roE_0 {lp : Nat} {pub : Nat → BitVec 8} {l : Nat} {b : Nat → BitVec 8} (h : roE lp pub l b = 0) : lp = 56 ∧ pbOK pub ∧ paE l b = 0 ∧ trT b = lfQ pub ∧ sgT b = sgT pub := by
  unfold roE at h
  split at h
  · cases h
  split at h
  · cases h
  split at h
  · rename_i q; exact absurd h q
  split at h
  · cases h
  split at h
  · cases h
  · rename_i h1 h2 h3 h4 h5
    exact ⟨Decidable.of_not_not h1, Decidable.of_not_not h2, Decidable.of_not_not h3, Decidable.of_not_not h4, Decidable.of_not_not h5⟩
attribute [local irreducible] roV
def C_lms_RootF : SpecP := fun A K => ∃ lp pub lm m l b, A [bsl lp pub, bsl lm m, bsl l b] ∧ lm ≤ 1000000000 ∧ ((¬ roE lp pub l b = 0 ∧ K (tupOf [dgZ, .nat (roE lp pub l b)])) ∨ (roE lp pub l b = 0 ∧ K (tupOf [arr8 32 (at8 (roV pub lm m b)), .nat 0])))
theorem g_lms_RootF : Gd 40 (pureP ty C_lms_RootF) := good_imp g_lms_RootX fun args m key K ⟨lp, pub, lm, m', l, b, hA, hm, h⟩ => by
  refine ⟨lp, pub, lm, m', l, b, hA, hm, ?_⟩
  rcases h with ⟨h0, hK⟩ | ⟨h0, hK⟩
  · unfold roE at h0 hK
    by_cases h1 : lp = 56
    · rw [if_neg (fun h => h h1)] at h0 hK
      by_cases h2 : pbOK pub
      · rw [if_neg (fun h => h h2)] at h0 hK
        refine .inr (.inr ⟨h2, h1, ?_⟩)
        by_cases h3 : paE l b = 0
        · rw [if_neg (fun h => h h3)] at h0 hK
          refine .inr ⟨h3, ?_⟩
          by_cases h4 : trT b = lfQ pub
          · rw [if_neg (fun h => h h4)] at h0 hK
            refine .inr ⟨h4, ?_⟩
            by_cases h5 : sgT b = sgT pub
            · rw [if_neg (fun h => h h5)] at h0; exact absurd rfl h0
            · rw [if_pos h5] at hK; exact .inl ⟨h5, hK⟩
          · rw [if_pos h4] at hK; exact .inl ⟨h4, hK⟩
        · rw [if_pos h3] at hK; exact .inl ⟨h3, hK⟩
      · rw [if_pos h2] at hK; exact .inr (.inl ⟨h2, h1, hK⟩)
    · rw [if_pos h1] at hK; exact .inl ⟨h1, hK⟩
  · obtain ⟨h1, h2, h3, h4, h5⟩ := roE_0 h0
    exact .inr (.inr ⟨h2, h1, .inr ⟨h3, .inr ⟨h4, .inr ⟨h5, hK⟩⟩⟩⟩)
attribute [irreducible] roE
def rtEq (pub : Nat → BitVec 8) (lm : Nat) (m : Nat → BitVec 8) (b : Nat → BitVec 8) : Prop := lw 32 (fun j => pub (24 + j)) = lw 32 (at8 (roV pub lm m b))
instance (pub : Nat → BitVec 8) (lm : Nat) (m : Nat → BitVec 8) (b : Nat → BitVec 8) : Decidable (rtEq pub lm m b) := inferInstanceAs (Decidable (_ = _))
def C_lms_VerifyF : SpecP := fun A K => ∃ lp pub lm m l b, A [bsl lp pub, bsl lm m, bsl l b] ∧ lm ≤ 1000000000 ∧ ((¬ roE lp pub l b = 0 ∧ K (.nat (roE lp pub l b))) ∨ (roE lp pub l b = 0 ∧ ((rtEq pub lm m b ∧ K (.nat 0)) ∨ (¬ rtEq pub lm m b ∧ K (.nat 5)))))
theorem rt_dec {pub : Nat → BitVec 8} {lm : Nat} {m b : Nat → BitVec 8} : decide (lw (32 - 0) (fun j => pub (56 - (32 - 0) + j)) = lw (32 - 0) (fun x => at8 (roV pub lm m b) (0 + x))) = decide (rtEq pub lm m b) := by
  unfold rtEq
  rw [show (fun x => at8 (roV pub lm m b) (0 + x)) = at8 (roV pub lm m b) from funext fun x => congrArg _ (Nat.zero_add x)]
  exact rfl
theorem g_lms_VerifyF : Gd 19 (pureP ty C_lms_VerifyF) := by
  refine goodP (E := PG [(40, pureP ty C_lms_RootF), (41, pureP ty C_HasSuffix)]) (pgOK ⟨g_lms_RootF, g_HasSuffix, trivial⟩) mixes Tryd.func19 (by kernel_rfl) (by kernel_rfl) ?_
  rintro A K ⟨lp, pub, lm, m, l, b, hA, hm, ⟨h0, hK⟩ | ⟨h0, ⟨h1, hK⟩ | ⟨h1, hK⟩⟩⟩
  · refine ⟨_, _, fun _ => none, hA, hK, by kernel_rfl, trivial, ?_⟩
    repeat ((conv => whnf); first | refine sdO ?_ | refine nlO ?_ | refine goA ?_ | refine goB ?_ | (apply Exists.intro; (repeat apply Exists.intro); refine caO ?_) | (refine Or.inl ?_; (conv => whnf); (repeat apply Exists.intro); refine caO ?_) | (refine Or.inr ?_; (conv => whnf); first | ((repeat apply Exists.intro); refine caO ?_) | (refine Or.inl ?_; (conv => whnf); (repeat apply Exists.intro); refine caO ?_) | (refine Or.inr ?_; (conv => whnf); (repeat apply Exists.intro); refine caO ?_)) | refine And.intro (by assumption) ?_ | refine goT ?_ | refine goF ?_ | refine goL ?_ | refine goR ?_ | refine goRL ?_ | refine goRR ?_)
    all_goals try (conv => whnf)
    ((repeat' ((conv => whnf) <;> first | exact trivial | (with_reducible first | refine And.intro ?_ ?_ | refine rows_lt1 ?_ | refine rows_lt2 ?_ ?_ | refine rows_lt3 ?_ ?_ ?_ | refine rows_lt4 ?_ ?_ ?_ ?_ | refine rows_lt5 ?_ ?_ ?_ ?_ ?_ | refine aggs_lt1 ?_ | refine aggs_lt2 ?_ ?_ | refine aggs_lt3 ?_ ?_ ?_ | refine fun (_ : Nat) => ?_) | refine fun (_ : (_ : Nat) < _) => ?_ | exact rfl | exact Nat.le_of_ble_eq_true rfl | (change (_ : Nat) ≤ _; omega) | (change (_ : Nat) = _; omega) | (change (_ : Int) = _; omega))); (all_goals try (conv => whnf)))
  · obtain ⟨rfl, _, _, _, _⟩ := roE_0 h0
    have hd := (rt_dec (pub := pub) (lm := lm) (m := m) (b := b)).trans (decide_eq_true h1)
    refine ⟨_, _, fun _ => none, hA, hK, by kernel_rfl, trivial, ?_⟩
    repeat ((conv => whnf); first | refine sdO ?_ | refine nlO ?_ | refine goA ?_ | refine goB ?_ | (apply Exists.intro; (repeat apply Exists.intro); refine caO ?_) | (refine Or.inl ?_; (conv => whnf); (repeat apply Exists.intro); refine caO ?_) | (refine Or.inr ?_; (conv => whnf); first | ((repeat apply Exists.intro); refine caO ?_) | (refine Or.inl ?_; (conv => whnf); (repeat apply Exists.intro); refine caO ?_) | (refine Or.inr ?_; (conv => whnf); (repeat apply Exists.intro); refine caO ?_)) | refine And.intro (by assumption) ?_ | refine goT ?_ | refine goF ?_ | refine goL ?_ | refine goR ?_ | refine goRL ?_ | refine goRR ?_)
    all_goals try (conv => whnf)
    ((repeat' ((conv => whnf) <;> first | exact trivial | (with_reducible first | refine And.intro ?_ ?_ | refine rows_lt1 ?_ | refine rows_lt2 ?_ ?_ | refine rows_lt3 ?_ ?_ ?_ | refine rows_lt4 ?_ ?_ ?_ ?_ | refine rows_lt5 ?_ ?_ ?_ ?_ ?_ | refine aggs_lt1 ?_ | refine aggs_lt2 ?_ ?_ | refine aggs_lt3 ?_ ?_ ?_ | refine fun (_ : Nat) => ?_) | refine fun (_ : (_ : Nat) < _) => ?_ | exact rfl | exact Nat.le_of_ble_eq_true rfl | (change (_ : Nat) ≤ _; omega) | (change (_ : Nat) = _; omega) | (change (_ : Int) = _; omega))); (all_goals try (conv => whnf)))
  · obtain ⟨rfl, _, _, _, _⟩ := roE_0 h0
    have hd := (rt_dec (pub := pub) (lm := lm) (m := m) (b := b)).trans (decide_eq_false h1)
    refine ⟨_, _, fun _ => none, hA, hK, by kernel_rfl, trivial, ?_⟩
    repeat ((conv => whnf); first | refine sdO ?_ | refine nlO ?_ | refine goA ?_ | refine goB ?_ | (apply Exists.intro; (repeat apply Exists.intro); refine caO ?_) | (refine Or.inl ?_; (conv => whnf); (repeat apply Exists.intro); refine caO ?_) | (refine Or.inr ?_; (conv => whnf); first | ((repeat apply Exists.intro); refine caO ?_) | (refine Or.inl ?_; (conv => whnf); (repeat apply Exists.intro); refine caO ?_) | (refine Or.inr ?_; (conv => whnf); (repeat apply Exists.intro); refine caO ?_)) | refine And.intro (by assumption) ?_ | refine goT ?_ | refine goF ?_ | refine goL ?_ | refine goR ?_ | refine goRL ?_ | refine goRR ?_)
    all_goals try (conv => whnf)
    ((repeat' ((conv => whnf) <;> first | exact trivial | (with_reducible first | refine And.intro ?_ ?_ | refine rows_lt1 ?_ | refine rows_lt2 ?_ ?_ | refine rows_lt3 ?_ ?_ ?_ | refine rows_lt4 ?_ ?_ ?_ ?_ | refine rows_lt5 ?_ ?_ ?_ ?_ ?_ | refine aggs_lt1 ?_ | refine aggs_lt2 ?_ ?_ | refine aggs_lt3 ?_ ?_ ?_ | refine fun (_ : Nat) => ?_) | refine fun (_ : (_ : Nat) < _) => ?_ | exact rfl | exact Nat.le_of_ble_eq_true rfl | (change (_ : Nat) ≤ _; omega) | (change (_ : Nat) = _; omega) | (change (_ : Int) = _; omega))); (all_goals try (conv => whnf)))
/-! ### The reference's -/
end Go.Proofs.YtnfebaialdfffaaDoor
