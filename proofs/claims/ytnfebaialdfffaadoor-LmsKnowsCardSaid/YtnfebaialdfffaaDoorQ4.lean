/- lms: the root that a signature leads to. -/
import Derived.Test.YtnfebaialdfffaaDoorQ2
namespace Go.Proofs.YtnfebaialdfffaaDoor
open Go.RowKit
set_option maxRecDepth 100000
set_option maxHeartbeats 20000000
attribute [local irreducible] hsh rst sha256 press dig valN mash fold digs ch tw tp tlS cf ckN dgT pubE upTo sgV sigB mashD clE mixA clK pubK st1 at8 hgN
/-- What the parts tell: 0, or the error. -/
def paE (l : Nat) (b : Nat → BitVec 8) : Nat :=
  if l < 8 then 2 else if ¬ otOK (sgT b) then 6 else if l < 44 + 32 * tp (sgT b) then 2 else if ¬ hgOK (trT b) then 6 else
  if l = 44 + 32 * tp (sgT b) + 32 * hgN (trT b) ∧ lfQ b >>> hgN (trT b) = BitVec.ofInt 32 0 then 0 else 2
theorem paE_0 {l : Nat} {b : Nat → BitVec 8} (h : paE l b = 0) : 8 ≤ l ∧ otOK (sgT b) ∧ hgOK (trT b) ∧ l = 44 + 32 * tp (sgT b) + 32 * hgN (trT b) ∧ lfQ b >>> hgN (trT b) = BitVec.ofInt 32 0 := by
  unfold paE at h
  split at h
  · cases h
  split at h
  · cases h
  split at h
  · cases h
  split at h
  · cases h
  split at h
  · rename_i h1 h2 h3 h4 h5
    exact ⟨by omega, Decidable.of_not_not h2, Decidable.of_not_not h4, h5.1, h5.2⟩
  · cases h
def C_lms_PartsX : SpecP := fun A K => ∃ l b, A [bsl l b] ∧ ((¬ paE l b = 0 ∧ K (eA (paE l b))) ∨ (paE l b = 0 ∧ K (paO b)))
theorem g_lms_PartsX : Gd 52 (pureP ty C_lms_PartsX) := good_imp g_lms_Parts fun args m key K ⟨l, b, hA, h⟩ => by
  refine ⟨l, b, hA, ?_⟩
  rcases h with ⟨h0, hK⟩ | ⟨h0, hK⟩
  · unfold paE at h0 hK
    by_cases h1 : l < 8
    · rw [if_pos h1] at hK; exact .inl ⟨h1, hK⟩
    rw [if_neg h1] at h0 hK
    by_cases h2 : otOK (sgT b)
    · rw [if_neg (fun h => h h2)] at h0 hK
      refine .inr (.inr ⟨h2, by omega, ?_⟩)
      by_cases h3 : l < 44 + 32 * tp (sgT b)
      · rw [if_pos h3] at hK; exact .inl ⟨h3, hK⟩
      rw [if_neg h3] at h0 hK
      by_cases h4 : hgOK (trT b)
      · rw [if_neg (fun h => h h4)] at h0 hK
        refine .inr (.inr ⟨h4, by omega, .inl ?_⟩)
        split at hK
        · rename_i h5
          exact absurd (if_pos h5) h0
        · rename_i h5
          refine ⟨?_, hK⟩
          rcases Decidable.em (l = 44 + 32 * tp (sgT b) + 32 * hgN (trT b)) with h6 | h6
          · exact .inr fun h7 => h5 ⟨h6, h7⟩
          · exact .inl h6
      · rw [if_pos h4] at hK; exact .inr (.inl ⟨h4, by omega, hK⟩)
    · rw [if_pos h2] at hK; exact .inr (.inl ⟨h2, by omega, hK⟩)
  · obtain ⟨h1, h2, h3, h4, h5⟩ := paE_0 h0
    exact .inr (.inr ⟨h2, h1, .inr (.inr ⟨h3, by omega, .inr ⟨h5, h4, hK⟩⟩)⟩)
attribute [irreducible] paE
end Go.Proofs.YtnfebaialdfffaaDoor
/- lms: the root. -/
namespace Go.Proofs.YtnfebaialdfffaaDoor
open Go.RowKit
set_option maxRecDepth 100000
set_option maxHeartbeats 20000000
attribute [local irreducible] hsh rst sha256 press dig valN mash fold digs ch tw tp tlS cf ckN dgT pubE upTo sgV sigB mashD clE mixA clK pubK st1 at8 hgN w4
/-- The root that a whole signature leads to. -/
def roV (pub : Nat → BitVec 8) (lm : Nat) (m : Nat → BitVec 8) (b : Nat → BitVec 8) : Msg :=
  clb (fun j => pub (8 + j)) (1#32 <<< hgN (lfQ pub) + lfQ b) (leaf (fun j => pub (8 + j)) (1#32 <<< hgN (lfQ pub) + lfQ b)
    (lw 32 (clK (fun j => pub (8 + j)) (lfQ b) (wT fun j => b (4 + j)) (mashD (fun j => pub (8 + j)) (lfQ b) (fun j => b (4 + (4 + j))) lm m) (splO fun j => b (4 + j)))))
    (hsO fun j => reB b (tp (sgT b)) (4 + j)) (hgN (trT b))
def C_lms_RootX : SpecP := fun A K => ∃ lp pub lm m l b, A [bsl lp pub, bsl lm m, bsl l b] ∧ lm ≤ 1000000000 ∧ ((lp ≠ 56 ∧ K (tupOf [dgZ, .nat 2])) ∨ (¬ pbOK pub ∧ lp = 56 ∧ K (tupOf [dgZ, .nat 6])) ∨ (pbOK pub ∧ lp = 56 ∧ ((¬ paE l b = 0 ∧ K (tupOf [dgZ, .nat (paE l b)])) ∨
  (paE l b = 0 ∧ ((¬ trT b = lfQ pub ∧ K (tupOf [dgZ, .nat 6])) ∨ (trT b = lfQ pub ∧ ((¬ sgT b = sgT pub ∧ K (tupOf [dgZ, .nat 6])) ∨ (sgT b = sgT pub ∧ K (tupOf [arr8 32 (at8 (roV pub lm m b)), .nat 0])))))))))
theorem g_lms_RootX : Gd 40 (pureP ty C_lms_RootX) := by
  refine goodP (E := PG [(51, pureP ty C_readKey), (52, pureP ty C_lms_PartsX), (53, pureP ty C_lms_word), (26, pureP ty C_lms_site), (54, pureP ty C_ots_Claim), (55, pureP ty C_lms_climb)]) (pgOK ⟨g_readKey, g_lms_PartsX, g_lms_word, g_lms_site, g_ots_Claim, g_lms_climb, trivial⟩) mixes Tryd.func40 (by kernel_rfl) (by kernel_rfl) ?_
  rintro A K ⟨lp, pub, lm, m, l, b, hA, hm, ⟨h1, hK⟩ | ⟨h1, h2, hK⟩ | ⟨h1, h2, ⟨h3, hK⟩ | ⟨h3, ⟨h4, hK⟩ | ⟨h4, ⟨h5, hK⟩ | ⟨h5, hK⟩⟩⟩⟩⟩
  · refine ⟨_, _, fun _ => none, hA, hK, by kernel_rfl, own_dg _, ?_⟩
    repeat ((conv => whnf); first | refine sdO ?_ | refine nlO ?_ | refine goA ?_ | refine goB ?_ | (apply Exists.intro; (repeat apply Exists.intro); refine caO ?_) | (refine Or.inl ?_; (conv => whnf); (repeat apply Exists.intro); refine caO ?_) | (refine Or.inr ?_; (conv => whnf); first | ((repeat apply Exists.intro); refine caO ?_) | (refine Or.inl ?_; (conv => whnf); (repeat apply Exists.intro); refine caO ?_) | (refine Or.inr ?_; (conv => whnf); (repeat apply Exists.intro); refine caO ?_)) | refine And.intro (by assumption) ?_ | refine goT ?_ | refine goF ?_ | refine goL ?_ | refine goR ?_ | refine goRL ?_ | refine goRR ?_)
    all_goals try (conv => whnf)
    ((repeat' ((conv => whnf) <;> first | exact trivial | (with_reducible first | refine And.intro ?_ ?_ | refine rows_lt1 ?_ | refine rows_lt2 ?_ ?_ | refine rows_lt3 ?_ ?_ ?_ | refine rows_lt4 ?_ ?_ ?_ ?_ | refine rows_lt5 ?_ ?_ ?_ ?_ ?_ | refine aggs_lt1 ?_ | refine aggs_lt2 ?_ ?_ | refine aggs_lt3 ?_ ?_ ?_ | refine fun (_ : Nat) => ?_) | refine fun (_ : (_ : Nat) < _) => ?_ | exact rfl | exact Nat.le_of_ble_eq_true rfl | (change (_ : Nat) ≤ _; omega) | (change (_ : Nat) = _; omega) | (change (_ : Int) = _; omega))); (all_goals try (conv => whnf)))
  · refine ⟨_, _, fun _ => none, hA, hK, by kernel_rfl, own_dg _, ?_⟩
    repeat ((conv => whnf); first | refine sdO ?_ | refine nlO ?_ | refine goA ?_ | refine goB ?_ | (apply Exists.intro; (repeat apply Exists.intro); refine caO ?_) | (refine Or.inl ?_; (conv => whnf); (repeat apply Exists.intro); refine caO ?_) | (refine Or.inr ?_; (conv => whnf); first | ((repeat apply Exists.intro); refine caO ?_) | (refine Or.inl ?_; (conv => whnf); (repeat apply Exists.intro); refine caO ?_) | (refine Or.inr ?_; (conv => whnf); (repeat apply Exists.intro); refine caO ?_)) | refine And.intro (by assumption) ?_ | refine goT ?_ | refine goF ?_ | refine goL ?_ | refine goR ?_ | refine goRL ?_ | refine goRR ?_)
    all_goals try (conv => whnf)
    ((repeat' ((conv => whnf) <;> first | exact trivial | (with_reducible first | refine And.intro ?_ ?_ | refine rows_lt1 ?_ | refine rows_lt2 ?_ ?_ | refine rows_lt3 ?_ ?_ ?_ | refine rows_lt4 ?_ ?_ ?_ ?_ | refine rows_lt5 ?_ ?_ ?_ ?_ ?_ | refine aggs_lt1 ?_ | refine aggs_lt2 ?_ ?_ | refine aggs_lt3 ?_ ?_ ?_ | refine fun (_ : Nat) => ?_) | refine fun (_ : (_ : Nat) < _) => ?_ | exact rfl | exact Nat.le_of_ble_eq_true rfl | (change (_ : Nat) ≤ _; omega) | (change (_ : Nat) = _; omega) | (change (_ : Int) = _; omega))); (all_goals try (conv => whnf)))
  · refine ⟨_, _, fun _ => none, hA, hK, by kernel_rfl, own_dg _, ?_⟩
    repeat ((conv => whnf); first | refine sdO ?_ | refine nlO ?_ | refine goA ?_ | refine goB ?_ | (apply Exists.intro; (repeat apply Exists.intro); refine caO ?_) | (refine Or.inl ?_; (conv => whnf); (repeat apply Exists.intro); refine caO ?_) | (refine Or.inr ?_; (conv => whnf); first | ((repeat apply Exists.intro); refine caO ?_) | (refine Or.inl ?_; (conv => whnf); (repeat apply Exists.intro); refine caO ?_) | (refine Or.inr ?_; (conv => whnf); (repeat apply Exists.intro); refine caO ?_)) | refine And.intro (by assumption) ?_ | refine goT ?_ | refine goF ?_ | refine goL ?_ | refine goR ?_ | refine goRL ?_ | refine goRR ?_)
    all_goals try (conv => whnf)
    ((repeat' ((conv => whnf) <;> first | exact trivial | (with_reducible first | refine And.intro ?_ ?_ | refine rows_lt1 ?_ | refine rows_lt2 ?_ ?_ | refine rows_lt3 ?_ ?_ ?_ | refine rows_lt4 ?_ ?_ ?_ ?_ | refine rows_lt5 ?_ ?_ ?_ ?_ ?_ | refine aggs_lt1 ?_ | refine aggs_lt2 ?_ ?_ | refine aggs_lt3 ?_ ?_ ?_ | refine fun (_ : Nat) => ?_) | refine fun (_ : (_ : Nat) < _) => ?_ | exact rfl | exact Nat.le_of_ble_eq_true rfl | (change (_ : Nat) ≤ _; omega) | (change (_ : Nat) = _; omega) | (change (_ : Int) = _; omega))); (all_goals try (conv => whnf)))
  · refine ⟨_, _, fun _ => none, hA, hK, by kernel_rfl, own_dg _, ?_⟩
    repeat ((conv => whnf); first | refine sdO ?_ | refine nlO ?_ | refine goA ?_ | refine goB ?_ | (apply Exists.intro; (repeat apply Exists.intro); refine caO ?_) | (refine Or.inl ?_; (conv => whnf); (repeat apply Exists.intro); refine caO ?_) | (refine Or.inr ?_; (conv => whnf); first | ((repeat apply Exists.intro); refine caO ?_) | (refine Or.inl ?_; (conv => whnf); (repeat apply Exists.intro); refine caO ?_) | (refine Or.inr ?_; (conv => whnf); (repeat apply Exists.intro); refine caO ?_)) | refine And.intro (by assumption) ?_ | refine goT ?_ | refine goF ?_ | refine goL ?_ | refine goR ?_ | refine goRL ?_ | refine goRR ?_)
    all_goals try (conv => whnf)
    ((repeat' ((conv => whnf) <;> first | exact trivial | (with_reducible first | refine And.intro ?_ ?_ | refine rows_lt1 ?_ | refine rows_lt2 ?_ ?_ | refine rows_lt3 ?_ ?_ ?_ | refine rows_lt4 ?_ ?_ ?_ ?_ | refine rows_lt5 ?_ ?_ ?_ ?_ ?_ | refine aggs_lt1 ?_ | refine aggs_lt2 ?_ ?_ | refine aggs_lt3 ?_ ?_ ?_ | refine fun (_ : Nat) => ?_) | refine fun (_ : (_ : Nat) < _) => ?_ | exact rfl | exact Nat.le_of_ble_eq_true rfl | (change (_ : Nat) ≤ _; omega) | (change (_ : Nat) = _; omega) | (change (_ : Int) = _; omega))); (all_goals try (conv => whnf)))
  · refine ⟨_, _, fun _ => none, hA, hK, by kernel_rfl, own_dg _, ?_⟩
    repeat ((conv => whnf); first | refine sdO ?_ | refine nlO ?_ | refine goA ?_ | refine goB ?_ | (apply Exists.intro; (repeat apply Exists.intro); refine caO ?_) | (refine Or.inl ?_; (conv => whnf); (repeat apply Exists.intro); refine caO ?_) | (refine Or.inr ?_; (conv => whnf); first | ((repeat apply Exists.intro); refine caO ?_) | (refine Or.inl ?_; (conv => whnf); (repeat apply Exists.intro); refine caO ?_) | (refine Or.inr ?_; (conv => whnf); (repeat apply Exists.intro); refine caO ?_)) | refine And.intro (by assumption) ?_ | refine goT ?_ | refine goF ?_ | refine goL ?_ | refine goR ?_ | refine goRL ?_ | refine goRR ?_)
    all_goals try (conv => whnf)
    ((repeat' ((conv => whnf) <;> first | exact trivial | (with_reducible first | refine And.intro ?_ ?_ | refine rows_lt1 ?_ | refine rows_lt2 ?_ ?_ | refine rows_lt3 ?_ ?_ ?_ | refine rows_lt4 ?_ ?_ ?_ ?_ | refine rows_lt5 ?_ ?_ ?_ ?_ ?_ | refine aggs_lt1 ?_ | refine aggs_lt2 ?_ ?_ | refine aggs_lt3 ?_ ?_ ?_ | refine fun (_ : Nat) => ?_) | refine fun (_ : (_ : Nat) < _) => ?_ | exact rfl | exact Nat.le_of_ble_eq_true rfl | (change (_ : Nat) ≤ _; omega) | (change (_ : Nat) = _; omega) | (change (_ : Int) = _; omega))); (all_goals try (conv => whnf)))
  · obtain ⟨p1, p2, p3, p4, p5⟩ := paE_0 h3
    have hp := tp_le' p2
    have hg := hg_facts p3
    have hga : hgOK (lfQ pub) := h1.2
    refine ⟨_, _, fun _ => none, hA, hK, by kernel_rfl, own_dk [] _ _, ?_⟩
    repeat ((conv => whnf); first | refine sdO ?_ | refine nlO ?_ | refine goA ?_ | refine goB ?_ | (apply Exists.intro; (repeat apply Exists.intro); refine caO ?_) | (refine Or.inl ?_; (conv => whnf); (repeat apply Exists.intro); refine caO ?_) | (refine Or.inr ?_; (conv => whnf); first | ((repeat apply Exists.intro); refine caO ?_) | (refine Or.inl ?_; (conv => whnf); (repeat apply Exists.intro); refine caO ?_) | (refine Or.inr ?_; (conv => whnf); (repeat apply Exists.intro); refine caO ?_)) | refine And.intro (by assumption) ?_ | refine goT ?_ | refine goF ?_ | refine goL ?_ | refine goR ?_ | refine goRL ?_ | refine goRR ?_)
    all_goals try (conv => whnf)
    ((repeat' ((conv => whnf) <;> first | exact trivial | (with_reducible first | refine And.intro ?_ ?_ | refine rows_lt1 ?_ | refine rows_lt2 ?_ ?_ | refine rows_lt3 ?_ ?_ ?_ | refine rows_lt4 ?_ ?_ ?_ ?_ | refine rows_lt5 ?_ ?_ ?_ ?_ ?_ | refine aggs_lt1 ?_ | refine aggs_lt2 ?_ ?_ | refine aggs_lt3 ?_ ?_ ?_ | refine fun (_ : Nat) => ?_) | refine fun (_ : (_ : Nat) < _) => ?_ | exact rfl | exact Nat.le_of_ble_eq_true rfl | (change (_ : Nat) ≤ _; omega) | (change (_ : Nat) = _; omega) | (change (_ : Int) = _; omega))); (all_goals try (conv => whnf)))
end Go.Proofs.YtnfebaialdfffaaDoor
