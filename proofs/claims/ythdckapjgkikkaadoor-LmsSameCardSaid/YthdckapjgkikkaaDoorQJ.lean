/- LmsSame. -/
import Derived.Test.YthdckapjgkikkaaDoorQH
namespace Go.Proofs.YthdckapjgkikkaaDoor
open Go.RowKit
set_option maxRecDepth 100000
set_option maxHeartbeats 20000000
attribute [local irreducible] hsh rst sha256 press dig valN mash fold digs ch tw tp tlS cf ckN dgT pubE upTo sgV sigB mashD clE mixA clK pubK st1 at8 hgN w4 sib sgS gr2 rtEq pubS clM ndT
abbrev a1 : BitVec 32 := BitVec.ofInt 32 3758096385
abbrev b3 : BitVec 32 := BitVec.ofInt 32 3
theorem a1_H : hgN a1 = 1 := by unfold hgN; decide
theorem a1_g : hgOK a1 := by unfold hgOK; decide
theorem b3_ok : otOK b3 := by unfold otOK; decide
/-- A signature of another tree's. -/
def C_lms_VerifyU : SpecP := fun A K => ∃ a b id seed s2 q c l m, A [bsl 56 (pubS a b id (gr2 b id seed (hgN a) 0 1)), bsl l m, bsl (44 + 32 * tp b + 32 * hgN a) (sgS a b id s2 (gr2 b id s2 (hgN a) 0) q c l m)] ∧ (hgOK a ∧ otOK b ∧ q < 1#32 <<< hgN a ∧ l ≤ 1000000000) ∧
  ((lw 32 (ndT b id s2 (hgN a) 1) = lw 32 (ndT b id seed (hgN a) 1) ∧ K (.nat 0)) ∨ (¬ lw 32 (ndT b id s2 (hgN a) 1) = lw 32 (ndT b id seed (hgN a) 1) ∧ K (.nat 5)))
theorem rt_two {a b : BitVec 32} {id seed s2 c m : Nat → BitVec 8} {q : BitVec 32} {l : Nat} (ha : hgOK a) (hb : otOK b) (hq : q < 1#32 <<< hgN a) : rtEq (pubS a b id (gr2 b id seed (hgN a) 0 1)) l m (sgS a b id s2 (gr2 b id s2 (hgN a) 0) q c l m) ↔ lw 32 (ndT b id s2 (hgN a) 1) = lw 32 (ndT b id seed (hgN a) 1) := by
  have e : lw 32 (fun j => pubS a b id (gr2 b id seed (hgN a) 0 1) (24 + j)) = lw 32 (ndT b id seed (hgN a) 1) := lw_cong' fun j _ => by rw [pub_x, nd_gr (Nat.lt_succ_self 0)]
  unfold rtEq
  rw [ro_tree ha hb hq, lw_at8 _ _ (lw_len _ _), e]
  exact eq_comm
theorem g_lms_VerifyU : Gd 19 (pureP ty C_lms_VerifyU) := good_imp g_lms_VerifyF fun args m key K ⟨a, b, id, seed, s2, q, c, l, ms, hA, ⟨ha, hb, hq, hl⟩, h⟩ => by
  refine ⟨_, _, _, _, _, _, hA, hl, .inr ⟨ro_ok ha hb hq, ?_⟩⟩
  rcases h with ⟨h, hK⟩ | ⟨h, hK⟩
  · exact .inl ⟨(rt_two ha hb hq).2 h, hK⟩
  · exact .inr ⟨fun q' => h ((rt_two ha hb hq).1 q'), hK⟩
theorem pub_two {a b : BitVec 32} {id x y : Nat → BitVec 8} : lw 56 (pubS a b id x) = lw 56 (pubS a b id y) ↔ lw 32 x = lw 32 y := by
  constructor
  · intro h
    refine lw_eq.2 fun j hj => ?_
    have := lw_eq.1 h (24 + j) (by omega)
    rwa [pub_x, pub_x] at this
  · intro h
    refine lw_eq.2 fun j hj => ?_
    by_cases h24 : j < 24
    · unfold pubS
      by_cases h8 : j < 8
      · rw [if_pos h8, if_pos h8]
      · rw [if_neg h8, if_neg h8, if_pos h24, if_pos h24]
    · obtain ⟨i, rfl⟩ : ∃ i, j = 24 + i := ⟨j - 24, by omega⟩
      rw [pub_x, pub_x]
      exact lw_eq.1 h i (by omega)
theorem pub_tree {id s1 s2 : Nat → BitVec 8} : lw 56 (pubS a1 b3 id (gr2 b3 id s2 (hgN a1) 0 1)) = lw 56 (pubS a1 b3 id (gr2 b3 id s1 (hgN a1) 0 1)) ↔ lw 32 (ndT b3 id s2 (hgN a1) 1) = lw 32 (ndT b3 id s1 (hgN a1) 1) := by
  rw [pub_two, nd_gr (Nat.lt_succ_self 0), nd_gr (Nat.lt_succ_self 0)]
abbrev snK (k : Nat) (id seed : Nat → BitVec 8) (c : Nat) : List (Nat × Row) :=
  [(k, snR a1 b3 id seed (.gsl 24 (k + 1) (2 * 2 ^ hgN a1)) (.cmt (k + 2))), (k + 1, .grow 24 (2 * 2 ^ hgN a1) (dgA (gr2 b3 id seed (hgN a1) 0))), (k + 2, .ob (.cnt c))]
def L_Same (id seed other c : Nat → BitVec 8) (l : Nat) (m : Nat → BitVec 8) : LI := ⟨Nat, (· ≤ 2), fun k => [(4, .gsl 5 2064 l), (8, .ptr TD 32 []), (11, .ptr TSn 3096 []), (13, .ptr TSn 4120 []), (15, .ptr TSn 5144 []), (64, .u32 (BitVec.ofNat 32 k))],
  fun k => (32, .var TD (arr8 32 c)) :: (2064, .grow 5 l (bys m)) :: (snK 3096 id seed k ++ (snK 4120 id seed 0 ++ snK 5144 id other 0)), fun k => 2 - k, some, some⟩
def C_l6_LmsSame : SpecP := fun A K => ∃ id seed other c l m, A [arr8 16 id, arr8 32 seed, arr8 32 other, arr8 32 c, bsl l m] ∧ l ≤ maxLen ∧ K (.bo true)
theorem g_l6_LmsSame : Gd 8 (pureP ty C_l6_LmsSame) := by
  refine goodP (E := PG [(9, pureP ty C_l6_awake), (12, pureR ty C_r1_Cut), (33, pureR ty C_sn_New), (17, pureR ty C_sn_Public), (16, pureP ty C_r1_Same), (24, mutD ty [true, false, false] C_sn_Sign), (11, pureR ty C_sn_Force), (19, pureP ty C_lms_VerifyU), (31, mutD ty [true] C_sn_Left)]) (pgOK ⟨g_l6_awake, g_r1_Cut, g_sn_New, g_sn_Public, g_r1_Same, g_sn_Sign, g_sn_Force, g_lms_VerifyU, g_sn_Left, trivial⟩) mixes Tryd.func8 (by kernel_rfl) (by kernel_rfl) ?_
  rintro A K ⟨id, seed, other, c, l0, m, hA, hm, hK⟩
  have hH := a1_H
  have hg := a1_g
  have ho := b3_ok
  have hs : snOK a1 b3 := ⟨ho, hg, by rw [hH]; decide⟩
  have n2 : 2 ≤ 2 * 2 ^ hgN a1 := by rw [hH]; decide
  have hl : min l0 60 ≤ 1000000000 := by omega
  have hl2 : min l0 60 ≤ maxLen := by unfold maxLen; omega
  have hp : lw 56 (pubS a1 b3 id (gr2 b3 id seed (hgN a1) 0 1)) = lw 56 (pubS a1 b3 id (gr2 b3 id seed (hgN a1) 0 1)) := rfl
  refine ⟨_, _, loops [(10, L_Same id seed other c (min l0 60) m)], hA, hK, by kernel_rfl, trivial, ?_⟩
  repeat ((conv => whnf); first | refine sdO ?_ | refine nlO ?_ | refine goA ?_ | refine goB ?_ | (apply Exists.intro; (repeat apply Exists.intro); refine caO ?_) | (refine Or.inl ?_; (conv => whnf); (repeat apply Exists.intro); refine caO ?_) | (refine Or.inr ?_; (conv => whnf); first | ((repeat apply Exists.intro); refine caO ?_) | (refine Or.inl ?_; (conv => whnf); (repeat apply Exists.intro); refine caO ?_) | (refine Or.inr ?_; (conv => whnf); (repeat apply Exists.intro); refine caO ?_)) | refine And.intro (by assumption) ?_ | refine goT ?_ | refine goF ?_ | refine goL ?_ | refine goR ?_ | refine goRL ?_ | refine goRR ?_)
  all_goals try (conv => whnf)
  refine Exists.intro (fun _ => True) (And.intro (Enter.mk (0 : Nat) (Nat.zero_le _) trivial ?_) (fun (k : Nat) (hk : k ≤ 2) _ => ?_))
  · ((repeat' ((conv => whnf) <;> first | exact trivial | (with_reducible first | refine And.intro ?_ ?_ | refine rows_lt1 ?_ | refine rows_lt2 ?_ ?_ | refine rows_lt3 ?_ ?_ ?_ | refine rows_lt4 ?_ ?_ ?_ ?_ | refine rows_lt5 ?_ ?_ ?_ ?_ ?_ | refine aggs_lt1 ?_ | refine aggs_lt2 ?_ ?_ | refine aggs_lt3 ?_ ?_ ?_ | refine fun (_ : Nat) => ?_) | refine fun (_ : (_ : Nat) < _) => ?_ | exact rfl | exact Nat.le_of_ble_eq_true rfl | (change (_ : Nat) ≤ _; omega) | (change (_ : Nat) = _; omega) | (change (_ : Int) = _; omega))); (all_goals try (conv => whnf)))
  have hsm : ∀ q, lw (44 + 32 * tp b3 + 32 * hgN a1) (sgS a1 b3 id seed (gr2 b3 id seed (hgN a1) 0) q c (min l0 60) m) = lw (44 + 32 * tp b3 + 32 * hgN a1) (sgS a1 b3 id seed (gr2 b3 id seed (hgN a1) 0) q c (min l0 60) m) := fun _ => rfl
  have hmx : 44 + 32 * tp b3 + 32 * hgN a1 ≤ maxLen := by
    rw [hH]
    have := (tp_le' ho).2
    unfold maxLen
    omega
  have hk2 : (k = 0 ∨ k = 1) ∨ k = 2 := by omega
  rcases hk2 with hk2 | rfl
  · have hkH : k < 2 ^ hgN a1 := by rw [hH]; show k < 2; omega
    have hkq : BitVec.ofNat 32 k < 1#32 <<< hgN a1 := by
      rw [hH]
      rcases hk2 with rfl | rfl <;> decide
    have hk3 : BitVec.ofNat 32 k < BitVec.ofInt 32 2 := by
      rcases hk2 with rfl | rfl <;> decide
    have hc : 2 * 2 ^ hgN a1 = 2 * 2 ^ hgN a1 ∧ hgOK a1 ∧ otOK b3 ∧ min l0 60 ≤ 1000000000 := ⟨rfl, hg, ho, hl⟩
    have hv : hgOK a1 ∧ otOK b3 ∧ BitVec.ofNat 32 k < 1#32 <<< hgN a1 ∧ min l0 60 ≤ 1000000000 := ⟨hg, ho, hkq, hl⟩
    have hsk := hsm (BitVec.ofNat 32 k)
    rcases Decidable.em (lw 32 (ndT b3 id other (hgN a1) 1) = lw 32 (ndT b3 id seed (hgN a1) 1)) with e | e
    · have e' := pub_tree.2 e
      have z : (!(decide (0 = Int.toNat 0) == decide (lw 56 (pubS a1 b3 id (gr2 b3 id other (hgN a1) 0 1)) = lw 56 (pubS a1 b3 id (gr2 b3 id seed (hgN a1) 0 1))))) = false := by rw [decide_eq_true e']; rfl
      repeat ((conv => whnf); first | refine sdO ?_ | refine nlO ?_ | refine goA ?_ | refine goB ?_ | (apply Exists.intro; (repeat apply Exists.intro); refine caO ?_) | (refine Or.inl ?_; (conv => whnf); (repeat apply Exists.intro); refine caO ?_) | (refine Or.inr ?_; (conv => whnf); first | ((repeat apply Exists.intro); refine caO ?_) | (refine Or.inl ?_; (conv => whnf); (repeat apply Exists.intro); refine caO ?_) | (refine Or.inr ?_; (conv => whnf); (repeat apply Exists.intro); refine caO ?_)) | refine And.intro (by assumption) ?_ | refine goT ?_ | refine goF ?_ | refine goL ?_ | refine goR ?_ | refine goRL ?_ | refine goRR ?_)
      all_goals try (conv => whnf)
      refine Again.mk (k + 1 : Nat) (show k + 1 ≤ 2 by omega) trivial (show 2 - (k + 1) < 2 - k by omega) ?_
      ((repeat' ((conv => whnf) <;> first | exact trivial | (with_reducible first | refine And.intro ?_ ?_ | refine rows_lt1 ?_ | refine rows_lt2 ?_ ?_ | refine rows_lt3 ?_ ?_ ?_ | refine rows_lt4 ?_ ?_ ?_ ?_ | refine rows_lt5 ?_ ?_ ?_ ?_ ?_ | refine aggs_lt1 ?_ | refine aggs_lt2 ?_ ?_ | refine aggs_lt3 ?_ ?_ ?_ | refine fun (_ : Nat) => ?_) | refine fun (_ : (_ : Nat) < _) => ?_ | exact rfl | exact Nat.le_of_ble_eq_true rfl | (change (_ : Nat) ≤ _; omega) | (change (_ : Nat) = _; omega) | (change (_ : Int) = _; omega))); (all_goals try (conv => whnf)))
      rcases hk2 with rfl | rfl <;> decide
    · have e' : ¬ lw 56 (pubS a1 b3 id (gr2 b3 id other (hgN a1) 0 1)) = lw 56 (pubS a1 b3 id (gr2 b3 id seed (hgN a1) 0 1)) := fun q => e (pub_tree.1 q)
      have z : (!(decide (5 = Int.toNat 0) == decide (lw 56 (pubS a1 b3 id (gr2 b3 id other (hgN a1) 0 1)) = lw 56 (pubS a1 b3 id (gr2 b3 id seed (hgN a1) 0 1))))) = false := by rw [decide_eq_false e']; rfl
      repeat ((conv => whnf); first | refine sdO ?_ | refine nlO ?_ | refine goA ?_ | refine goB ?_ | (apply Exists.intro; (repeat apply Exists.intro); refine caO ?_) | (refine Or.inl ?_; (conv => whnf); (repeat apply Exists.intro); refine caO ?_) | (refine Or.inr ?_; (conv => whnf); first | ((repeat apply Exists.intro); refine caO ?_) | (refine Or.inl ?_; (conv => whnf); (repeat apply Exists.intro); refine caO ?_) | (refine Or.inr ?_; (conv => whnf); (repeat apply Exists.intro); refine caO ?_)) | refine And.intro (by assumption) ?_ | refine goT ?_ | refine goF ?_ | refine goL ?_ | refine goR ?_ | refine goRL ?_ | refine goRR ?_)
      all_goals try (conv => whnf)
      refine Again.mk (k + 1 : Nat) (show k + 1 ≤ 2 by omega) trivial (show 2 - (k + 1) < 2 - k by omega) ?_
      ((repeat' ((conv => whnf) <;> first | exact trivial | (with_reducible first | refine And.intro ?_ ?_ | refine rows_lt1 ?_ | refine rows_lt2 ?_ ?_ | refine rows_lt3 ?_ ?_ ?_ | refine rows_lt4 ?_ ?_ ?_ ?_ | refine rows_lt5 ?_ ?_ ?_ ?_ ?_ | refine aggs_lt1 ?_ | refine aggs_lt2 ?_ ?_ | refine aggs_lt3 ?_ ?_ ?_ | refine fun (_ : Nat) => ?_) | refine fun (_ : (_ : Nat) < _) => ?_ | exact rfl | exact Nat.le_of_ble_eq_true rfl | (change (_ : Nat) ≤ _; omega) | (change (_ : Nat) = _; omega) | (change (_ : Int) = _; omega))); (all_goals try (conv => whnf)))
      rcases hk2 with rfl | rfl <;> decide
  · have q1 : 0 < 2 * 2 ^ hgN a1 ∧ hgOK a1 ∧ 2 ≤ 2 ^ hgN a1 := ⟨by omega, hg, by rw [hH]; decide⟩
    have q2 : 0 < 2 * 2 ^ hgN a1 ∧ hgOK a1 ∧ 0 ≤ 2 ^ hgN a1 := ⟨by omega, hg, by omega⟩
    have hp1 : 2 ^ hgN a1 = 2 := by rw [hH]
    have i1 : ((2 ^ hgN a1 : Nat) : Int) - ((2 : Nat) : Int) = 0 := by rw [hp1]; rfl
    have i2 : ((2 ^ hgN a1 : Nat) : Int) - ((0 : Nat) : Int) = 2 := by rw [hp1]; rfl
    repeat ((conv => whnf); first | refine sdO ?_ | refine nlO ?_ | refine goA ?_ | refine goB ?_ | (apply Exists.intro; (repeat apply Exists.intro); refine caO ?_) | (refine Or.inl ?_; (conv => whnf); (repeat apply Exists.intro); refine caO ?_) | (refine Or.inr ?_; (conv => whnf); first | ((repeat apply Exists.intro); refine caO ?_) | (refine Or.inl ?_; (conv => whnf); (repeat apply Exists.intro); refine caO ?_) | (refine Or.inr ?_; (conv => whnf); (repeat apply Exists.intro); refine caO ?_)) | refine And.intro (by assumption) ?_ | refine goT ?_ | refine goF ?_ | refine goL ?_ | refine goR ?_ | refine goRL ?_ | refine goRR ?_)
    all_goals try (conv => whnf)
    exact decide_eq_true i2
end Go.Proofs.YthdckapjgkikkaaDoor
