/- The reference's small functions, for manifests, tokens and signatures. -/
import Derived.Test.YtldlleoabbcpdaaDoorP14
namespace Go.Proofs.YtldlleoabbcpdaaDoor
open Go.RowKit
set_option maxRecDepth 100000
set_option maxHeartbeats 20000000
attribute [local irreducible] hsh rst sha256 press dig valN
theorem lw_eq {n : Nat} {f g : Nat → BitVec 8} : lw n f = lw n g ↔ ∀ i, i < n → f i = g i := by
  constructor
  · intro h i hi
    have := congrArg (at8 · i) h
    simpa [at8_lw _ _ _ hi] using this
  · intro h
    unfold lw
    exact List.map_congr_left fun i hi => h i (List.mem_range.1 hi)
theorem own_res {a b : AV} (ha : Own a) (hb : Own b) : Own (tupOf [a, b]) := fun i hi => by
  rcases i with _ | _ | i
  · exact ha
  · exact hb
  · exact absurd hi (by show ¬ i + 2 < 2; omega)
theorem own_res3 {a b c : AV} (ha : Own a) (hb : Own b) (hc : Own c) : Own (tupOf [a, b, c]) := fun i hi => by
  rcases i with _ | _ | _ | i
  · exact ha
  · exact hb
  · exact hc
  · exact absurd hi (by show ¬ i + 3 < 3; omega)
theorem own_res4 {a b c d : AV} (ha : Own a) (hb : Own b) (hc : Own c) (hd : Own d) : Own (tupOf [a, b, c, d]) := fun i hi => by
  rcases i with _ | _ | _ | _ | i
  · exact ha
  · exact hb
  · exact hc
  · exact hd
  · exact absurd hi (by show ¬ i + 4 < 4; omega)
def C_r1_Same : SpecP := fun A K => ∃ l b l' b', A [bsl l b, bsl l' b'] ∧ l ≤ maxLen ∧ K (.bo (decide (lw l b = lw l' b')))
def L_r1_Same (l : Nat) (b b' : Nat → BitVec 8) : LI := .plain Nat (fun k => k ≤ l ∧ ∀ i, i < k → b i = b' i) (fun k => [(0, bsl l b), (1, bsl l b'), (12, .nat l), (13, .nat k)]) (fun k => l - k)
theorem g_r1_Same : Gd 13 (pureP ty C_r1_Same) := by
  refine goodP (E := PG []) (pgOK trivial) mixes Tryd.func13 (by kernel_rfl) (by kernel_rfl) ?_
  rintro A K ⟨l, b, l', b', hA, hl, hK⟩
  refine ⟨_, _, loops [(4, L_r1_Same l b b')], hA, hK, by kernel_rfl, trivial, ?_⟩
  unfold maxLen at hl
  repeat ((conv => whnf); first | refine sdO ?_ | refine nlO ?_ | refine goA ?_ | refine goB ?_ | (apply Exists.intro; (repeat apply Exists.intro); refine caO ?_) | (refine Or.inl ?_; (conv => whnf); (repeat apply Exists.intro); refine caO ?_) | (refine Or.inr ?_; (conv => whnf); first | ((repeat apply Exists.intro); refine caO ?_) | (refine Or.inl ?_; (conv => whnf); (repeat apply Exists.intro); refine caO ?_) | (refine Or.inr ?_; (conv => whnf); (repeat apply Exists.intro); refine caO ?_)))
  all_goals try (conv => whnf)
  refine And.intro (fun h => ?_) (fun h => ?_)
  · have h := of_decide_eq_true h
    repeat ((conv => whnf); first | refine sdO ?_ | refine nlO ?_ | refine goA ?_ | refine goB ?_ | (apply Exists.intro; (repeat apply Exists.intro); refine caO ?_) | (refine Or.inl ?_; (conv => whnf); (repeat apply Exists.intro); refine caO ?_) | (refine Or.inr ?_; (conv => whnf); first | ((repeat apply Exists.intro); refine caO ?_) | (refine Or.inl ?_; (conv => whnf); (repeat apply Exists.intro); refine caO ?_) | (refine Or.inr ?_; (conv => whnf); (repeat apply Exists.intro); refine caO ?_)))
    all_goals try (conv => whnf)
    exact (decide_eq_false (fun e => h (by simpa [lw_len] using congrArg List.length e))).symm
  · have h : l = l' := Decidable.of_not_not (of_decide_eq_false h)
    subst h
    repeat ((conv => whnf); first | refine sdO ?_ | refine nlO ?_ | refine goA ?_ | refine goB ?_ | (apply Exists.intro; (repeat apply Exists.intro); refine caO ?_) | (refine Or.inl ?_; (conv => whnf); (repeat apply Exists.intro); refine caO ?_) | (refine Or.inr ?_; (conv => whnf); first | ((repeat apply Exists.intro); refine caO ?_) | (refine Or.inl ?_; (conv => whnf); (repeat apply Exists.intro); refine caO ?_) | (refine Or.inr ?_; (conv => whnf); (repeat apply Exists.intro); refine caO ?_)))
    all_goals try (conv => whnf)
    refine Exists.intro (fun _ => True) (And.intro (Enter.mk (0 : Nat) ⟨Nat.zero_le _, fun i hi => absurd hi (Nat.not_lt_zero i)⟩ trivial ?_) (fun (k : Nat) (hk : k ≤ l ∧ ∀ i, i < k → b i = b' i) _ => ?_))
    · ((repeat' ((conv => whnf) <;> first | exact trivial | (with_reducible first | refine And.intro ?_ ?_ | refine rows_lt1 ?_ | refine rows_lt2 ?_ ?_ | refine rows_lt3 ?_ ?_ ?_ | refine rows_lt4 ?_ ?_ ?_ ?_ | refine rows_lt5 ?_ ?_ ?_ ?_ ?_ | refine ints_lt1 ?_ | refine ints_lt2 ?_ ?_ | refine ints_lt3 ?_ ?_ ?_ | refine rows_lt7 ?_ ?_ ?_ ?_ ?_ ?_ ?_ | refine aggs_lt1 ?_ | refine aggs_lt2 ?_ ?_ | refine aggs_lt3 ?_ ?_ ?_ | refine fun (_ : Nat) => ?_) | refine fun (_ : (_ : Nat) < _) => ?_ | exact rfl | exact Nat.le_of_ble_eq_true rfl | (change (_ : Nat) ≤ _; omega) | (change (_ : Nat) = _; omega) | (change (_ : Int) = _; omega))); (all_goals try (conv => whnf)))
    repeat ((conv => whnf); first | refine sdO ?_ | refine nlO ?_ | refine goA ?_ | refine goB ?_ | (apply Exists.intro; (repeat apply Exists.intro); refine caO ?_) | (refine Or.inl ?_; (conv => whnf); (repeat apply Exists.intro); refine caO ?_) | (refine Or.inr ?_; (conv => whnf); first | ((repeat apply Exists.intro); refine caO ?_) | (refine Or.inl ?_; (conv => whnf); (repeat apply Exists.intro); refine caO ?_) | (refine Or.inr ?_; (conv => whnf); (repeat apply Exists.intro); refine caO ?_)))
    all_goals try (conv => whnf)
    refine And.intro (fun h => ?_) (fun h => ?_)
    · have h := of_decide_eq_true h
      repeat ((conv => whnf); first | refine sdO ?_ | refine nlO ?_ | refine goA ?_ | refine goB ?_ | (apply Exists.intro; (repeat apply Exists.intro); refine caO ?_) | (refine Or.inl ?_; (conv => whnf); (repeat apply Exists.intro); refine caO ?_) | (refine Or.inr ?_; (conv => whnf); first | ((repeat apply Exists.intro); refine caO ?_) | (refine Or.inl ?_; (conv => whnf); (repeat apply Exists.intro); refine caO ?_) | (refine Or.inr ?_; (conv => whnf); (repeat apply Exists.intro); refine caO ?_)))
      all_goals try (conv => whnf)
      refine And.intro (fun h2 => ?_) (fun h2 => ?_)
      · have h2 := of_decide_eq_true h2
        repeat ((conv => whnf); first | refine sdO ?_ | refine nlO ?_ | refine goA ?_ | refine goB ?_ | (apply Exists.intro; (repeat apply Exists.intro); refine caO ?_) | (refine Or.inl ?_; (conv => whnf); (repeat apply Exists.intro); refine caO ?_) | (refine Or.inr ?_; (conv => whnf); first | ((repeat apply Exists.intro); refine caO ?_) | (refine Or.inl ?_; (conv => whnf); (repeat apply Exists.intro); refine caO ?_) | (refine Or.inr ?_; (conv => whnf); (repeat apply Exists.intro); refine caO ?_)))
        all_goals try (conv => whnf)
        exact (decide_eq_false (fun e => h2 (lw_eq.1 e k h))).symm
      · have h2 := Decidable.of_not_not (of_decide_eq_false h2)
        repeat ((conv => whnf); first | refine sdO ?_ | refine nlO ?_ | refine goA ?_ | refine goB ?_ | (apply Exists.intro; (repeat apply Exists.intro); refine caO ?_) | (refine Or.inl ?_; (conv => whnf); (repeat apply Exists.intro); refine caO ?_) | (refine Or.inr ?_; (conv => whnf); first | ((repeat apply Exists.intro); refine caO ?_) | (refine Or.inl ?_; (conv => whnf); (repeat apply Exists.intro); refine caO ?_) | (refine Or.inr ?_; (conv => whnf); (repeat apply Exists.intro); refine caO ?_)))
        all_goals try (conv => whnf)
        refine Again.mk (k + 1 : Nat) ⟨by omega, fun i hi => ?_⟩ trivial (show l - (k + 1) < l - k by omega) ?_
        · by_cases e : i = k
          · rw [e]; exact h2
          · exact hk.2 i (by omega)
        ((repeat' ((conv => whnf) <;> first | exact trivial | (with_reducible first | refine And.intro ?_ ?_ | refine rows_lt1 ?_ | refine rows_lt2 ?_ ?_ | refine rows_lt3 ?_ ?_ ?_ | refine rows_lt4 ?_ ?_ ?_ ?_ | refine rows_lt5 ?_ ?_ ?_ ?_ ?_ | refine ints_lt1 ?_ | refine ints_lt2 ?_ ?_ | refine ints_lt3 ?_ ?_ ?_ | refine rows_lt7 ?_ ?_ ?_ ?_ ?_ ?_ ?_ | refine aggs_lt1 ?_ | refine aggs_lt2 ?_ ?_ | refine aggs_lt3 ?_ ?_ ?_ | refine fun (_ : Nat) => ?_) | refine fun (_ : (_ : Nat) < _) => ?_ | exact rfl | exact Nat.le_of_ble_eq_true rfl | (change (_ : Nat) ≤ _; omega) | (change (_ : Nat) = _; omega) | (change (_ : Int) = _; omega))); (all_goals try (conv => whnf)))
    · have h := of_decide_eq_false h
      have : k = l := by omega
      subst this
      repeat ((conv => whnf); first | refine sdO ?_ | refine nlO ?_ | refine goA ?_ | refine goB ?_ | (apply Exists.intro; (repeat apply Exists.intro); refine caO ?_) | (refine Or.inl ?_; (conv => whnf); (repeat apply Exists.intro); refine caO ?_) | (refine Or.inr ?_; (conv => whnf); first | ((repeat apply Exists.intro); refine caO ?_) | (refine Or.inl ?_; (conv => whnf); (repeat apply Exists.intro); refine caO ?_) | (refine Or.inr ?_; (conv => whnf); (repeat apply Exists.intro); refine caO ?_)))
      all_goals try (conv => whnf)
      exact (decide_eq_true (lw_eq.2 hk.2)).symm
def C_r1_Join_1 : SpecR := fun A K => ∃ l0 b0, A [prs [l0] [b0]] ∧ l0 ≤ 1000000000 ∧ K (.gsl 5 8 (l0)) [(8, .grow 5 (l0) (bys (at8 (lw l0 b0))))]
theorem g_r1_Join_1 : Gd 15 (pureR ty C_r1_Join_1) := good_imp g_r1_Join fun args m key K ⟨l0, b0, hA, h0, hK⟩ => by
  have e : cat [(l0, b0)] = lw l0 b0 := by simp [cat]
  have el : (cat [(l0, b0)]).length = l0 := by rw [e]; simp only [List.length_append, lw_len]
  refine ⟨[(l0, b0)], (by rw [prt1]; exact hA), by rw [el]; exact h0, (show 1 ≤ 1000000 by omega), ?_⟩
  rw [el, e]
  exact hK
def C_r1_Join_2 : SpecR := fun A K => ∃ l0 b0 l1 b1, A [prs [l0, l1] [b0, b1]] ∧ l0 + l1 ≤ 1000000000 ∧ K (.gsl 5 8 (l0 + l1)) [(8, .grow 5 (l0 + l1) (bys (at8 (lw l0 b0 ++ lw l1 b1))))]
theorem g_r1_Join_2 : Gd 15 (pureR ty C_r1_Join_2) := good_imp g_r1_Join fun args m key K ⟨l0, b0, l1, b1, hA, h0, hK⟩ => by
  have e : cat [(l0, b0), (l1, b1)] = lw l0 b0 ++ lw l1 b1 := by simp [cat]
  have el : (cat [(l0, b0), (l1, b1)]).length = l0 + l1 := by rw [e]; simp only [List.length_append, lw_len]
  refine ⟨[(l0, b0), (l1, b1)], (by rw [prt2]; exact hA), by rw [el]; exact h0, (show 2 ≤ 1000000 by omega), ?_⟩
  rw [el, e]
  exact hK
theorem prt4 (l0 l1 l2 l3 : Nat) (b0 b1 b2 b3 : Nat → BitVec 8) : prt [(l0, b0), (l1, b1), (l2, b2), (l3, b3)] = prs [l0, l1, l2, l3] [b0, b1, b2, b3] := by
  have : (fun i => bsl (pl [(l0, b0), (l1, b1), (l2, b2), (l3, b3)] i) (pb [(l0, b0), (l1, b1), (l2, b2), (l3, b3)] i)) = fun i => bsl (nth 0 [l0, l1, l2, l3] i) (nth (fun _ => 0) [b0, b1, b2, b3] i) := by
    funext i
    rcases i with _ | _ | _ | _ | i <;> rfl
  show AV.imm false _ 4 _ = AV.imm false _ 4 _
  rw [this]
def C_r1_Join_4 : SpecR := fun A K => ∃ l0 b0 l1 b1 l2 b2 l3 b3, A [prs [l0, l1, l2, l3] [b0, b1, b2, b3]] ∧ l0 + l1 + l2 + l3 ≤ 1000000000 ∧ K (.gsl 5 8 (l0 + l1 + l2 + l3)) [(8, .grow 5 (l0 + l1 + l2 + l3) (bys (at8 (lw l0 b0 ++ lw l1 b1 ++ lw l2 b2 ++ lw l3 b3))))]
theorem g_r1_Join_4 : Gd 15 (pureR ty C_r1_Join_4) := good_imp g_r1_Join fun args m key K ⟨l0, b0, l1, b1, l2, b2, l3, b3, hA, h0, hK⟩ => by
  have e : cat [(l0, b0), (l1, b1), (l2, b2), (l3, b3)] = lw l0 b0 ++ lw l1 b1 ++ lw l2 b2 ++ lw l3 b3 := by simp [cat]
  have el : (cat [(l0, b0), (l1, b1), (l2, b2), (l3, b3)]).length = l0 + l1 + l2 + l3 := by rw [e]; simp only [List.length_append, lw_len]
  refine ⟨[(l0, b0), (l1, b1), (l2, b2), (l3, b3)], (by rw [prt4]; exact hA), by rw [el]; exact h0, (show 4 ≤ 1000000 by omega), ?_⟩
  rw [el, e]
  exact hK
theorem prt5 (l0 l1 l2 l3 l4 : Nat) (b0 b1 b2 b3 b4 : Nat → BitVec 8) : prt [(l0, b0), (l1, b1), (l2, b2), (l3, b3), (l4, b4)] = prs [l0, l1, l2, l3, l4] [b0, b1, b2, b3, b4] := by
  have : (fun i => bsl (pl [(l0, b0), (l1, b1), (l2, b2), (l3, b3), (l4, b4)] i) (pb [(l0, b0), (l1, b1), (l2, b2), (l3, b3), (l4, b4)] i)) = fun i => bsl (nth 0 [l0, l1, l2, l3, l4] i) (nth (fun _ => 0) [b0, b1, b2, b3, b4] i) := by
    funext i
    rcases i with _ | _ | _ | _ | _ | i <;> rfl
  show AV.imm false _ 5 _ = AV.imm false _ 5 _
  rw [this]
def C_r1_Join_5 : SpecR := fun A K => ∃ l0 b0 l1 b1 l2 b2 l3 b3 l4 b4, A [prs [l0, l1, l2, l3, l4] [b0, b1, b2, b3, b4]] ∧ l0 + l1 + l2 + l3 + l4 ≤ 1000000000 ∧ K (.gsl 5 8 (l0 + l1 + l2 + l3 + l4)) [(8, .grow 5 (l0 + l1 + l2 + l3 + l4) (bys (at8 (lw l0 b0 ++ lw l1 b1 ++ lw l2 b2 ++ lw l3 b3 ++ lw l4 b4))))]
theorem g_r1_Join_5 : Gd 15 (pureR ty C_r1_Join_5) := good_imp g_r1_Join fun args m key K ⟨l0, b0, l1, b1, l2, b2, l3, b3, l4, b4, hA, h0, hK⟩ => by
  have e : cat [(l0, b0), (l1, b1), (l2, b2), (l3, b3), (l4, b4)] = lw l0 b0 ++ lw l1 b1 ++ lw l2 b2 ++ lw l3 b3 ++ lw l4 b4 := by simp [cat]
  have el : (cat [(l0, b0), (l1, b1), (l2, b2), (l3, b3), (l4, b4)]).length = l0 + l1 + l2 + l3 + l4 := by rw [e]; simp only [List.length_append, lw_len]
  refine ⟨[(l0, b0), (l1, b1), (l2, b2), (l3, b3), (l4, b4)], (by rw [prt5]; exact hA), by rw [el]; exact h0, (show 5 ≤ 1000000 by omega), ?_⟩
  rw [el, e]
  exact hK
end Go.Proofs.YtldlleoabbcpdaaDoor
