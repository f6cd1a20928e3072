/- Flash: the reference's calls, one by one. -/
import Derived.Test.YtjibfjkcngjhmaaYF
namespace Go.Proofs.Ytjibfjkcngjhmaa
open Go.RowKit
set_option maxRecDepth 100000
set_option maxHeartbeats 20000000
abbrev TAcF : Ty := ty 31
abbrev acF (d : BitVec 8) (i j : Int) (q : Nat) (p : Nat → BitVec 8) (c : Nat) (k : Nat → BitVec 8) : AV := .agg false 5 (nth .junk [.u8 d, .int i, .int j, bsl q p, bsl c k])
abbrev xR (P : Nat) (m : Nat → BitVec 8) : List (Nat × Row) := [(0, .grow 5 (P * 256) (bys m))]
abbrev xG (P : Nat) : AV := .gsl 5 0 (P * 256)
def C_r1_CutZ : SpecR := fun A K => ∃ (l : Nat) (b : Nat → BitVec 8) (z : Int), A [bsl l b, .int z] ∧ l ≤ 1000000 ∧ 0 ≤ z ∧ K (.gsl 5 8 (min l z.toNat)) [(8, .grow 5 (min l z.toNat) (bys b))]
def L_r1_CutZ (l : Nat) (b : Nat → BitVec 8) (z : Int) : LI := ⟨Nat, (· ≤ l), fun k => [(1, .int z), (5, .gsl 5 8 (min k z.toNat)), (8, bsl l b), (9, .nat l), (10, .nat k)], fun k => [(8, .grow 5 (min k z.toNat) (bys b))], fun k => l - k, noK, some⟩
theorem g_r1_CutZ : Gd 17 (pureR ty C_r1_CutZ) := by
  refine goodR (E := PG []) (pgOK trivial) mixes Try.func17 (by kernel_rfl) (by kernel_rfl) ?_
  rintro A K ⟨l, b, z, hA, hl, hz, hK⟩
  refine ⟨_, _, _, loops [(3, L_r1_CutZ l b z)], hA, hK, by kernel_rfl, by kernel_rfl, ⟨fun _ _ => trivial, trivial⟩, trivial, ?_⟩
  repeat (first | ((conv => whnf); refine And.intro ?_ ?_; exact sideOf) | ((conv => whnf); refine NilE.some ?_ ?_; exact sideOf) | ((conv => whnf); refine And.intro (fun _ => ?_) (fun h => nomatch (show true = false from h))) | ((conv => whnf); refine And.intro (fun h => nomatch (show false = true from h)) (fun _ => ?_)) | ((conv => whnf); first | (apply Exists.intro; (repeat apply Exists.intro); refine And.intro ?_ ?_; exact leOf) | (refine Or.inl ?_; (conv => whnf); (repeat apply Exists.intro); refine And.intro ?_ ?_; exact leOf) | (refine Or.inr ?_; (conv => whnf); first | ((repeat apply Exists.intro); refine And.intro ?_ ?_; exact leOf) | (refine Or.inl ?_; (conv => whnf); (repeat apply Exists.intro); refine And.intro ?_ ?_; exact leOf) | (refine Or.inr ?_; (conv => whnf); (repeat apply Exists.intro); refine And.intro ?_ ?_; exact leOf))) | ((conv => whnf); first | refine And.intro (by assumption) ?_ | refine goT ?_ | refine goF ?_ | refine goL ?_ | refine goR ?_ | refine goRL ?_ | refine goRR ?_))
  all_goals try (conv => whnf)
  refine Exists.intro (fun _ => True) (And.intro (Enter.mk (0 : Nat) (Nat.zero_le l) trivial ?_) (fun (k : Nat) (hk : k ≤ l) _ => ?_))
  · ((repeat' ((conv => whnf) <;> first | exact trivial | (with_reducible first | refine And.intro ?_ ?_ | refine rows_lt1 ?_ | refine rows_lt2 ?_ ?_ | refine rows_lt3 ?_ ?_ ?_ | refine rows_lt4 ?_ ?_ ?_ ?_ | refine rows_lt5 ?_ ?_ ?_ ?_ ?_ | refine aggs_lt1 ?_ | refine aggs_lt2 ?_ ?_ | refine aggs_lt3 ?_ ?_ ?_ | refine fun (_ : Nat) => ?_) | refine fun (_ : (_ : Nat) < _) => ?_ | exact rfl | exact Nat.le_of_ble_eq_true rfl | (change (_ : Nat) ≤ _; omega) | (change (_ : Nat) = _; omega) | (change (_ : Int) = _; omega))); (all_goals try (conv => whnf)))
  rcases Nat.lt_or_ge k l with h | h
  · rcases Int.lt_or_le (k : Int) z with h2 | h2
    · skip
      repeat (first | ((conv => whnf); refine And.intro ?_ ?_; exact sideOf) | ((conv => whnf); refine NilE.some ?_ ?_; exact sideOf) | ((conv => whnf); refine And.intro (fun _ => ?_) (fun h => nomatch (show true = false from h))) | ((conv => whnf); refine And.intro (fun h => nomatch (show false = true from h)) (fun _ => ?_)) | ((conv => whnf); first | (apply Exists.intro; (repeat apply Exists.intro); refine And.intro ?_ ?_; exact leOf) | (refine Or.inl ?_; (conv => whnf); (repeat apply Exists.intro); refine And.intro ?_ ?_; exact leOf) | (refine Or.inr ?_; (conv => whnf); first | ((repeat apply Exists.intro); refine And.intro ?_ ?_; exact leOf) | (refine Or.inl ?_; (conv => whnf); (repeat apply Exists.intro); refine And.intro ?_ ?_; exact leOf) | (refine Or.inr ?_; (conv => whnf); (repeat apply Exists.intro); refine And.intro ?_ ?_; exact leOf))) | ((conv => whnf); first | refine And.intro (by assumption) ?_ | refine goT ?_ | refine goF ?_ | refine goL ?_ | refine goR ?_ | refine goRL ?_ | refine goRR ?_))
      all_goals try (conv => whnf)
      refine Again.mk (k + 1 : Nat) (show k + 1 ≤ l by omega) trivial (show l - (k + 1) < l - k by omega) ?_
      ((repeat' ((conv => whnf) <;> first | exact trivial | (with_reducible first | refine And.intro ?_ ?_ | refine rows_lt1 ?_ | refine rows_lt2 ?_ ?_ | refine rows_lt3 ?_ ?_ ?_ | refine rows_lt4 ?_ ?_ ?_ ?_ | refine rows_lt5 ?_ ?_ ?_ ?_ ?_ | refine aggs_lt1 ?_ | refine aggs_lt2 ?_ ?_ | refine aggs_lt3 ?_ ?_ ?_ | refine fun (_ : Nat) => ?_) | refine fun (_ : (_ : Nat) < _) => ?_ | exact rfl | exact Nat.le_of_ble_eq_true rfl | (change (_ : Nat) ≤ _; omega) | (change (_ : Nat) = _; omega) | (change (_ : Int) = _; omega))); (all_goals try (conv => whnf)))
      rename_i j hj
      exact snoc_at (a := min k z.toNat) (by congr 1; omega) hj
    · skip
      repeat (first | ((conv => whnf); refine And.intro ?_ ?_; exact sideOf) | ((conv => whnf); refine NilE.some ?_ ?_; exact sideOf) | ((conv => whnf); refine And.intro (fun _ => ?_) (fun h => nomatch (show true = false from h))) | ((conv => whnf); refine And.intro (fun h => nomatch (show false = true from h)) (fun _ => ?_)) | ((conv => whnf); first | (apply Exists.intro; (repeat apply Exists.intro); refine And.intro ?_ ?_; exact leOf) | (refine Or.inl ?_; (conv => whnf); (repeat apply Exists.intro); refine And.intro ?_ ?_; exact leOf) | (refine Or.inr ?_; (conv => whnf); first | ((repeat apply Exists.intro); refine And.intro ?_ ?_; exact leOf) | (refine Or.inl ?_; (conv => whnf); (repeat apply Exists.intro); refine And.intro ?_ ?_; exact leOf) | (refine Or.inr ?_; (conv => whnf); (repeat apply Exists.intro); refine And.intro ?_ ?_; exact leOf))) | ((conv => whnf); first | refine And.intro (by assumption) ?_ | refine goT ?_ | refine goF ?_ | refine goL ?_ | refine goR ?_ | refine goRL ?_ | refine goRR ?_))
      all_goals try (conv => whnf)
      refine Again.mk (k + 1 : Nat) (show k + 1 ≤ l by omega) trivial (show l - (k + 1) < l - k by omega) ?_
      ((repeat' ((conv => whnf) <;> first | exact trivial | (with_reducible first | refine And.intro ?_ ?_ | refine rows_lt1 ?_ | refine rows_lt2 ?_ ?_ | refine rows_lt3 ?_ ?_ ?_ | refine rows_lt4 ?_ ?_ ?_ ?_ | refine rows_lt5 ?_ ?_ ?_ ?_ ?_ | refine aggs_lt1 ?_ | refine aggs_lt2 ?_ ?_ | refine aggs_lt3 ?_ ?_ ?_ | refine fun (_ : Nat) => ?_) | refine fun (_ : (_ : Nat) < _) => ?_ | exact rfl | exact Nat.le_of_ble_eq_true rfl | (change (_ : Nat) ≤ _; omega) | (change (_ : Nat) = _; omega) | (change (_ : Int) = _; omega))); (all_goals try (conv => whnf)))
  · obtain rfl : k = l := by omega
    repeat (first | ((conv => whnf); refine And.intro ?_ ?_; exact sideOf) | ((conv => whnf); refine NilE.some ?_ ?_; exact sideOf) | ((conv => whnf); refine And.intro (fun _ => ?_) (fun h => nomatch (show true = false from h))) | ((conv => whnf); refine And.intro (fun h => nomatch (show false = true from h)) (fun _ => ?_)) | ((conv => whnf); first | (apply Exists.intro; (repeat apply Exists.intro); refine And.intro ?_ ?_; exact leOf) | (refine Or.inl ?_; (conv => whnf); (repeat apply Exists.intro); refine And.intro ?_ ?_; exact leOf) | (refine Or.inr ?_; (conv => whnf); first | ((repeat apply Exists.intro); refine And.intro ?_ ?_; exact leOf) | (refine Or.inl ?_; (conv => whnf); (repeat apply Exists.intro); refine And.intro ?_ ?_; exact leOf) | (refine Or.inr ?_; (conv => whnf); (repeat apply Exists.intro); refine And.intro ?_ ?_; exact leOf))) | ((conv => whnf); first | refine And.intro (by assumption) ?_ | refine goT ?_ | refine goF ?_ | refine goL ?_ | refine goR ?_ | refine goRL ?_ | refine goRR ?_))
    all_goals try (conv => whnf)
    refine ⟨some, ?_⟩
    ((repeat' ((conv => whnf) <;> first | exact trivial | (with_reducible first | refine And.intro ?_ ?_ | refine rows_lt1 ?_ | refine rows_lt2 ?_ ?_ | refine rows_lt3 ?_ ?_ ?_ | refine rows_lt4 ?_ ?_ ?_ ?_ | refine rows_lt5 ?_ ?_ ?_ ?_ ?_ | refine aggs_lt1 ?_ | refine aggs_lt2 ?_ ?_ | refine aggs_lt3 ?_ ?_ ?_ | refine fun (_ : Nat) => ?_) | refine fun (_ : (_ : Nat) < _) => ?_ | exact rfl | exact Nat.le_of_ble_eq_true rfl | (change (_ : Nat) ≤ _; omega) | (change (_ : Nat) = _; omega) | (change (_ : Int) = _; omega))); (all_goals try (conv => whnf)))
theorem prt3 (l0 l1 l2 : Nat) (b0 b1 b2 : Nat → BitVec 8) : prt [(l0, b0), (l1, b1), (l2, b2)] = prs [l0, l1, l2] [b0, b1, b2] := by
  have : (fun i => bsl (pl [(l0, b0), (l1, b1), (l2, b2)] i) (pb [(l0, b0), (l1, b1), (l2, b2)] i)) = fun i => bsl (nth 0 [l0, l1, l2] i) (nth (fun _ => 0) [b0, b1, b2] i) := by
    funext i
    rcases i with _ | _ | _ | i <;> rfl
  show AV.imm false _ 3 _ = AV.imm false _ 3 _
  rw [this]
def C_r1_Join_3 : SpecR := fun A K => ∃ l0 b0 l1 b1 l2 b2, A [prs [l0, l1, l2] [b0, b1, b2]] ∧ l0 + l1 + l2 ≤ 1000000000 ∧ K (.gsl 5 8 (l0 + l1 + l2)) [(8, .grow 5 (l0 + l1 + l2) (bys (at8 (lw l0 b0 ++ lw l1 b1 ++ lw l2 b2))))]
theorem g_r1_Join_3 : Gd 38 (pureR ty C_r1_Join_3) := good_imp g_r1_Join fun args m key K ⟨l0, b0, l1, b1, l2, b2, hA, h0, hK⟩ => by
  have e : cat [(l0, b0), (l1, b1), (l2, b2)] = lw l0 b0 ++ lw l1 b1 ++ lw l2 b2 := by simp [cat]
  have el : (cat [(l0, b0), (l1, b1), (l2, b2)]).length = l0 + l1 + l2 := by rw [e]; simp only [List.length_append, lw_len]
  refine ⟨[(l0, b0), (l1, b1), (l2, b2)], (by rw [prt3]; exact hA), by rw [el]; exact h0, (show 3 ≤ 1000000 by omega), ?_⟩
  rw [el, e]
  exact hK
theorem join3_at (l0 l1 l2 : Nat) (b0 b1 b2 : Nat → BitVec 8) (j : Nat) (h : j < l0 + l1 + l2) : at8 (lw l0 b0 ++ lw l1 b1 ++ lw l2 b2) j = if j < l0 then b0 j else if j < l0 + l1 then b1 (j - l0) else b2 (j - l0 - l1) := by
  rw [at8_app, at8_app]
  simp only [List.length_append, lw_len]
  by_cases h0 : j < l0
  · rw [if_pos (by omega), if_pos h0, if_pos h0, at8_lw _ _ _ h0]
  · by_cases h1 : j < l0 + l1
    · rw [if_pos h1, if_neg h0, if_neg h0, if_pos h1, at8_lw _ _ _ (by omega)]
    · rw [if_neg h1, if_neg h0, if_neg h1, at8_lw _ _ _ (by omega)]
      congr 1; omega
theorem own_res3 {a b c : AV} (h1 : Own a) (h2 : Own b) (h3 : Own c) : Own (tupOf [a, b, c]) := fun i hi => by
  rcases i with _ | _ | _ | i
  · exact h1
  · exact h2
  · exact h3
  · exact absurd hi (by show ¬ i + 3 < 3; omega)
/-! ### Read -/
abbrev doA (P : Nat) (d : BitVec 8) (i j : Int) (q : Nat) (p : Nat → BitVec 8) (c : Nat) (k : Nat → BitVec 8) : List AV := [xG P, acF d i j q p c k]
abbrev doC (P : Nat) (i j : Int) (q c : Nat) : Prop := P ≤ 1024 ∧ i64' i ∧ i64' j ∧ q ≤ maxLen ∧ c ≤ maxLen
def C_Do0 : SpecM := fun A K => ∃ (P : Nat) (m : Nat → BitVec 8) (d : BitVec 8) (i j : Int) (q : Nat) (p : Nat → BitVec 8) (c : Nat) (k : Nat → BitVec 8), A (doA P d i j q p c k) (xR P m) ∧ doC P i j q c ∧ d % BitVec.ofInt 8 6 = BitVec.ofInt 8 0 ∧
  ((¬ (0 ≤ i ∧ 0 ≤ j ∧ i + j ≤ (P * 256 : Nat)) ∧ K (tupOf [xG P, .nils, .nat 9]) (xR P m)) ∨ ((0 ≤ i ∧ 0 ≤ j ∧ i + j ≤ (P * 256 : Nat)) ∧ K (tupOf [xG P, .gsl 5 8 j.toNat, .nat 0]) (xR P m ++ [(8, .grow 5 j.toNat (bys fun x => m (i.toNat + x)))])))
theorem g_Do0 : Gd 26 (mutD ty [true, false] C_Do0) := by
  refine goodD (E := PG [(36, pureP ty C_r12_in), (17, pureR ty C_r1_CutZ)]) (pgOK ⟨g_r12_in, g_r1_CutZ, trivial⟩) mixes Try.func26 (by kernel_rfl) (by kernel_rfl) ?_
  rintro A K ⟨P, m, d, i, j, q, p, c, k, hA, ⟨hP, hi6, hj6, hq, hc⟩, hd, hK⟩
  have hN : ((P * 256 / 256 : Nat) : Int) = (P : Int) := by omega
  rcases hK with ⟨hr, hK⟩ | ⟨hr, hK⟩
  · refine ⟨_, _, _, _, fun _ => none, hA, hK, by kernel_rfl, by kernel_rfl, ⟨rfl, trivial⟩, ⟨fun _ _ => trivial, trivial⟩, own_res3 trivial trivial trivial, ?_⟩
    have hw : (!decide (0 ≤ i ∧ 0 ≤ j ∧ i + j ≤ ((P * 256 : Nat) : Int))) = true := notT (decide_eq_false hr)
    rcases Int.lt_or_le i 0 with h0 | h0
    · skip
      repeat (first | ((conv => whnf); refine And.intro ?_ ?_; exact sideOf) | ((conv => whnf); refine NilE.some ?_ ?_; exact sideOf) | ((conv => whnf); refine And.intro (fun _ => ?_) (fun h => nomatch (show true = false from h))) | ((conv => whnf); refine And.intro (fun h => nomatch (show false = true from h)) (fun _ => ?_)) | ((conv => whnf); first | (apply Exists.intro; (repeat apply Exists.intro); refine And.intro ?_ ?_; exact leOf) | (refine Or.inl ?_; (conv => whnf); (repeat apply Exists.intro); refine And.intro ?_ ?_; exact leOf) | (refine Or.inr ?_; (conv => whnf); first | ((repeat apply Exists.intro); refine And.intro ?_ ?_; exact leOf) | (refine Or.inl ?_; (conv => whnf); (repeat apply Exists.intro); refine And.intro ?_ ?_; exact leOf) | (refine Or.inr ?_; (conv => whnf); (repeat apply Exists.intro); refine And.intro ?_ ?_; exact leOf))) | ((conv => whnf); first | refine And.intro (by assumption) ?_ | refine goT ?_ | refine goF ?_ | refine goL ?_ | refine goR ?_ | refine goRL ?_ | refine goRR ?_))
      all_goals try (conv => whnf)
      (refine out_fnd ?_; (repeat' ((conv => whnf) <;> first | exact trivial | (with_reducible first | refine And.intro ?_ ?_ | refine rows_lt1 ?_ | refine rows_lt2 ?_ ?_ | refine rows_lt3 ?_ ?_ ?_ | refine rows_lt4 ?_ ?_ ?_ ?_ | refine rows_lt5 ?_ ?_ ?_ ?_ ?_ | refine aggs_lt1 ?_ | refine aggs_lt2 ?_ ?_ | refine aggs_lt3 ?_ ?_ ?_ | refine fun (_ : Nat) => ?_) | refine fun (_ : (_ : Nat) < _) => ?_ | exact rfl | exact Nat.le_of_ble_eq_true rfl | (change (_ : Nat) ≤ _; omega) | (change (_ : Nat) = _; omega) | (change (_ : Int) = _; omega))); (all_goals try (conv => whnf)))
    · skip
      repeat (first | ((conv => whnf); refine And.intro ?_ ?_; exact sideOf) | ((conv => whnf); refine NilE.some ?_ ?_; exact sideOf) | ((conv => whnf); refine And.intro (fun _ => ?_) (fun h => nomatch (show true = false from h))) | ((conv => whnf); refine And.intro (fun h => nomatch (show false = true from h)) (fun _ => ?_)) | ((conv => whnf); first | (apply Exists.intro; (repeat apply Exists.intro); refine And.intro ?_ ?_; exact leOf) | (refine Or.inl ?_; (conv => whnf); (repeat apply Exists.intro); refine And.intro ?_ ?_; exact leOf) | (refine Or.inr ?_; (conv => whnf); first | ((repeat apply Exists.intro); refine And.intro ?_ ?_; exact leOf) | (refine Or.inl ?_; (conv => whnf); (repeat apply Exists.intro); refine And.intro ?_ ?_; exact leOf) | (refine Or.inr ?_; (conv => whnf); (repeat apply Exists.intro); refine And.intro ?_ ?_; exact leOf))) | ((conv => whnf); first | refine And.intro (by assumption) ?_ | refine goT ?_ | refine goF ?_ | refine goL ?_ | refine goR ?_ | refine goRL ?_ | refine goRR ?_))
      all_goals try (conv => whnf)
      (refine out_fnd ?_; (repeat' ((conv => whnf) <;> first | exact trivial | (with_reducible first | refine And.intro ?_ ?_ | refine rows_lt1 ?_ | refine rows_lt2 ?_ ?_ | refine rows_lt3 ?_ ?_ ?_ | refine rows_lt4 ?_ ?_ ?_ ?_ | refine rows_lt5 ?_ ?_ ?_ ?_ ?_ | refine aggs_lt1 ?_ | refine aggs_lt2 ?_ ?_ | refine aggs_lt3 ?_ ?_ ?_ | refine fun (_ : Nat) => ?_) | refine fun (_ : (_ : Nat) < _) => ?_ | exact rfl | exact Nat.le_of_ble_eq_true rfl | (change (_ : Nat) ≤ _; omega) | (change (_ : Nat) = _; omega) | (change (_ : Int) = _; omega))); (all_goals try (conv => whnf)))
  · refine ⟨_, _, _, _, fun _ => none, hA, hK, by kernel_rfl, by kernel_rfl, ⟨rfl, trivial, trivial⟩, ⟨fun _ _ => trivial, fun _ _ => trivial, trivial⟩, own_res3 trivial trivial trivial, ?_⟩
    have hw : (!decide (0 ≤ i ∧ 0 ≤ j ∧ i + j ≤ ((P * 256 : Nat) : Int))) = false := notF (decide_eq_true hr)
    repeat (first | ((conv => whnf); refine And.intro ?_ ?_; exact sideOf) | ((conv => whnf); refine NilE.some ?_ ?_; exact sideOf) | ((conv => whnf); refine And.intro (fun _ => ?_) (fun h => nomatch (show true = false from h))) | ((conv => whnf); refine And.intro (fun h => nomatch (show false = true from h)) (fun _ => ?_)) | ((conv => whnf); first | (apply Exists.intro; (repeat apply Exists.intro); refine And.intro ?_ ?_; exact leOf) | (refine Or.inl ?_; (conv => whnf); (repeat apply Exists.intro); refine And.intro ?_ ?_; exact leOf) | (refine Or.inr ?_; (conv => whnf); first | ((repeat apply Exists.intro); refine And.intro ?_ ?_; exact leOf) | (refine Or.inl ?_; (conv => whnf); (repeat apply Exists.intro); refine And.intro ?_ ?_; exact leOf) | (refine Or.inr ?_; (conv => whnf); (repeat apply Exists.intro); refine And.intro ?_ ?_; exact leOf))) | ((conv => whnf); first | refine And.intro (by assumption) ?_ | refine goT ?_ | refine goF ?_ | refine goL ?_ | refine goR ?_ | refine goRL ?_ | refine goRR ?_))
    all_goals try (conv => whnf)
    (refine out_fnd ?_; (repeat' ((conv => whnf) <;> first | exact trivial | (with_reducible first | refine And.intro ?_ ?_ | refine rows_lt1 ?_ | refine rows_lt2 ?_ ?_ | refine rows_lt3 ?_ ?_ ?_ | refine rows_lt4 ?_ ?_ ?_ ?_ | refine rows_lt5 ?_ ?_ ?_ ?_ ?_ | refine aggs_lt1 ?_ | refine aggs_lt2 ?_ ?_ | refine aggs_lt3 ?_ ?_ ?_ | refine fun (_ : Nat) => ?_) | refine fun (_ : (_ : Nat) < _) => ?_ | exact rfl | exact Nat.le_of_ble_eq_true rfl | (change (_ : Nat) ≤ _; omega) | (change (_ : Nat) = _; omega) | (change (_ : Int) = _; omega))); (all_goals try (conv => whnf)))
end Go.Proofs.Ytjibfjkcngjhmaa
