/- Flash: an act on both (After; all), the example. -/
import Derived.Test.YtjibfjkcngjhmaaYK
namespace Go.Proofs.Ytjibfjkcngjhmaa
open Go.RowKit
set_option maxRecDepth 100000
set_option maxHeartbeats 20000000
abbrev q5E : Nat → (Nat → BitVec 8) → Int → Int → Nat → (Nat → BitVec 8) → Prop := fun P m i j q p => ¬ (0 ≤ i ∧ i < P) ∨ ((0 ≤ i ∧ i < P) ∧ 0 < q ∧ (¬ (0 ≤ j ∧ j + q ≤ 256) ∨ ((0 ≤ j ∧ j + q ≤ 256) ∧ ∃ x, x < q ∧ badB (pgF m i.toNat) j.toNat p x)))
abbrev q50 : Nat → (Nat → BitVec 8) → Int → Int → Nat → (Nat → BitVec 8) → Prop := fun P _ i _ q _ => (0 ≤ i ∧ i < P) ∧ q = 0
abbrev q5 : Nat → (Nat → BitVec 8) → Int → Int → Nat → (Nat → BitVec 8) → Prop := fun P m i j q p => (0 ≤ i ∧ i < P) ∧ 0 < q ∧ (0 ≤ j ∧ j + q ≤ 256) ∧ ∀ x, x < q → ¬ badB (pgF m i.toNat) j.toNat p x
theorem z_add (m : Nat → BitVec 8) : (fun x => m (0 + x)) = m := funext fun x => congrArg m (Nat.zero_add x)
theorem g_do5E : Gd 11 (mutD ty [true, true, false] (C_dok 5 q5E)) := by
  refine goodD (E := PG [(26, mutD ty [true, false] C_Do5E), (20, pureP ty C_fl_AfterE), (15, pureP ty C_same_nn)]) (pgOK ⟨g_Do5E, g_fl_AfterE, g_same_nn, trivial⟩) mixes Try.func11 (by kernel_rfl) (by kernel_rfl) ?_
  rintro A K ⟨P, m, d, i, j, q, p, c, k, hA, ⟨hP, hi6, hj6, hq, hc⟩, hd, hr, hK, hK1⟩
  have hd : d % BitVec.ofInt 8 6 = BitVec.ofInt 8 5 := hd
  have n0 : ¬ d % BitVec.ofInt 8 6 = BitVec.ofInt 8 0 := by rw [hd]; decide
  have n1 : ¬ d % BitVec.ofInt 8 6 = BitVec.ofInt 8 1 := by rw [hd]; decide
  have n2 : ¬ d % BitVec.ofInt 8 6 = BitVec.ofInt 8 2 := by rw [hd]; decide
  have n3 : ¬ d % BitVec.ofInt 8 6 = BitVec.ofInt 8 3 := by rw [hd]; decide
  have n4 : ¬ d % BitVec.ofInt 8 6 = BitVec.ofInt 8 4 := by rw [hd]; decide
  have hdo : doC P i j q c := ⟨hP, hi6, hj6, hq, hc⟩
  have hall : P ≤ 1024 ∧ i64' i ∧ i64' j ∧ q ≤ maxLen := ⟨hP, hi6, hj6, hq⟩
  rcases hr with hr | ⟨hr, h0, hb | hb⟩
  · refine ⟨_, _, _, _, fun _ => none, hA, hK, by kernel_rfl, by kernel_rfl, ⟨trivial, rfl, rfl, trivial⟩, own_d _ _, own_res trivial trivial, ?_⟩
    repeat (first | ((conv => whnf); refine And.intro ?_ ?_; exact sideOf) | ((conv => whnf); refine NilE.some ?_ ?_; exact sideOf) | ((conv => whnf); refine And.intro (fun _ => ?_) (fun h => nomatch (show true = false from h))) | ((conv => whnf); refine And.intro (fun h => nomatch (show false = true from h)) (fun _ => ?_)) | ((conv => whnf); first | (apply Exists.intro; (repeat apply Exists.intro); refine And.intro ?_ ?_; exact leOf) | (refine Or.inl ?_; (conv => whnf); (repeat apply Exists.intro); refine And.intro ?_ ?_; exact leOf) | (refine Or.inr ?_; (conv => whnf); first | ((repeat apply Exists.intro); refine And.intro ?_ ?_; exact leOf) | (refine Or.inl ?_; (conv => whnf); (repeat apply Exists.intro); refine And.intro ?_ ?_; exact leOf) | (refine Or.inr ?_; (conv => whnf); (repeat apply Exists.intro); refine And.intro ?_ ?_; exact leOf))) | ((conv => whnf); first | refine And.intro (by assumption) ?_ | refine goT ?_ | refine goF ?_ | refine goL ?_ | refine goR ?_ | refine goRL ?_ | refine goRR ?_))
    all_goals try (conv => whnf)
    (refine out_fnd ?_; (repeat' ((conv => whnf) <;> first | exact trivial | (with_reducible first | refine And.intro ?_ ?_ | refine rows_lt1 ?_ | refine rows_lt2 ?_ ?_ | refine rows_lt3 ?_ ?_ ?_ | refine rows_lt4 ?_ ?_ ?_ ?_ | refine rows_lt5 ?_ ?_ ?_ ?_ ?_ | refine aggs_lt1 ?_ | refine aggs_lt2 ?_ ?_ | refine aggs_lt3 ?_ ?_ ?_ | refine fun (_ : Nat) => ?_) | refine fun (_ : (_ : Nat) < _) => ?_ | exact rfl | exact Nat.le_of_ble_eq_true rfl | (change (_ : Nat) ≤ _; omega) | (change (_ : Nat) = _; omega) | (change (_ : Int) = _; omega))); (all_goals try (conv => whnf)))
  · refine ⟨_, _, _, _, fun _ => none, hA, hK, by kernel_rfl, by kernel_rfl, ⟨trivial, rfl, rfl, trivial⟩, own_d _ _, own_res trivial trivial, ?_⟩
    repeat (first | ((conv => whnf); refine And.intro ?_ ?_; exact sideOf) | ((conv => whnf); refine NilE.some ?_ ?_; exact sideOf) | ((conv => whnf); refine And.intro (fun _ => ?_) (fun h => nomatch (show true = false from h))) | ((conv => whnf); refine And.intro (fun h => nomatch (show false = true from h)) (fun _ => ?_)) | ((conv => whnf); first | (apply Exists.intro; (repeat apply Exists.intro); refine And.intro ?_ ?_; exact leOf) | (refine Or.inl ?_; (conv => whnf); (repeat apply Exists.intro); refine And.intro ?_ ?_; exact leOf) | (refine Or.inr ?_; (conv => whnf); first | ((repeat apply Exists.intro); refine And.intro ?_ ?_; exact leOf) | (refine Or.inl ?_; (conv => whnf); (repeat apply Exists.intro); refine And.intro ?_ ?_; exact leOf) | (refine Or.inr ?_; (conv => whnf); (repeat apply Exists.intro); refine And.intro ?_ ?_; exact leOf))) | ((conv => whnf); first | refine And.intro (by assumption) ?_ | refine goT ?_ | refine goF ?_ | refine goL ?_ | refine goR ?_ | refine goRL ?_ | refine goRR ?_))
    all_goals try (conv => whnf)
    (refine out_fnd ?_; (repeat' ((conv => whnf) <;> first | exact trivial | (with_reducible first | refine And.intro ?_ ?_ | refine rows_lt1 ?_ | refine rows_lt2 ?_ ?_ | refine rows_lt3 ?_ ?_ ?_ | refine rows_lt4 ?_ ?_ ?_ ?_ | refine rows_lt5 ?_ ?_ ?_ ?_ ?_ | refine aggs_lt1 ?_ | refine aggs_lt2 ?_ ?_ | refine aggs_lt3 ?_ ?_ ?_ | refine fun (_ : Nat) => ?_) | refine fun (_ : (_ : Nat) < _) => ?_ | exact rfl | exact Nat.le_of_ble_eq_true rfl | (change (_ : Nat) ≤ _; omega) | (change (_ : Nat) = _; omega) | (change (_ : Int) = _; omega))); (all_goals try (conv => whnf)))
  · have hb2 : 0 < q ∧ (0 ≤ j ∧ j + (q : Int) ≤ 256) ∧ ∃ x, x < q ∧ badB (pgF (fun x => m (0 + x)) i.toNat) j.toNat p x := by rw [z_add]; exact ⟨h0, hb⟩
    refine ⟨_, _, _, _, fun _ => none, hA, hK, by kernel_rfl, by kernel_rfl, ⟨trivial, rfl, rfl, trivial⟩, own_d _ _, own_res trivial trivial, ?_⟩
    repeat (first | ((conv => whnf); refine And.intro ?_ ?_; exact sideOf) | ((conv => whnf); refine NilE.some ?_ ?_; exact sideOf) | ((conv => whnf); refine And.intro (fun _ => ?_) (fun h => nomatch (show true = false from h))) | ((conv => whnf); refine And.intro (fun h => nomatch (show false = true from h)) (fun _ => ?_)) | ((conv => whnf); first | (apply Exists.intro; (repeat apply Exists.intro); refine And.intro ?_ ?_; exact leOf) | (refine Or.inl ?_; (conv => whnf); (repeat apply Exists.intro); refine And.intro ?_ ?_; exact leOf) | (refine Or.inr ?_; (conv => whnf); first | ((repeat apply Exists.intro); refine And.intro ?_ ?_; exact leOf) | (refine Or.inl ?_; (conv => whnf); (repeat apply Exists.intro); refine And.intro ?_ ?_; exact leOf) | (refine Or.inr ?_; (conv => whnf); (repeat apply Exists.intro); refine And.intro ?_ ?_; exact leOf))) | ((conv => whnf); first | refine And.intro (by assumption) ?_ | refine goT ?_ | refine goF ?_ | refine goL ?_ | refine goR ?_ | refine goRL ?_ | refine goRR ?_))
    all_goals try (conv => whnf)
    (refine out_fnd ?_; (repeat' ((conv => whnf) <;> first | exact trivial | (with_reducible first | refine And.intro ?_ ?_ | refine rows_lt1 ?_ | refine rows_lt2 ?_ ?_ | refine rows_lt3 ?_ ?_ ?_ | refine rows_lt4 ?_ ?_ ?_ ?_ | refine rows_lt5 ?_ ?_ ?_ ?_ ?_ | refine aggs_lt1 ?_ | refine aggs_lt2 ?_ ?_ | refine aggs_lt3 ?_ ?_ ?_ | refine fun (_ : Nat) => ?_) | refine fun (_ : (_ : Nat) < _) => ?_ | exact rfl | exact Nat.le_of_ble_eq_true rfl | (change (_ : Nat) ≤ _; omega) | (change (_ : Nat) = _; omega) | (change (_ : Int) = _; omega))); (all_goals try (conv => whnf)))
theorem g_do50 : Gd 11 (mutD ty [true, true, false] (C_dok 5 q50)) := by
  refine goodD (E := PG [(26, mutD ty [true, false] C_Do50), (20, pureR ty C_fl_After0), (15, pureP ty C_same_eq)]) (pgOK ⟨g_Do50, g_fl_After0, g_same_eq, trivial⟩) mixes Try.func11 (by kernel_rfl) (by kernel_rfl) ?_
  rintro A K ⟨P, m, d, i, j, q, p, c, k, hA, ⟨hP, hi6, hj6, hq, hc⟩, hd, ⟨hi, rfl⟩, hK, hK1⟩
  have hd : d % BitVec.ofInt 8 6 = BitVec.ofInt 8 5 := hd
  have n0 : ¬ d % BitVec.ofInt 8 6 = BitVec.ofInt 8 0 := by rw [hd]; decide
  have n1 : ¬ d % BitVec.ofInt 8 6 = BitVec.ofInt 8 1 := by rw [hd]; decide
  have n2 : ¬ d % BitVec.ofInt 8 6 = BitVec.ofInt 8 2 := by rw [hd]; decide
  have n3 : ¬ d % BitVec.ofInt 8 6 = BitVec.ofInt 8 3 := by rw [hd]; decide
  have n4 : ¬ d % BitVec.ofInt 8 6 = BitVec.ofInt 8 4 := by rw [hd]; decide
  have hdo : doC P i j 0 c := ⟨hP, hi6, hj6, hq, hc⟩
  have hall : P ≤ 1024 ∧ i64' i ∧ (0 ≤ i ∧ i < P) := ⟨hP, hi6, hi⟩
  have hl : 256 ≤ maxLen := by decide
  have hs : ∀ x, x < 256 → (255 : BitVec 8) = 255 := fun _ _ => rfl
  refine ⟨_, _, _, _, fun _ => none, hA, hK, by kernel_rfl, by kernel_rfl, ⟨trivial, rfl, rfl, trivial⟩, own_d _ _, own_res trivial trivial, ?_⟩
  repeat (first | ((conv => whnf); refine And.intro ?_ ?_; exact sideOf) | ((conv => whnf); refine NilE.some ?_ ?_; exact sideOf) | ((conv => whnf); refine And.intro (fun _ => ?_) (fun h => nomatch (show true = false from h))) | ((conv => whnf); refine And.intro (fun h => nomatch (show false = true from h)) (fun _ => ?_)) | ((conv => whnf); first | (apply Exists.intro; (repeat apply Exists.intro); refine And.intro ?_ ?_; exact leOf) | (refine Or.inl ?_; (conv => whnf); (repeat apply Exists.intro); refine And.intro ?_ ?_; exact leOf) | (refine Or.inr ?_; (conv => whnf); first | ((repeat apply Exists.intro); refine And.intro ?_ ?_; exact leOf) | (refine Or.inl ?_; (conv => whnf); (repeat apply Exists.intro); refine And.intro ?_ ?_; exact leOf) | (refine Or.inr ?_; (conv => whnf); (repeat apply Exists.intro); refine And.intro ?_ ?_; exact leOf))) | ((conv => whnf); first | refine And.intro (by assumption) ?_ | refine goT ?_ | refine goF ?_ | refine goL ?_ | refine goR ?_ | refine goRL ?_ | refine goRR ?_))
  all_goals try (conv => whnf)
  (refine out_fnd ?_; (repeat' ((conv => whnf) <;> first | exact trivial | (with_reducible first | refine And.intro ?_ ?_ | refine rows_lt1 ?_ | refine rows_lt2 ?_ ?_ | refine rows_lt3 ?_ ?_ ?_ | refine rows_lt4 ?_ ?_ ?_ ?_ | refine rows_lt5 ?_ ?_ ?_ ?_ ?_ | refine aggs_lt1 ?_ | refine aggs_lt2 ?_ ?_ | refine aggs_lt3 ?_ ?_ ?_ | refine fun (_ : Nat) => ?_) | refine fun (_ : (_ : Nat) < _) => ?_ | exact rfl | exact Nat.le_of_ble_eq_true rfl | (change (_ : Nat) ≤ _; omega) | (change (_ : Nat) = _; omega) | (change (_ : Int) = _; omega))); (all_goals try (conv => whnf)))
theorem g_do5 : Gd 11 (mutD ty [true, true, false] (C_dok 5 q5)) := by
  refine goodD (E := PG [(26, mutD ty [true, false] C_Do5), (20, pureR ty C_fl_After), (15, pureP ty C_same_eq)]) (pgOK ⟨g_Do5, g_fl_After, g_same_eq, trivial⟩) mixes Try.func11 (by kernel_rfl) (by kernel_rfl) ?_
  rintro A K ⟨P, m, d, i, j, q, p, c, k, hA, ⟨hP, hi6, hj6, hq, hc⟩, hd, ⟨hi, h0, hr, hb⟩, hK, hK1⟩
  have hd : d % BitVec.ofInt 8 6 = BitVec.ofInt 8 5 := hd
  have n0 : ¬ d % BitVec.ofInt 8 6 = BitVec.ofInt 8 0 := by rw [hd]; decide
  have n1 : ¬ d % BitVec.ofInt 8 6 = BitVec.ofInt 8 1 := by rw [hd]; decide
  have n2 : ¬ d % BitVec.ofInt 8 6 = BitVec.ofInt 8 2 := by rw [hd]; decide
  have n3 : ¬ d % BitVec.ofInt 8 6 = BitVec.ofInt 8 3 := by rw [hd]; decide
  have n4 : ¬ d % BitVec.ofInt 8 6 = BitVec.ofInt 8 4 := by rw [hd]; decide
  have hdo : doC P i j q c := ⟨hP, hi6, hj6, hq, hc⟩
  have hall : P ≤ 1024 ∧ i64' i ∧ i64' j ∧ (0 ≤ i ∧ i < P) ∧ 0 < q ∧ (0 ≤ j ∧ j + (q : Int) ≤ 256) ∧ ∀ x, x < q → ¬ badB (pgF (fun x => m (0 + x)) i.toNat) j.toNat p x := by rw [z_add]; exact ⟨hP, hi6, hj6, hi, h0, hr, hb⟩
  have hl : 256 ≤ maxLen := by decide
  have hs : ∀ x, x < 256 → setF (pgF (fun x => m (0 + x)) i.toNat) j.toNat q p (0 + x) = setF (pgF m i.toNat) j.toNat q p x := fun x _ => by rw [z_add, Nat.zero_add]
  refine ⟨_, _, _, _, fun _ => none, hA, hK, by kernel_rfl, by kernel_rfl, ⟨trivial, rfl, rfl, trivial⟩, own_d _ _, own_res trivial trivial, ?_⟩
  repeat (first | ((conv => whnf); refine And.intro ?_ ?_; exact sideOf) | ((conv => whnf); refine NilE.some ?_ ?_; exact sideOf) | ((conv => whnf); refine And.intro (fun _ => ?_) (fun h => nomatch (show true = false from h))) | ((conv => whnf); refine And.intro (fun h => nomatch (show false = true from h)) (fun _ => ?_)) | ((conv => whnf); first | (apply Exists.intro; (repeat apply Exists.intro); refine And.intro ?_ ?_; exact leOf) | (refine Or.inl ?_; (conv => whnf); (repeat apply Exists.intro); refine And.intro ?_ ?_; exact leOf) | (refine Or.inr ?_; (conv => whnf); first | ((repeat apply Exists.intro); refine And.intro ?_ ?_; exact leOf) | (refine Or.inl ?_; (conv => whnf); (repeat apply Exists.intro); refine And.intro ?_ ?_; exact leOf) | (refine Or.inr ?_; (conv => whnf); (repeat apply Exists.intro); refine And.intro ?_ ?_; exact leOf))) | ((conv => whnf); first | refine And.intro (by assumption) ?_ | refine goT ?_ | refine goF ?_ | refine goL ?_ | refine goR ?_ | refine goRL ?_ | refine goRR ?_))
  all_goals try (conv => whnf)
  (refine out_fnd ?_; (repeat' ((conv => whnf) <;> first | exact trivial | (with_reducible first | refine And.intro ?_ ?_ | refine rows_lt1 ?_ | refine rows_lt2 ?_ ?_ | refine rows_lt3 ?_ ?_ ?_ | refine rows_lt4 ?_ ?_ ?_ ?_ | refine rows_lt5 ?_ ?_ ?_ ?_ ?_ | refine aggs_lt1 ?_ | refine aggs_lt2 ?_ ?_ | refine aggs_lt3 ?_ ?_ ?_ | refine fun (_ : Nat) => ?_) | refine fun (_ : (_ : Nat) < _) => ?_ | exact rfl | exact Nat.le_of_ble_eq_true rfl | (change (_ : Nat) ≤ _; omega) | (change (_ : Nat) = _; omega) | (change (_ : Int) = _; omega))); (all_goals try (conv => whnf)))
/-- All of them. -/
theorem mod6 (d : BitVec 8) : d % BitVec.ofInt 8 6 = BitVec.ofInt 8 0 ∨ d % BitVec.ofInt 8 6 = BitVec.ofInt 8 1 ∨ d % BitVec.ofInt 8 6 = BitVec.ofInt 8 2 ∨ d % BitVec.ofInt 8 6 = BitVec.ofInt 8 3 ∨ d % BitVec.ofInt 8 6 = BitVec.ofInt 8 4 ∨ d % BitVec.ofInt 8 6 = BitVec.ofInt 8 5 := by
  revert d; decide
theorem bad_all (Q : Nat → Prop) [DecidablePred Q] (n : Nat) : (∃ x, x < n ∧ Q x) ∨ ∀ x, x < n → ¬ Q x := by
  rcases first_bad Q n with h | ⟨k, h1, h2, _⟩
  · exact .inr h
  · exact .inl ⟨k, h1, h2⟩
def C_do : SpecM := fun A K => ∃ (P : Nat) (m : Nat → BitVec 8) (d : BitVec 8) (i j : Int) (q : Nat) (p : Nat → BitVec 8) (c : Nat) (k : Nat → BitVec 8), A (dA P d i j q p c k) (dR P m) ∧ doC P i j q c ∧ K (dK0 P) (dR P m) ∧ ∀ m', K (dK1 P) (dR2 P m m')
theorem g_do : Gd 11 (mutD ty [true, true, false] C_do) := fun args mm key K h => by
  rw [mutD_eq] at h
  obtain ⟨P, m, d, i, j, q, p, c, k, hA, hc, hK, hK1⟩ := h
  have go : ∀ n Q, Gd 11 (mutD ty [true, true, false] (C_dok n Q)) → d % BitVec.ofInt 8 6 = BitVec.ofInt 8 n → Q P m i j q p → ∃ r, K r ∧ FnValid Try.prog ty gl 11 args mm key r := fun n Q hg hd hQ => hg args mm key K (by
    rw [mutD_eq]
    exact ⟨P, m, d, i, j, q, p, c, k, hA, hc, hd, hQ, hK, hK1⟩)
  rcases mod6 d with hd | hd | hd | hd | hd | hd
  · by_cases hr : q0 P m i j q p
    · exact go 0 q0 g_do0 hd hr
    · exact go 0 q0E g_do0E hd hr
  · exact go 1 q1 g_do1 hd trivial
  · by_cases hr : 0 ≤ i ∧ i + q ≤ ((P * 256 : Nat) : Int)
    · rcases bad_all (badB m i.toNat p) q with hb | hb
      · exact go 2 q2E g_do2E hd (.inr ⟨hr, hb⟩)
      · exact go 2 q2 g_do2 hd ⟨hr, hb⟩
    · exact go 2 q2E g_do2E hd (.inl hr)
  · exact go 3 q1 g_do3 hd trivial
  · exact go 4 q1 g_do4 hd trivial
  · by_cases hi : 0 ≤ i ∧ i < P
    · rcases Nat.eq_zero_or_pos q with h0 | h0
      · exact go 5 q50 g_do50 hd ⟨hi, h0⟩
      · by_cases hr : 0 ≤ j ∧ j + q ≤ 256
        · rcases bad_all (badB (pgF m i.toNat) j.toNat p) q with hb | hb
          · exact go 5 q5E g_do5E hd (.inr ⟨hi, h0, .inr ⟨hr, hb⟩⟩)
          · exact go 5 q5 g_do5 hd ⟨hi, h0, hr, hb⟩
        · exact go 5 q5E g_do5E hd (.inr ⟨hi, h0, .inl hr⟩)
    · exact go 5 q5E g_do5E hd (.inl hi)
end Go.Proofs.Ytjibfjkcngjhmaa
