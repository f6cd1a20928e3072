/- Flash: the reference's Tear. -/
import Derived.Test.YtjibfjkcngjhmaaYI
namespace Go.Proofs.Ytjibfjkcngjhmaa
open Go.RowKit
set_option maxRecDepth 100000
set_option maxHeartbeats 20000000
theorem tear_ref (v k p : BitVec 8) : k &&& p ||| (BitVec.ofInt 8 255 - k) &&& v = v &&& ~~~k ||| p &&& k := by
  have h : BitVec.ofInt 8 255 - k = ~~~k := by
    have : ∀ k : BitVec 8, BitVec.ofInt 8 255 - k = ~~~k := by decide
    exact this k
  rw [h, BitVec.or_comm, BitVec.and_comm (~~~k) v, BitVec.and_comm k p]
attribute [local semireducible] tearF in
theorem join_tear (m : Nat → BitVec 8) (a n x : Nat) (p k : Nat → BitVec 8) (hn : n ≤ 256) : (if x < a * 256 then m (0 + x) else if x < a * 256 + 256 then tearF (fun y => m (a * 256 + y)) 0 n p k (x - a * 256) else m (a * 256 + 256 + (x - a * 256 - 256))) = tearF m (a * 256) n p k x := by
  rw [join_set m (tearF (fun y => m (a * 256 + y)) 0 n p k) a x]
  unfold setF tearF
  by_cases h0 : a * 256 ≤ x ∧ x < a * 256 + 256
  · rw [if_pos h0]
    have e : a * 256 + (x - a * 256) = x := by omega
    by_cases h1 : x < a * 256 + n
    · rw [if_pos (by omega), if_pos (by omega)]
      show m (a * 256 + (x - a * 256)) &&& ~~~k (x - a * 256 - 0) ||| p (x - a * 256 - 0) &&& k (x - a * 256 - 0) = _
      rw [e, Nat.sub_zero]
    · rw [if_neg (by omega), if_neg (by omega)]
      show m (a * 256 + (x - a * 256)) = _
      rw [e]
  · rw [if_neg h0, if_neg (by omega)]
def L_Do3 (P : Nat) (m : Nat → BitVec 8) (d : BitVec 8) (i j : Int) (q : Nat) (p : Nat → BitVec 8) (c : Nat) (k : Nat → BitVec 8) : LI :=
  ⟨Nat, (· ≤ min (min 256 q) c), fun x => [(0, xG P), (3, .ptr TAcF 8 []), (12, .gsl 5 8240 256), (15, .nat x)], fun x => xR P m ++ [(8, .var TAcF (acF d i j q p c k)), (8240, .grow 5 256 (bys (tearF (fun y => m (i.toNat * 256 + y)) 0 x p k)))], fun x => 256 - x, some, some⟩
def C_Do3 : SpecM := fun A K => ∃ (P : Nat) (m : Nat → BitVec 8) (d : BitVec 8) (i j : Int) (q : Nat) (p : Nat → BitVec 8) (c : Nat) (k : Nat → BitVec 8), A (doA P d i j q p c k) (xR P m) ∧ doC P i j q c ∧ d % BitVec.ofInt 8 6 = BitVec.ofInt 8 3 ∧
  ((¬ (0 ≤ i ∧ i < P) ∧ K (tupOf [xG P, .nils, .nat 9]) (xR P m)) ∨ ((0 ≤ i ∧ i < P) ∧ K (tupOf [xN P, .nils, .nat 0]) (xR2 P m (tearF m (i.toNat * 256) (min (min 256 q) c) p k))))
theorem g_Do3 : Gd 26 (mutD ty [true, false] C_Do3) := by
  refine goodD (E := PG [(17, pureR ty C_r1_CutZ), (38, pureR ty C_r1_Join_3)]) (pgOK ⟨g_r1_CutZ, g_r1_Join_3, trivial⟩) mixes Try.func26 (by kernel_rfl) (by kernel_rfl) ?_
  rintro A K ⟨P, m, d, i, j, q, p, c, k, hA, ⟨hP, hi6, hj6, hq, hc⟩, hd, hK⟩
  have n0 : ¬ d % BitVec.ofInt 8 6 = BitVec.ofInt 8 0 := by rw [hd]; decide
  have n1 : ¬ d % BitVec.ofInt 8 6 = BitVec.ofInt 8 1 := by rw [hd]; decide
  have n2 : ¬ d % BitVec.ofInt 8 6 = BitVec.ofInt 8 2 := by rw [hd]; decide
  have n4 : ¬ d % BitVec.ofInt 8 6 = BitVec.ofInt 8 4 := by rw [hd]; decide
  have n5 : ¬ d % BitVec.ofInt 8 6 = BitVec.ofInt 8 5 := by rw [hd]; decide
  rcases hK with ⟨hi, hK⟩ | ⟨hi, hK⟩
  · refine ⟨_, _, _, _, fun _ => none, hA, hK, by kernel_rfl, by kernel_rfl, ⟨rfl, trivial⟩, ⟨fun _ _ => trivial, trivial⟩, own_res3 trivial trivial trivial, ?_⟩
    rcases Int.lt_or_le i 0 with h0 | h0
    · skip
      repeat (first | ((conv => whnf); refine And.intro ?_ ?_; exact sideOf) | ((conv => whnf); refine NilE.some ?_ ?_; exact sideOf) | ((conv => whnf); refine And.intro (fun _ => ?_) (fun h => nomatch (show true = false from h))) | ((conv => whnf); refine And.intro (fun h => nomatch (show false = true from h)) (fun _ => ?_)) | ((conv => whnf); first | (apply Exists.intro; (repeat apply Exists.intro); refine And.intro ?_ ?_; exact leOf) | (refine Or.inl ?_; (conv => whnf); (repeat apply Exists.intro); refine And.intro ?_ ?_; exact leOf) | (refine Or.inr ?_; (conv => whnf); first | ((repeat apply Exists.intro); refine And.intro ?_ ?_; exact leOf) | (refine Or.inl ?_; (conv => whnf); (repeat apply Exists.intro); refine And.intro ?_ ?_; exact leOf) | (refine Or.inr ?_; (conv => whnf); (repeat apply Exists.intro); refine And.intro ?_ ?_; exact leOf))) | ((conv => whnf); first | refine And.intro (by assumption) ?_ | refine goT ?_ | refine goF ?_ | refine goL ?_ | refine goR ?_ | refine goRL ?_ | refine goRR ?_))
      all_goals try (conv => whnf)
      (refine out_fnd ?_; (repeat' ((conv => whnf) <;> first | exact trivial | (with_reducible first | refine And.intro ?_ ?_ | refine rows_lt1 ?_ | refine rows_lt2 ?_ ?_ | refine rows_lt3 ?_ ?_ ?_ | refine rows_lt4 ?_ ?_ ?_ ?_ | refine rows_lt5 ?_ ?_ ?_ ?_ ?_ | refine aggs_lt1 ?_ | refine aggs_lt2 ?_ ?_ | refine aggs_lt3 ?_ ?_ ?_ | refine fun (_ : Nat) => ?_) | refine fun (_ : (_ : Nat) < _) => ?_ | exact rfl | exact Nat.le_of_ble_eq_true rfl | (change (_ : Nat) ≤ _; omega) | (change (_ : Nat) = _; omega) | (change (_ : Int) = _; omega))); (all_goals try (conv => whnf)))
    · have hn := there_no hi h0
      repeat (first | ((conv => whnf); refine And.intro ?_ ?_; exact sideOf) | ((conv => whnf); refine NilE.some ?_ ?_; exact sideOf) | ((conv => whnf); refine And.intro (fun _ => ?_) (fun h => nomatch (show true = false from h))) | ((conv => whnf); refine And.intro (fun h => nomatch (show false = true from h)) (fun _ => ?_)) | ((conv => whnf); first | (apply Exists.intro; (repeat apply Exists.intro); refine And.intro ?_ ?_; exact leOf) | (refine Or.inl ?_; (conv => whnf); (repeat apply Exists.intro); refine And.intro ?_ ?_; exact leOf) | (refine Or.inr ?_; (conv => whnf); first | ((repeat apply Exists.intro); refine And.intro ?_ ?_; exact leOf) | (refine Or.inl ?_; (conv => whnf); (repeat apply Exists.intro); refine And.intro ?_ ?_; exact leOf) | (refine Or.inr ?_; (conv => whnf); (repeat apply Exists.intro); refine And.intro ?_ ?_; exact leOf))) | ((conv => whnf); first | refine And.intro (by assumption) ?_ | refine goT ?_ | refine goF ?_ | refine goL ?_ | refine goR ?_ | refine goRL ?_ | refine goRR ?_))
      all_goals try (conv => whnf)
      (refine out_fnd ?_; (repeat' ((conv => whnf) <;> first | exact trivial | (with_reducible first | refine And.intro ?_ ?_ | refine rows_lt1 ?_ | refine rows_lt2 ?_ ?_ | refine rows_lt3 ?_ ?_ ?_ | refine rows_lt4 ?_ ?_ ?_ ?_ | refine rows_lt5 ?_ ?_ ?_ ?_ ?_ | refine aggs_lt1 ?_ | refine aggs_lt2 ?_ ?_ | refine aggs_lt3 ?_ ?_ ?_ | refine fun (_ : Nat) => ?_) | refine fun (_ : (_ : Nat) < _) => ?_ | exact rfl | exact Nat.le_of_ble_eq_true rfl | (change (_ : Nat) ≤ _; omega) | (change (_ : Nat) = _; omega) | (change (_ : Int) = _; omega))); (all_goals try (conv => whnf)))
  · refine ⟨_, _, _, _, loops [(24, L_Do3 P m d i j q p c k)], hA, hK, by kernel_rfl, by kernel_rfl, ⟨rfl, trivial, trivial⟩, ⟨fun _ _ => trivial, fun _ _ => trivial, trivial⟩, own_res3 trivial trivial trivial, ?_⟩
    have hn := there_yes hi
    repeat (first | ((conv => whnf); refine And.intro ?_ ?_; exact sideOf) | ((conv => whnf); refine NilE.some ?_ ?_; exact sideOf) | ((conv => whnf); refine And.intro (fun _ => ?_) (fun h => nomatch (show true = false from h))) | ((conv => whnf); refine And.intro (fun h => nomatch (show false = true from h)) (fun _ => ?_)) | ((conv => whnf); first | (apply Exists.intro; (repeat apply Exists.intro); refine And.intro ?_ ?_; exact leOf) | (refine Or.inl ?_; (conv => whnf); (repeat apply Exists.intro); refine And.intro ?_ ?_; exact leOf) | (refine Or.inr ?_; (conv => whnf); first | ((repeat apply Exists.intro); refine And.intro ?_ ?_; exact leOf) | (refine Or.inl ?_; (conv => whnf); (repeat apply Exists.intro); refine And.intro ?_ ?_; exact leOf) | (refine Or.inr ?_; (conv => whnf); (repeat apply Exists.intro); refine And.intro ?_ ?_; exact leOf))) | ((conv => whnf); first | refine And.intro (by assumption) ?_ | refine goT ?_ | refine goF ?_ | refine goL ?_ | refine goR ?_ | refine goRL ?_ | refine goRR ?_))
    all_goals try (conv => whnf)
    have e := e256 hi.1
    have e2 := e256' hi.1
    refine ⟨P * 256 - i.toNat * 256, fun x => m (i.toNat * 256 + x), 256, ?_, by omega, by omega, ?_⟩
    · ((repeat' ((conv => whnf) <;> first | exact trivial | (with_reducible first | refine And.intro ?_ ?_ | refine rows_lt1 ?_ | refine rows_lt2 ?_ ?_ | refine rows_lt3 ?_ ?_ ?_ | refine rows_lt4 ?_ ?_ ?_ ?_ | refine rows_lt5 ?_ ?_ ?_ ?_ ?_ | refine aggs_lt1 ?_ | refine aggs_lt2 ?_ ?_ | refine aggs_lt3 ?_ ?_ ?_ | refine fun (_ : Nat) => ?_) | refine fun (_ : (_ : Nat) < _) => ?_ | exact rfl | exact Nat.le_of_ble_eq_true rfl | (change (_ : Nat) ≤ _; omega) | (change (_ : Nat) = _; omega) | (change (_ : Int) = _; omega))); (all_goals try (conv => whnf)))
      rw [e]
    rw [show min (P * 256 - i.toNat * 256) (Int.toNat 256) = 256 from Nat.min_eq_right (by show 256 ≤ _; omega)]
    repeat (first | ((conv => whnf); refine And.intro ?_ ?_; exact sideOf) | ((conv => whnf); refine NilE.some ?_ ?_; exact sideOf) | ((conv => whnf); refine And.intro (fun _ => ?_) (fun h => nomatch (show true = false from h))) | ((conv => whnf); refine And.intro (fun h => nomatch (show false = true from h)) (fun _ => ?_)) | ((conv => whnf); first | (apply Exists.intro; (repeat apply Exists.intro); refine And.intro ?_ ?_; exact leOf) | (refine Or.inl ?_; (conv => whnf); (repeat apply Exists.intro); refine And.intro ?_ ?_; exact leOf) | (refine Or.inr ?_; (conv => whnf); first | ((repeat apply Exists.intro); refine And.intro ?_ ?_; exact leOf) | (refine Or.inl ?_; (conv => whnf); (repeat apply Exists.intro); refine And.intro ?_ ?_; exact leOf) | (refine Or.inr ?_; (conv => whnf); (repeat apply Exists.intro); refine And.intro ?_ ?_; exact leOf))) | ((conv => whnf); first | refine And.intro (by assumption) ?_ | refine goT ?_ | refine goF ?_ | refine goL ?_ | refine goR ?_ | refine goRL ?_ | refine goRR ?_))
    all_goals try (conv => whnf)
    refine Exists.intro (fun _ => True) (And.intro (Enter.mk (0 : Nat) (Nat.zero_le _) trivial ?_) (fun (x : Nat) (hx : x ≤ min (min 256 q) c) _ => ?_))
    · ((repeat' ((conv => whnf) <;> first | exact trivial | (with_reducible first | refine And.intro ?_ ?_ | refine rows_lt1 ?_ | refine rows_lt2 ?_ ?_ | refine rows_lt3 ?_ ?_ ?_ | refine rows_lt4 ?_ ?_ ?_ ?_ | refine rows_lt5 ?_ ?_ ?_ ?_ ?_ | refine aggs_lt1 ?_ | refine aggs_lt2 ?_ ?_ | refine aggs_lt3 ?_ ?_ ?_ | refine fun (_ : Nat) => ?_) | refine fun (_ : (_ : Nat) < _) => ?_ | exact rfl | exact Nat.le_of_ble_eq_true rfl | (change (_ : Nat) ≤ _; omega) | (change (_ : Nat) = _; omega) | (change (_ : Int) = _; omega))); (all_goals try (conv => whnf)))
      exact tearF_zero (fun x => m (i.toNat * 256 + x)) 0 p k _
    have fin : x = min (min 256 q) c → ∀ y, (if y < i.toNat * 256 then m (0 + y) else if y < i.toNat * 256 + 256 then tearF (fun y => m (i.toNat * 256 + y)) 0 x p k (y - i.toNat * 256) else m (i.toNat * 256 + 256 + (y - i.toNat * 256 - 256))) = tearF m (i.toNat * 256) (min (min 256 q) c) p k y := fun h y => by
      rw [h]; exact join_tear m i.toNat _ y p k (by omega)
    rcases Nat.lt_or_ge x 256 with h1 | h1
    · rcases Nat.lt_or_ge x q with h2 | h2
      · rcases Nat.lt_or_ge x c with h3 | h3
        · skip
          repeat (first | ((conv => whnf); refine And.intro ?_ ?_; exact sideOf) | ((conv => whnf); refine NilE.some ?_ ?_; exact sideOf) | ((conv => whnf); refine And.intro (fun _ => ?_) (fun h => nomatch (show true = false from h))) | ((conv => whnf); refine And.intro (fun h => nomatch (show false = true from h)) (fun _ => ?_)) | ((conv => whnf); first | (apply Exists.intro; (repeat apply Exists.intro); refine And.intro ?_ ?_; exact leOf) | (refine Or.inl ?_; (conv => whnf); (repeat apply Exists.intro); refine And.intro ?_ ?_; exact leOf) | (refine Or.inr ?_; (conv => whnf); first | ((repeat apply Exists.intro); refine And.intro ?_ ?_; exact leOf) | (refine Or.inl ?_; (conv => whnf); (repeat apply Exists.intro); refine And.intro ?_ ?_; exact leOf) | (refine Or.inr ?_; (conv => whnf); (repeat apply Exists.intro); refine And.intro ?_ ?_; exact leOf))) | ((conv => whnf); first | refine And.intro (by assumption) ?_ | refine goT ?_ | refine goF ?_ | refine goL ?_ | refine goR ?_ | refine goRL ?_ | refine goRR ?_))
          all_goals try (conv => whnf)
          refine Again.mk (x + 1 : Nat) (show x + 1 ≤ min (min 256 q) c by omega) trivial (show 256 - (x + 1) < 256 - x by omega) ?_
          ((repeat' ((conv => whnf) <;> first | exact trivial | (with_reducible first | refine And.intro ?_ ?_ | refine rows_lt1 ?_ | refine rows_lt2 ?_ ?_ | refine rows_lt3 ?_ ?_ ?_ | refine rows_lt4 ?_ ?_ ?_ ?_ | refine rows_lt5 ?_ ?_ ?_ ?_ ?_ | refine aggs_lt1 ?_ | refine aggs_lt2 ?_ ?_ | refine aggs_lt3 ?_ ?_ ?_ | refine fun (_ : Nat) => ?_) | refine fun (_ : (_ : Nat) < _) => ?_ | exact rfl | exact Nat.le_of_ble_eq_true rfl | (change (_ : Nat) ≤ _; omega) | (change (_ : Nat) = _; omega) | (change (_ : Int) = _; omega))); (all_goals try (conv => whnf)))
          rename_i y hy
          have := tearF_step (fun y => m (i.toNat * 256 + y)) 0 x p k y
          rw [← tear_ref, Nat.zero_add] at this
          exact this
        · have hf := fin (by omega)
          repeat (first | ((conv => whnf); refine And.intro ?_ ?_; exact sideOf) | ((conv => whnf); refine NilE.some ?_ ?_; exact sideOf) | ((conv => whnf); refine And.intro (fun _ => ?_) (fun h => nomatch (show true = false from h))) | ((conv => whnf); refine And.intro (fun h => nomatch (show false = true from h)) (fun _ => ?_)) | ((conv => whnf); first | (apply Exists.intro; (repeat apply Exists.intro); refine And.intro ?_ ?_; exact leOf) | (refine Or.inl ?_; (conv => whnf); (repeat apply Exists.intro); refine And.intro ?_ ?_; exact leOf) | (refine Or.inr ?_; (conv => whnf); first | ((repeat apply Exists.intro); refine And.intro ?_ ?_; exact leOf) | (refine Or.inl ?_; (conv => whnf); (repeat apply Exists.intro); refine And.intro ?_ ?_; exact leOf) | (refine Or.inr ?_; (conv => whnf); (repeat apply Exists.intro); refine And.intro ?_ ?_; exact leOf))) | ((conv => whnf); first | refine And.intro (by assumption) ?_ | refine goT ?_ | refine goF ?_ | refine goL ?_ | refine goR ?_ | refine goRL ?_ | refine goRR ?_))
          all_goals try (conv => whnf)
          (refine out_fnd ?_; (repeat' ((conv => whnf) <;> first | exact trivial | (with_reducible first | refine And.intro ?_ ?_ | refine rows_lt1 ?_ | refine rows_lt2 ?_ ?_ | refine rows_lt3 ?_ ?_ ?_ | refine rows_lt4 ?_ ?_ ?_ ?_ | refine rows_lt5 ?_ ?_ ?_ ?_ ?_ | refine aggs_lt1 ?_ | refine aggs_lt2 ?_ ?_ | refine aggs_lt3 ?_ ?_ ?_ | refine fun (_ : Nat) => ?_) | refine fun (_ : (_ : Nat) < _) => ?_ | exact rfl | exact Nat.le_of_ble_eq_true rfl | (change (_ : Nat) ≤ _; omega) | (change (_ : Nat) = _; omega) | (change (_ : Int) = _; omega))); (all_goals try (conv => whnf)))
          rename_i y hy
          rw [e, e2] at hy
          have hy : y < i.toNat * 256 - 0 + 256 + (P * 256 - (i.toNat * 256 + 256)) := hy
          rw [e, e2, Nat.sub_zero, join3_at _ _ _ _ _ _ _ (by omega)]
          exact hf y
      · have hf := fin (by omega)
        repeat (first | ((conv => whnf); refine And.intro ?_ ?_; exact sideOf) | ((conv => whnf); refine NilE.some ?_ ?_; exact sideOf) | ((conv => whnf); refine And.intro (fun _ => ?_) (fun h => nomatch (show true = false from h))) | ((conv => whnf); refine And.intro (fun h => nomatch (show false = true from h)) (fun _ => ?_)) | ((conv => whnf); first | (apply Exists.intro; (repeat apply Exists.intro); refine And.intro ?_ ?_; exact leOf) | (refine Or.inl ?_; (conv => whnf); (repeat apply Exists.intro); refine And.intro ?_ ?_; exact leOf) | (refine Or.inr ?_; (conv => whnf); first | ((repeat apply Exists.intro); refine And.intro ?_ ?_; exact leOf) | (refine Or.inl ?_; (conv => whnf); (repeat apply Exists.intro); refine And.intro ?_ ?_; exact leOf) | (refine Or.inr ?_; (conv => whnf); (repeat apply Exists.intro); refine And.intro ?_ ?_; exact leOf))) | ((conv => whnf); first | refine And.intro (by assumption) ?_ | refine goT ?_ | refine goF ?_ | refine goL ?_ | refine goR ?_ | refine goRL ?_ | refine goRR ?_))
        all_goals try (conv => whnf)
        (refine out_fnd ?_; (repeat' ((conv => whnf) <;> first | exact trivial | (with_reducible first | refine And.intro ?_ ?_ | refine rows_lt1 ?_ | refine rows_lt2 ?_ ?_ | refine rows_lt3 ?_ ?_ ?_ | refine rows_lt4 ?_ ?_ ?_ ?_ | refine rows_lt5 ?_ ?_ ?_ ?_ ?_ | refine aggs_lt1 ?_ | refine aggs_lt2 ?_ ?_ | refine aggs_lt3 ?_ ?_ ?_ | refine fun (_ : Nat) => ?_) | refine fun (_ : (_ : Nat) < _) => ?_ | exact rfl | exact Nat.le_of_ble_eq_true rfl | (change (_ : Nat) ≤ _; omega) | (change (_ : Nat) = _; omega) | (change (_ : Int) = _; omega))); (all_goals try (conv => whnf)))
        rename_i y hy
        rw [e, e2] at hy
        have hy : y < i.toNat * 256 - 0 + 256 + (P * 256 - (i.toNat * 256 + 256)) := hy
        rw [e, e2, Nat.sub_zero, join3_at _ _ _ _ _ _ _ (by omega)]
        exact hf y
    · have hf := fin (by omega)
      repeat (first | ((conv => whnf); refine And.intro ?_ ?_; exact sideOf) | ((conv => whnf); refine NilE.some ?_ ?_; exact sideOf) | ((conv => whnf); refine And.intro (fun _ => ?_) (fun h => nomatch (show true = false from h))) | ((conv => whnf); refine And.intro (fun h => nomatch (show false = true from h)) (fun _ => ?_)) | ((conv => whnf); first | (apply Exists.intro; (repeat apply Exists.intro); refine And.intro ?_ ?_; exact leOf) | (refine Or.inl ?_; (conv => whnf); (repeat apply Exists.intro); refine And.intro ?_ ?_; exact leOf) | (refine Or.inr ?_; (conv => whnf); first | ((repeat apply Exists.intro); refine And.intro ?_ ?_; exact leOf) | (refine Or.inl ?_; (conv => whnf); (repeat apply Exists.intro); refine And.intro ?_ ?_; exact leOf) | (refine Or.inr ?_; (conv => whnf); (repeat apply Exists.intro); refine And.intro ?_ ?_; exact leOf))) | ((conv => whnf); first | refine And.intro (by assumption) ?_ | refine goT ?_ | refine goF ?_ | refine goL ?_ | refine goR ?_ | refine goRL ?_ | refine goRR ?_))
      all_goals try (conv => whnf)
      (refine out_fnd ?_; (repeat' ((conv => whnf) <;> first | exact trivial | (with_reducible first | refine And.intro ?_ ?_ | refine rows_lt1 ?_ | refine rows_lt2 ?_ ?_ | refine rows_lt3 ?_ ?_ ?_ | refine rows_lt4 ?_ ?_ ?_ ?_ | refine rows_lt5 ?_ ?_ ?_ ?_ ?_ | refine aggs_lt1 ?_ | refine aggs_lt2 ?_ ?_ | refine aggs_lt3 ?_ ?_ ?_ | refine fun (_ : Nat) => ?_) | refine fun (_ : (_ : Nat) < _) => ?_ | exact rfl | exact Nat.le_of_ble_eq_true rfl | (change (_ : Nat) ≤ _; omega) | (change (_ : Nat) = _; omega) | (change (_ : Int) = _; omega))); (all_goals try (conv => whnf)))
      rename_i y hy
      rw [e, e2] at hy
      have hy : y < i.toNat * 256 - 0 + 256 + (P * 256 - (i.toNat * 256 + 256)) := hy
      rw [e, e2, Nat.sub_zero, join3_at _ _ _ _ _ _ _ (by omega)]
      exact hf y
end Go.Proofs.Ytjibfjkcngjhmaa
