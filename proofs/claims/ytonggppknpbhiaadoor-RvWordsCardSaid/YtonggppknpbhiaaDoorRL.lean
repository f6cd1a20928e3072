/- RvWords. -/
import Derived.Test.YtonggppknpbhiaaDoorRJ
namespace Go.Proofs.YtonggppknpbhiaaDoor
open Go.RowKit
set_option maxRecDepth 100000
set_option maxHeartbeats 20000000
theorem en_yes {o r x y : BitVec 8} {i : BitVec 32} {c : BitVec 16} (h : enO o r x y i c = true) : isV (enW o r x y i c) = true ∧ eqB (dcA (enW o r x y i c)) (insA o r x y i c) = true := by
  have e : enW o r x y i c = wdV o r x y i c := by unfold enW; rw [h]; rfl
  rw [e]
  unfold enO at h
  exact (Bool.and_eq_true_iff.1 h)
theorem en_no {o r x y : BitVec 8} {i : BitVec 32} {c : BitVec 16} (h : enO o r x y i c = false) : enW o r x y i c = BitVec.ofInt 32 0 := by unfold enW; rw [h]; rfl
theorem is_0 : isV (BitVec.ofInt 32 0) = false := by decide +kernel
attribute [local irreducible] enW enO cdV valN isV opV fR fA fB fI fC
def C_l19_RvWords : SpecP := fun A K => ∃ (n : Nat) (o r x y : Nat → BitVec 8) (i : Nat → BitVec 32) (c : Nat → BitVec 16), A [inss n o r x y i c] ∧ n ≤ maxLen ∧ K (.bo true)
noncomputable def L_rw_a (n : Nat) (o r x y : Nat → BitVec 8) (i : Nat → BitVec 32) (c : Nat → BitVec 16) : LI := ⟨Nat, (· ≤ n), fun k => [(3, bsf (4 * n) (cdV o r x y i c)), (20, inss n o r x y i c), (21, .nat n), (22, .nat k)], fun _ => [], fun k => n - k, some, some⟩
noncomputable def L_rw_b (n : Nat) (o r x y : Nat → BitVec 8) (i : Nat → BitVec 32) (c : Nat → BitVec 16) : LI := ⟨Nat × BitVec 32, fun p => p.1 < n, fun p => [(3, bsf (4 * n) (cdV o r x y i c)), (4, .nat p.1), (5, .ptr TIns 1056 []), (6, .u32 p.2), (20, inss n o r x y i c), (21, .nat n), (22, .nat p.1)], fun p => [(1056, .var TIns (insA (o p.1) (r p.1) (x p.1) (y p.1) (i p.1) (c p.1)))], fun _ => 0, some, some⟩
theorem g_l19_RvWords : Gd 6 (pureP ty C_l19_RvWords) := by
  refine goodP (E := PG [(7, pureP ty C_l19_awake), (12, pureP ty C_rv_Code), (10, pureP ty C_rv_Decode), (8, pureP ty C_rv_Encode), (14, pureP ty C_r1_Value)]) (pgOK ⟨g_l19_awake, g_rv_Code, g_rv_Decode, g_rv_Encode, g_r1_Value, trivial⟩) mixes Tryd.func6 (by kernel_rfl) (by kernel_rfl) ?_
  rintro A K ⟨n0, o, r, x, y, i, c, hA, hm, hK⟩
  unfold maxLen at hm
  obtain ⟨n, hn⟩ : ∃ n, n = min n0 30 := ⟨_, rfl⟩
  have hn30 : n ≤ 30 := by omega
  have hn0 : n ≤ n0 := by omega
  refine ⟨_, _, loops [(6, L_rw_a n (fun k => o (0 + k)) (fun k => r (0 + k)) (fun k => x (0 + k)) (fun k => y (0 + k)) (fun k => i (0 + k)) (fun k => c (0 + k))), (100009, L_rw_b n (fun k => o (0 + k)) (fun k => r (0 + k)) (fun k => x (0 + k)) (fun k => y (0 + k)) (fun k => i (0 + k)) (fun k => c (0 + k)))], hA, hK, by kernel_rfl, trivial, ?_⟩
  repeat ((conv => whnf); first | refine sdO ?_ | refine nlO ?_ | refine goA ?_ | refine goB ?_ | (apply Exists.intro; (repeat apply Exists.intro); refine caO ?_) | (refine Or.inl ?_; (conv => whnf); (repeat apply Exists.intro); refine caO ?_) | (refine Or.inr ?_; (conv => whnf); first | ((repeat apply Exists.intro); refine caO ?_) | (refine Or.inl ?_; (conv => whnf); (repeat apply Exists.intro); refine caO ?_) | (refine Or.inr ?_; (conv => whnf); (repeat apply Exists.intro); refine caO ?_)) | refine And.intro (by assumption) ?_ | refine goT ?_ | refine goF ?_ | refine goL ?_ | refine goR ?_ | refine goRL ?_ | refine goRR ?_)
  all_goals try (conv => whnf)
  refine Exists.intro (fun _ => True) (And.intro (Enter.mk (0 : Nat) (Nat.zero_le _) trivial ?_) (fun (k : Nat) (hk : k ≤ n) _ => ?_))
  · ((repeat' ((conv => whnf) <;> first | exact trivial | (with_reducible first | refine And.intro ?_ ?_ | refine rows_lt1 ?_ | refine rows_lt2 ?_ ?_ | refine rows_lt3 ?_ ?_ ?_ | refine rows_lt4 ?_ ?_ ?_ ?_ | refine rows_lt5 ?_ ?_ ?_ ?_ ?_ | refine aggs_lt1 ?_ | refine aggs_lt2 ?_ ?_ | refine aggs_lt3 ?_ ?_ ?_ | refine fun (_ : Nat) => ?_) | refine fun (_ : (_ : Nat) < _) => ?_ | exact rfl | exact Nat.le_of_ble_eq_true rfl | (change (_ : Nat) ≤ _; omega) | (change (_ : Nat) = _; omega) | (change (_ : Int) = _; omega))); (all_goals try (conv => whnf)))
  rcases Nat.lt_or_ge k n with h | h
  · have c0 := cdV_at (fun k => o (0 + k)) (fun k => r (0 + k)) (fun k => x (0 + k)) (fun k => y (0 + k)) (fun k => i (0 + k)) (fun k => c (0 + k)) k 0 (by decide)
    have c1 := cdV_at (fun k => o (0 + k)) (fun k => r (0 + k)) (fun k => x (0 + k)) (fun k => y (0 + k)) (fun k => i (0 + k)) (fun k => c (0 + k)) k 1 (by decide)
    have c2 := cdV_at (fun k => o (0 + k)) (fun k => r (0 + k)) (fun k => x (0 + k)) (fun k => y (0 + k)) (fun k => i (0 + k)) (fun k => c (0 + k)) k 2 (by decide)
    have c3 := cdV_at (fun k => o (0 + k)) (fun k => r (0 + k)) (fun k => x (0 + k)) (fun k => y (0 + k)) (fun k => i (0 + k)) (fun k => c (0 + k)) k 3 (by decide)
    repeat ((conv => whnf); first | refine sdO ?_ | refine nlO ?_ | refine goA ?_ | refine goB ?_ | (apply Exists.intro; (repeat apply Exists.intro); refine caO ?_) | (refine Or.inl ?_; (conv => whnf); (repeat apply Exists.intro); refine caO ?_) | (refine Or.inr ?_; (conv => whnf); first | ((repeat apply Exists.intro); refine caO ?_) | (refine Or.inl ?_; (conv => whnf); (repeat apply Exists.intro); refine caO ?_) | (refine Or.inr ?_; (conv => whnf); (repeat apply Exists.intro); refine caO ?_)) | refine And.intro (by assumption) ?_ | refine goT ?_ | refine goF ?_ | refine goL ?_ | refine goR ?_ | refine goRL ?_ | refine goRR ?_)
    all_goals try (conv => whnf)
    refine Exists.intro (fun (p : Nat × BitVec 32) => p.1 = k ∧ p.2 = enK (fun k => o (0 + k)) (fun k => r (0 + k)) (fun k => x (0 + k)) (fun k => y (0 + k)) (fun k => i (0 + k)) (fun k => c (0 + k)) k) (And.intro ?_ (fun (p : Nat × BitVec 32) (hp : p.1 < n) hJ => ?_))
    · skip
      repeat ((conv => whnf); first | refine sdO ?_ | refine nlO ?_ | refine goA ?_ | refine goB ?_ | (apply Exists.intro; (repeat apply Exists.intro); refine caO ?_) | (refine Or.inl ?_; (conv => whnf); (repeat apply Exists.intro); refine caO ?_) | (refine Or.inr ?_; (conv => whnf); first | ((repeat apply Exists.intro); refine caO ?_) | (refine Or.inl ?_; (conv => whnf); (repeat apply Exists.intro); refine caO ?_) | (refine Or.inr ?_; (conv => whnf); (repeat apply Exists.intro); refine caO ?_)) | refine And.intro (by assumption) ?_ | refine goT ?_ | refine goF ?_ | refine goL ?_ | refine goR ?_ | refine goRL ?_ | refine goRR ?_)
      all_goals try (conv => whnf)
      refine Enter.mk ((k, enK (fun k => o (0 + k)) (fun k => r (0 + k)) (fun k => x (0 + k)) (fun k => y (0 + k)) (fun k => i (0 + k)) (fun k => c (0 + k)) k) : Nat × BitVec 32) h ⟨rfl, rfl⟩ ?_
      ((repeat' ((conv => whnf) <;> first | exact trivial | (with_reducible first | refine And.intro ?_ ?_ | refine rows_lt1 ?_ | refine rows_lt2 ?_ ?_ | refine rows_lt3 ?_ ?_ ?_ | refine rows_lt4 ?_ ?_ ?_ ?_ | refine rows_lt5 ?_ ?_ ?_ ?_ ?_ | refine aggs_lt1 ?_ | refine aggs_lt2 ?_ ?_ | refine aggs_lt3 ?_ ?_ ?_ | refine fun (_ : Nat) => ?_) | refine fun (_ : (_ : Nat) < _) => ?_ | exact rfl | exact Nat.le_of_ble_eq_true rfl | (change (_ : Nat) ≤ _; omega) | (change (_ : Nat) = _; omega) | (change (_ : Int) = _; omega))); (all_goals try (conv => whnf)))
      all_goals (rw [val4 c3 c2 c1 c0]; simp)
    obtain ⟨k', w⟩ := p
    obtain ⟨e1, e2⟩ := hJ
    obtain rfl : k' = k := e1
    have e2 : w = enW (o (0 + k')) (r (0 + k')) (x (0 + k')) (y (0 + k')) (i (0 + k')) (c (0 + k')) := e2
    cases he : enO (o (0 + k')) (r (0 + k')) (x (0 + k')) (y (0 + k')) (i (0 + k')) (c (0 + k')) with
    | false =>
      have hw := en_no he
      have hv := is_0
      rw [hw] at e2
      subst e2
      repeat ((conv => whnf); first | refine sdO ?_ | refine nlO ?_ | refine goA ?_ | refine goB ?_ | (apply Exists.intro; (repeat apply Exists.intro); refine caO ?_) | (refine Or.inl ?_; (conv => whnf); (repeat apply Exists.intro); refine caO ?_) | (refine Or.inr ?_; (conv => whnf); first | ((repeat apply Exists.intro); refine caO ?_) | (refine Or.inl ?_; (conv => whnf); (repeat apply Exists.intro); refine caO ?_) | (refine Or.inr ?_; (conv => whnf); (repeat apply Exists.intro); refine caO ?_)) | refine And.intro (by assumption) ?_ | refine goT ?_ | refine goF ?_ | refine goL ?_ | refine goR ?_ | refine goRL ?_ | refine goRR ?_)
      all_goals try (conv => whnf)
      refine Again.mk (k' + 1 : Nat) (show k' + 1 ≤ n by omega) trivial (show n - (k' + 1) < n - k' by omega) ?_
      ((repeat' ((conv => whnf) <;> first | exact trivial | (with_reducible first | refine And.intro ?_ ?_ | refine rows_lt1 ?_ | refine rows_lt2 ?_ ?_ | refine rows_lt3 ?_ ?_ ?_ | refine rows_lt4 ?_ ?_ ?_ ?_ | refine rows_lt5 ?_ ?_ ?_ ?_ ?_ | refine aggs_lt1 ?_ | refine aggs_lt2 ?_ ?_ | refine aggs_lt3 ?_ ?_ ?_ | refine fun (_ : Nat) => ?_) | refine fun (_ : (_ : Nat) < _) => ?_ | exact rfl | exact Nat.le_of_ble_eq_true rfl | (change (_ : Nat) ≤ _; omega) | (change (_ : Nat) = _; omega) | (change (_ : Int) = _; omega))); (all_goals try (conv => whnf)))
    | true =>
      obtain ⟨hv, hq⟩ := en_yes he
      rw [← e2] at hv hq
      have hx : ∀ {b : Bool}, b = eqB (dcA w) (insA (o (0 + k')) (r (0 + k')) (x (0 + k')) (y (0 + k')) (i (0 + k')) (c (0 + k'))) → (!(enO (o (0 + k')) (r (0 + k')) (x (0 + k')) (y (0 + k')) (i (0 + k')) (c (0 + k')) == b)) = false := fun {b} hb => by rw [hb, hq, he]; rfl
      repeat ((conv => whnf); first | refine sdO ?_ | refine nlO ?_ | refine goA ?_ | refine goB ?_ | (apply Exists.intro; (repeat apply Exists.intro); refine caO ?_) | (refine Or.inl ?_; (conv => whnf); (repeat apply Exists.intro); refine caO ?_) | (refine Or.inr ?_; (conv => whnf); first | ((repeat apply Exists.intro); refine caO ?_) | (refine Or.inl ?_; (conv => whnf); (repeat apply Exists.intro); refine caO ?_) | (refine Or.inr ?_; (conv => whnf); (repeat apply Exists.intro); refine caO ?_)) | refine And.intro (by assumption) ?_ | refine goT ?_ | refine goF ?_ | refine goL ?_ | refine goR ?_ | refine goRL ?_ | refine goRR ?_)
      all_goals try (conv => whnf)
      refine And.intro (fun q => bad q (hx (eqB_congr (six rfl rfl rfl rfl rfl rfl) (six rfl rfl rfl rfl rfl rfl)))) (fun _ => ?_)
      repeat ((conv => whnf); first | refine sdO ?_ | refine nlO ?_ | refine goA ?_ | refine goB ?_ | (apply Exists.intro; (repeat apply Exists.intro); refine caO ?_) | (refine Or.inl ?_; (conv => whnf); (repeat apply Exists.intro); refine caO ?_) | (refine Or.inr ?_; (conv => whnf); first | ((repeat apply Exists.intro); refine caO ?_) | (refine Or.inl ?_; (conv => whnf); (repeat apply Exists.intro); refine caO ?_) | (refine Or.inr ?_; (conv => whnf); (repeat apply Exists.intro); refine caO ?_)) | refine And.intro (by assumption) ?_ | refine goT ?_ | refine goF ?_ | refine goL ?_ | refine goR ?_ | refine goRL ?_ | refine goRR ?_)
      all_goals try (conv => whnf)
      refine Again.mk (k' + 1 : Nat) (show k' + 1 ≤ n by omega) trivial (show n - (k' + 1) < n - k' by omega) ?_
      ((repeat' ((conv => whnf) <;> first | exact trivial | (with_reducible first | refine And.intro ?_ ?_ | refine rows_lt1 ?_ | refine rows_lt2 ?_ ?_ | refine rows_lt3 ?_ ?_ ?_ | refine rows_lt4 ?_ ?_ ?_ ?_ | refine rows_lt5 ?_ ?_ ?_ ?_ ?_ | refine aggs_lt1 ?_ | refine aggs_lt2 ?_ ?_ | refine aggs_lt3 ?_ ?_ ?_ | refine fun (_ : Nat) => ?_) | refine fun (_ : (_ : Nat) < _) => ?_ | exact rfl | exact Nat.le_of_ble_eq_true rfl | (change (_ : Nat) ≤ _; omega) | (change (_ : Nat) = _; omega) | (change (_ : Int) = _; omega))); (all_goals try (conv => whnf)))
  · obtain rfl : k = n := by omega
    repeat ((conv => whnf); first | refine sdO ?_ | refine nlO ?_ | refine goA ?_ | refine goB ?_ | (apply Exists.intro; (repeat apply Exists.intro); refine caO ?_) | (refine Or.inl ?_; (conv => whnf); (repeat apply Exists.intro); refine caO ?_) | (refine Or.inr ?_; (conv => whnf); first | ((repeat apply Exists.intro); refine caO ?_) | (refine Or.inl ?_; (conv => whnf); (repeat apply Exists.intro); refine caO ?_) | (refine Or.inr ?_; (conv => whnf); (repeat apply Exists.intro); refine caO ?_)) | refine And.intro (by assumption) ?_ | refine goT ?_ | refine goF ?_ | refine goL ?_ | refine goR ?_ | refine goRL ?_ | refine goRR ?_)
    all_goals try (conv => whnf)
    ((repeat' ((conv => whnf) <;> first | exact trivial | (with_reducible first | refine And.intro ?_ ?_ | refine rows_lt1 ?_ | refine rows_lt2 ?_ ?_ | refine rows_lt3 ?_ ?_ ?_ | refine rows_lt4 ?_ ?_ ?_ ?_ | refine rows_lt5 ?_ ?_ ?_ ?_ ?_ | refine aggs_lt1 ?_ | refine aggs_lt2 ?_ ?_ | refine aggs_lt3 ?_ ?_ ?_ | refine fun (_ : Nat) => ?_) | refine fun (_ : (_ : Nat) < _) => ?_ | exact rfl | exact Nat.le_of_ble_eq_true rfl | (change (_ : Nat) ≤ _; omega) | (change (_ : Nat) = _; omega) | (change (_ : Int) = _; omega))); (all_goals try (conv => whnf)))
end Go.Proofs.YtonggppknpbhiaaDoor
