/- Jobs: descriptors behind one another. -/
import Derived.Test.YtobilidppfmdkaaJE
namespace Go.Proofs.Ytobilidppfmdkaa
open Go.RowKit
set_option maxRecDepth 100000
set_option maxHeartbeats 20000000
theorem lenq_of {c : Cx} {fr : Bool} {et : Ty} {l : Nat} {f : Nat → AV} {v : Value} (h : RV c (.imm fr et l f) v) : l ≤ maxLen := by
  obtain ⟨A, q, _, h1, h2, _⟩ := (show R c _ _ from h)
  omega
abbrev TJb : Ty := ty 24
abbrev jbs (m : Nat) (k h t f : Nat → BitVec 8) (s d l a n : Nat → BitVec 32) : AV := .imm false TJb m (fun i => jbA (k i) (h i) (t i) (f i) (s i) (d i) (l i) (a i) (n i))
def aT (at' : BitVec 32) : Nat → BitVec 32
  | 0 => at'
  | i + 1 => aT at' i + BitVec.ofInt 32 32
theorem aT_at (at' : BitVec 32) : ∀ i, aT at' i = at' + BitVec.ofNat 32 (32 * i)
  | 0 => by simp [aT]
  | i + 1 => by
    rw [aT, aT_at at' i, BitVec.add_assoc]
    congr 1
    apply BitVec.eq_of_toNat_eq
    rw [BitVec.toNat_add, BitVec.toNat_ofNat, BitVec.toNat_ofNat, show (BitVec.ofInt 32 32).toNat = 32 from rfl]
    omega
/-- What comes behind descriptor i. -/
def nX (at' : BitVec 32) (m i : Nat) : BitVec 32 := if i + 1 = m then 0 else aT at' (i + 1)
def chF (at' : BitVec 32) (m : Nat) (k h t f : Nat → BitVec 8) (s d l a : Nat → BitVec 32) (j : Nat) : BitVec 8 := jF (k (j / 32)) (h (j / 32)) (t (j / 32)) (f (j / 32)) (s (j / 32)) (d (j / 32)) (l (j / 32)) (a (j / 32)) (nX at' m (j / 32)) (j % 32)
theorem chF_at (at' : BitVec 32) (m : Nat) (k h t f : Nat → BitVec 8) (s d l a : Nat → BitVec 32) (i j : Nat) (hj : j < 32) : chF at' m k h t f s d l a (32 * i + j) = jF (k i) (h i) (t i) (f i) (s i) (d i) (l i) (a i) (nX at' m i) j := by
  unfold chF
  rw [show (32 * i + j) / 32 = i by omega, show (32 * i + j) % 32 = j by omega]
theorem aT_0 (at' : BitVec 32) : aT at' 0 = at' := rfl
theorem aT_s (at' : BitVec 32) (i : Nat) : aT at' (i + 1) = aT at' i + BitVec.ofInt 32 32 := rfl
theorem nX_last (at' : BitVec 32) {m i : Nat} (e : i + 1 = m) : nX at' m i = BitVec.ofInt 32 0 := if_pos e
theorem nX_more (at' : BitVec 32) {m i : Nat} (e : ¬ i + 1 = m) : nX at' m i = aT at' (i + 1) := if_neg e
theorem chF_stp (at' : BitVec 32) (m : Nat) (k h t f : Nat → BitVec 8) (s d l a : Nat → BitVec 32) {i x : Nat} {w : BitVec 32} (hx : x < 32 * i + 32) (hw : nX at' m i = w) : (if x < 32 * i then chF at' m k h t f s d l a x else jF (k i) (h i) (t i) (f i) (s i) (d i) (l i) (a i) w (x - 32 * i)) = chF at' m k h t f s d l a x := by
  by_cases e : x < 32 * i
  · exact if_pos e
  · rw [if_neg e, ← hw, ← chF_at at' m k h t f s d l a i _ (show x - 32 * i < 32 by omega), show 32 * i + (x - 32 * i) = x by omega]
attribute [irreducible] chF nX aT
attribute [local irreducible] w4 valN jE jeP hexL wJ jForm
def C_j_Chain : SpecP := fun A K => ∃ at' m k h t f s d l a n, A [.u32 at', jbs m k h t f s d l a n] ∧ m ≤ 1000 ∧ K (bsf (32 * m) (chF at' m k h t f s d l a))
def L_j_Chain (at' : BitVec 32) (m : Nat) (k h t f : Nat → BitVec 8) (s d l a n : Nat → BitVec 32) : LI := ⟨Nat, (· ≤ m), fun i => [(0, .u32 (aT at' i)), (1, jbs m k h t f s d l a n), (5, .gsl 5 1056 (32 * i)), (12, jbs m k h t f s d l a n), (13, .nat m), (14, .nat i)], fun i => [(1056, .grow 5 (32 * i) (bys (chF at' m k h t f s d l a)))], fun i => m - i, some, some⟩
theorem g_j_Chain : Gd 16 (pureP ty C_j_Chain) := by
  refine goodP (E := PG [(8, pureP ty C_j_Bytes)]) (pgOK ⟨g_j_Bytes, trivial⟩) mixes Try.func16 (by kernel_rfl) (by kernel_rfl) ?_
  rintro A K ⟨at', m, k, h, t, f, s, d, l, a, n, hA, hm, hK⟩
  refine ⟨_, _, loops [(3, L_j_Chain at' m k h t f s d l a n)], hA, hK, by kernel_rfl, ⟨rfl, fun _ _ => trivial⟩, ?_⟩
  repeat (first | ((conv => whnf); refine And.intro ?_ ?_; exact sideOf) | ((conv => whnf); refine NilE.some ?_ ?_; exact sideOf) | ((conv => whnf); refine And.intro (fun _ => ?_) (fun h => nomatch (show true = false from h))) | ((conv => whnf); refine And.intro (fun h => nomatch (show false = true from h)) (fun _ => ?_)) | ((conv => whnf); first | (apply Exists.intro; (repeat apply Exists.intro); refine And.intro ?_ ?_; exact leOf) | (refine Or.inl ?_; (conv => whnf); (repeat apply Exists.intro); refine And.intro ?_ ?_; exact leOf) | (refine Or.inr ?_; (conv => whnf); first | ((repeat apply Exists.intro); refine And.intro ?_ ?_; exact leOf) | (refine Or.inl ?_; (conv => whnf); (repeat apply Exists.intro); refine And.intro ?_ ?_; exact leOf) | (refine Or.inr ?_; (conv => whnf); (repeat apply Exists.intro); refine And.intro ?_ ?_; exact leOf))) | ((conv => whnf); first | refine And.intro (by assumption) ?_ | refine goT ?_ | refine goF ?_ | refine goL ?_ | refine goR ?_ | refine goRL ?_ | refine goRR ?_))
  all_goals try (conv => whnf)
  refine Exists.intro (fun _ => True) (And.intro (Enter.mk (0 : Nat) (Nat.zero_le _) trivial ?_) (fun (i : Nat) (hi : i ≤ m) _ => ?_))
  · ((repeat' ((conv => whnf) <;> first | exact trivial | (with_reducible first | refine And.intro ?_ ?_ | refine rows_lt1 ?_ | refine rows_lt2 ?_ ?_ | refine rows_lt3 ?_ ?_ ?_ | refine rows_lt4 ?_ ?_ ?_ ?_ | refine rows_lt5 ?_ ?_ ?_ ?_ ?_ | refine aggs_lt1 ?_ | refine aggs_lt2 ?_ ?_ | refine aggs_lt3 ?_ ?_ ?_ | refine fun (_ : Nat) => ?_) | refine fun (_ : (_ : Nat) < _) => ?_ | exact rfl | exact Nat.le_of_ble_eq_true rfl | (change (_ : Nat) ≤ _; omega) | (change (_ : Nat) = _; omega) | (change (_ : Int) = _; omega))); (all_goals try (conv => whnf)))
    · rename_i x hx
      exact absurd hx (by omega)
    · exact (aT_0 at').symm
  rcases Nat.lt_or_ge i m with hq | hq
  · rcases Decidable.em (i + 1 = m) with e | e
    · have e' : (i : Int) = (m : Int) - 1 := by omega
      repeat (first | ((conv => whnf); refine And.intro ?_ ?_; exact sideOf) | ((conv => whnf); refine NilE.some ?_ ?_; exact sideOf) | ((conv => whnf); refine And.intro (fun _ => ?_) (fun h => nomatch (show true = false from h))) | ((conv => whnf); refine And.intro (fun h => nomatch (show false = true from h)) (fun _ => ?_)) | ((conv => whnf); first | (apply Exists.intro; (repeat apply Exists.intro); refine And.intro ?_ ?_; exact leOf) | (refine Or.inl ?_; (conv => whnf); (repeat apply Exists.intro); refine And.intro ?_ ?_; exact leOf) | (refine Or.inr ?_; (conv => whnf); first | ((repeat apply Exists.intro); refine And.intro ?_ ?_; exact leOf) | (refine Or.inl ?_; (conv => whnf); (repeat apply Exists.intro); refine And.intro ?_ ?_; exact leOf) | (refine Or.inr ?_; (conv => whnf); (repeat apply Exists.intro); refine And.intro ?_ ?_; exact leOf))) | ((conv => whnf); first | refine And.intro (by assumption) ?_ | refine goT ?_ | refine goF ?_ | refine goL ?_ | refine goR ?_ | refine goRL ?_ | refine goRR ?_))
      all_goals try (conv => whnf)
      refine Again.mk (i + 1 : Nat) (show i + 1 ≤ m by omega) trivial (show m - (i + 1) < m - i by omega) ?_
      ((repeat' ((conv => whnf) <;> first | exact trivial | (with_reducible first | refine And.intro ?_ ?_ | refine rows_lt1 ?_ | refine rows_lt2 ?_ ?_ | refine rows_lt3 ?_ ?_ ?_ | refine rows_lt4 ?_ ?_ ?_ ?_ | refine rows_lt5 ?_ ?_ ?_ ?_ ?_ | refine aggs_lt1 ?_ | refine aggs_lt2 ?_ ?_ | refine aggs_lt3 ?_ ?_ ?_ | refine fun (_ : Nat) => ?_) | refine fun (_ : (_ : Nat) < _) => ?_ | exact rfl | exact Nat.le_of_ble_eq_true rfl | (change (_ : Nat) ≤ _; omega) | (change (_ : Nat) = _; omega) | (change (_ : Int) = _; omega))); (all_goals try (conv => whnf)))
      · rename_i x hx
        exact chF_stp at' m k h t f s d l a hx (nX_last at' e)
      · exact (aT_s at' i).symm
    · have e' : ¬ (i : Int) = (m : Int) - 1 := by omega
      repeat (first | ((conv => whnf); refine And.intro ?_ ?_; exact sideOf) | ((conv => whnf); refine NilE.some ?_ ?_; exact sideOf) | ((conv => whnf); refine And.intro (fun _ => ?_) (fun h => nomatch (show true = false from h))) | ((conv => whnf); refine And.intro (fun h => nomatch (show false = true from h)) (fun _ => ?_)) | ((conv => whnf); first | (apply Exists.intro; (repeat apply Exists.intro); refine And.intro ?_ ?_; exact leOf) | (refine Or.inl ?_; (conv => whnf); (repeat apply Exists.intro); refine And.intro ?_ ?_; exact leOf) | (refine Or.inr ?_; (conv => whnf); first | ((repeat apply Exists.intro); refine And.intro ?_ ?_; exact leOf) | (refine Or.inl ?_; (conv => whnf); (repeat apply Exists.intro); refine And.intro ?_ ?_; exact leOf) | (refine Or.inr ?_; (conv => whnf); (repeat apply Exists.intro); refine And.intro ?_ ?_; exact leOf))) | ((conv => whnf); first | refine And.intro (by assumption) ?_ | refine goT ?_ | refine goF ?_ | refine goL ?_ | refine goR ?_ | refine goRL ?_ | refine goRR ?_))
      all_goals try (conv => whnf)
      refine Again.mk (i + 1 : Nat) (show i + 1 ≤ m by omega) trivial (show m - (i + 1) < m - i by omega) ?_
      ((repeat' ((conv => whnf) <;> first | exact trivial | (with_reducible first | refine And.intro ?_ ?_ | refine rows_lt1 ?_ | refine rows_lt2 ?_ ?_ | refine rows_lt3 ?_ ?_ ?_ | refine rows_lt4 ?_ ?_ ?_ ?_ | refine rows_lt5 ?_ ?_ ?_ ?_ ?_ | refine aggs_lt1 ?_ | refine aggs_lt2 ?_ ?_ | refine aggs_lt3 ?_ ?_ ?_ | refine fun (_ : Nat) => ?_) | refine fun (_ : (_ : Nat) < _) => ?_ | exact rfl | exact Nat.le_of_ble_eq_true rfl | (change (_ : Nat) ≤ _; omega) | (change (_ : Nat) = _; omega) | (change (_ : Int) = _; omega))); (all_goals try (conv => whnf)))
      · rename_i x hx
        exact chF_stp at' m k h t f s d l a hx ((nX_more at' e).trans (aT_s at' i))
      · exact (aT_s at' i).symm
  · obtain rfl : i = m := by omega
    repeat (first | ((conv => whnf); refine And.intro ?_ ?_; exact sideOf) | ((conv => whnf); refine NilE.some ?_ ?_; exact sideOf) | ((conv => whnf); refine And.intro (fun _ => ?_) (fun h => nomatch (show true = false from h))) | ((conv => whnf); refine And.intro (fun h => nomatch (show false = true from h)) (fun _ => ?_)) | ((conv => whnf); first | (apply Exists.intro; (repeat apply Exists.intro); refine And.intro ?_ ?_; exact leOf) | (refine Or.inl ?_; (conv => whnf); (repeat apply Exists.intro); refine And.intro ?_ ?_; exact leOf) | (refine Or.inr ?_; (conv => whnf); first | ((repeat apply Exists.intro); refine And.intro ?_ ?_; exact leOf) | (refine Or.inl ?_; (conv => whnf); (repeat apply Exists.intro); refine And.intro ?_ ?_; exact leOf) | (refine Or.inr ?_; (conv => whnf); (repeat apply Exists.intro); refine And.intro ?_ ?_; exact leOf))) | ((conv => whnf); first | refine And.intro (by assumption) ?_ | refine goT ?_ | refine goF ?_ | refine goL ?_ | refine goR ?_ | refine goRL ?_ | refine goRR ?_))
    all_goals try (conv => whnf)
    ((repeat' ((conv => whnf) <;> first | exact trivial | (with_reducible first | refine And.intro ?_ ?_ | refine rows_lt1 ?_ | refine rows_lt2 ?_ ?_ | refine rows_lt3 ?_ ?_ ?_ | refine rows_lt4 ?_ ?_ ?_ ?_ | refine rows_lt5 ?_ ?_ ?_ ?_ ?_ | refine aggs_lt1 ?_ | refine aggs_lt2 ?_ ?_ | refine aggs_lt3 ?_ ?_ ?_ | refine fun (_ : Nat) => ?_) | refine fun (_ : (_ : Nat) < _) => ?_ | exact rfl | exact Nat.le_of_ble_eq_true rfl | (change (_ : Nat) ≤ _; omega) | (change (_ : Nat) = _; omega) | (change (_ : Int) = _; omega))); (all_goals try (conv => whnf)))
def C_l17_JobChains : SpecP := fun A K => ∃ at' m k h t f s d l a n, A [.u32 at', jbs m k h t f s d l a n] ∧ m ≤ maxLen ∧ K (.bo true)
def L_JobChains (at' : BitVec 32) (m : Nat) (k h t f : Nat → BitVec 8) (s d l a n : Nat → BitVec 32) : LI := ⟨Nat, (· ≤ m), fun i => [(0, .u32 at'), (1, jbs m k h t f s d l a n), (5, bsl (32 * m) (chF at' m k h t f s d l a)), (25, jbs m k h t f s d l a n), (26, .nat m), (27, .nat i)], fun _ => [], fun i => m - i, some, some⟩
theorem g_l17_JobChains : Gd 4 (pureP ty C_l17_JobChains) := by
  refine goodP (E := PG [(6, pureP ty C_l17_awake), (16, pureP ty C_j_Chain), (10, pureP ty C_r17_Bytes), (9, pureP ty C_r1_Same)]) (pgOK ⟨g_l17_awake, g_j_Chain, g_r17_Bytes, g_r1_Same, trivial⟩) mixes Try.func4 (by kernel_rfl) (by kernel_rfl) ?_
  rintro A K ⟨at', m0, k, h, t, f, s, d, l, a, n, hA, hm, hK⟩
  unfold maxLen at hm
  obtain ⟨m, hmm⟩ : ∃ m, m = min m0 20 := ⟨_, rfl⟩
  have h20 : m ≤ 20 := by omega
  have hmm' : min m0 (Int.toNat 20) = m := by rw [hmm]; rfl
  refine ⟨_, _, loops [(8, L_JobChains at' m k h t f s d l a n)], hA, hK, by kernel_rfl, trivial, ?_⟩
  repeat (first | ((conv => whnf); refine And.intro ?_ ?_; exact sideOf) | ((conv => whnf); refine NilE.some ?_ ?_; exact sideOf) | ((conv => whnf); refine And.intro (fun _ => ?_) (fun h => nomatch (show true = false from h))) | ((conv => whnf); refine And.intro (fun h => nomatch (show false = true from h)) (fun _ => ?_)) | ((conv => whnf); first | (apply Exists.intro; (repeat apply Exists.intro); refine And.intro ?_ ?_; exact leOf) | (refine Or.inl ?_; (conv => whnf); (repeat apply Exists.intro); refine And.intro ?_ ?_; exact leOf) | (refine Or.inr ?_; (conv => whnf); first | ((repeat apply Exists.intro); refine And.intro ?_ ?_; exact leOf) | (refine Or.inl ?_; (conv => whnf); (repeat apply Exists.intro); refine And.intro ?_ ?_; exact leOf) | (refine Or.inr ?_; (conv => whnf); (repeat apply Exists.intro); refine And.intro ?_ ?_; exact leOf))) | ((conv => whnf); first | refine And.intro (by assumption) ?_ | refine goT ?_ | refine goF ?_ | refine goL ?_ | refine goR ?_ | refine goRL ?_ | refine goRR ?_))
  all_goals try (conv => whnf)
  refine Exists.intro (fun _ => True) (And.intro (Enter.mk (0 : Nat) (Nat.zero_le _) trivial ?_) (fun (i : Nat) (hi : i ≤ m) _ => ?_))
  · ((repeat' ((conv => whnf) <;> first | exact trivial | (with_reducible first | refine And.intro ?_ ?_ | refine rows_lt1 ?_ | refine rows_lt2 ?_ ?_ | refine rows_lt3 ?_ ?_ ?_ | refine rows_lt4 ?_ ?_ ?_ ?_ | refine rows_lt5 ?_ ?_ ?_ ?_ ?_ | refine aggs_lt1 ?_ | refine aggs_lt2 ?_ ?_ | refine aggs_lt3 ?_ ?_ ?_ | refine fun (_ : Nat) => ?_) | refine fun (_ : (_ : Nat) < _) => ?_ | exact rfl | exact Nat.le_of_ble_eq_true rfl | (change (_ : Nat) ≤ _; omega) | (change (_ : Nat) = _; omega) | (change (_ : Int) = _; omega))); (all_goals try (conv => whnf)))
    all_goals first | exact congrArg _ (Nat.zero_add _) | (simp only [Nat.zero_add, Nat.sub_zero]; rw [hmm']; done)
  rcases Nat.lt_or_ge i m with hq | hq
  · have hb : lw 32 (fun j => chF at' m k h t f s d l a (32 * i + j)) = lw 32 (jF (k i) (h i) (t i) (f i) (s i) (d i) (l i) (a i) (nX at' m i)) := lw_eq.2 fun j hj => chF_at at' m k h t f s d l a i j hj
    rcases Decidable.em (i + 1 = m) with e | e
    · have e' : (i : Int) = (m : Int) - 1 := by omega
      rw [nX_last at' e] at hb
      have hL : Int.toNat 32 * i + Int.toNat 32 - Int.toNat 32 * i = 32 := Nat.add_sub_cancel_left _ _
      have hM : Int.toNat 32 * i + Int.toNat 32 - Int.toNat 32 * i ≤ maxLen := by rw [hL]; decide
      have hb2 : lw (Int.toNat 32 * i + Int.toNat 32 - Int.toNat 32 * i) (fun j => chF at' m k h t f s d l a (Int.toNat 32 * i + j)) = lw 32 (jF (k i) (h i) (t i) (f i) (s i) (d i) (l i) (a i) (BitVec.ofInt 32 0)) := by rw [hL]; exact hb
      repeat (first | ((conv => whnf); refine And.intro ?_ ?_; exact sideOf) | ((conv => whnf); refine NilE.some ?_ ?_; exact sideOf) | ((conv => whnf); refine And.intro (fun _ => ?_) (fun h => nomatch (show true = false from h))) | ((conv => whnf); refine And.intro (fun h => nomatch (show false = true from h)) (fun _ => ?_)) | ((conv => whnf); first | (apply Exists.intro; (repeat apply Exists.intro); refine And.intro ?_ ?_; exact leOf) | (refine Or.inl ?_; (conv => whnf); (repeat apply Exists.intro); refine And.intro ?_ ?_; exact leOf) | (refine Or.inr ?_; (conv => whnf); first | ((repeat apply Exists.intro); refine And.intro ?_ ?_; exact leOf) | (refine Or.inl ?_; (conv => whnf); (repeat apply Exists.intro); refine And.intro ?_ ?_; exact leOf) | (refine Or.inr ?_; (conv => whnf); (repeat apply Exists.intro); refine And.intro ?_ ?_; exact leOf))) | ((conv => whnf); first | refine And.intro (by assumption) ?_ | refine goT ?_ | refine goF ?_ | refine goL ?_ | refine goR ?_ | refine goRL ?_ | refine goRR ?_))
      all_goals try (conv => whnf)
      refine Again.mk (i + 1 : Nat) (show i + 1 ≤ m by omega) trivial (show m - (i + 1) < m - i by omega) ?_
      ((repeat' ((conv => whnf) <;> first | exact trivial | (with_reducible first | refine And.intro ?_ ?_ | refine rows_lt1 ?_ | refine rows_lt2 ?_ ?_ | refine rows_lt3 ?_ ?_ ?_ | refine rows_lt4 ?_ ?_ ?_ ?_ | refine rows_lt5 ?_ ?_ ?_ ?_ ?_ | refine aggs_lt1 ?_ | refine aggs_lt2 ?_ ?_ | refine aggs_lt3 ?_ ?_ ?_ | refine fun (_ : Nat) => ?_) | refine fun (_ : (_ : Nat) < _) => ?_ | exact rfl | exact Nat.le_of_ble_eq_true rfl | (change (_ : Nat) ≤ _; omega) | (change (_ : Nat) = _; omega) | (change (_ : Int) = _; omega))); (all_goals try (conv => whnf)))
    · have e' : ¬ (i : Int) = (m : Int) - 1 := by omega
      rw [nX_more at' e, aT_at] at hb
      have hL : Int.toNat 32 * i + Int.toNat 32 - Int.toNat 32 * i = 32 := Nat.add_sub_cancel_left _ _
      have hM : Int.toNat 32 * i + Int.toNat 32 - Int.toNat 32 * i ≤ maxLen := by rw [hL]; decide
      have hb2 : lw (Int.toNat 32 * i + Int.toNat 32 - Int.toNat 32 * i) (fun j => chF at' m k h t f s d l a (Int.toNat 32 * i + j)) = lw 32 (jF (k i) (h i) (t i) (f i) (s i) (d i) (l i) (a i) (at' + BitVec.ofNat 32 (Int.toNat 32 * i + Int.toNat 32))) := by rw [hL]; exact hb
      repeat (first | ((conv => whnf); refine And.intro ?_ ?_; exact sideOf) | ((conv => whnf); refine NilE.some ?_ ?_; exact sideOf) | ((conv => whnf); refine And.intro (fun _ => ?_) (fun h => nomatch (show true = false from h))) | ((conv => whnf); refine And.intro (fun h => nomatch (show false = true from h)) (fun _ => ?_)) | ((conv => whnf); first | (apply Exists.intro; (repeat apply Exists.intro); refine And.intro ?_ ?_; exact leOf) | (refine Or.inl ?_; (conv => whnf); (repeat apply Exists.intro); refine And.intro ?_ ?_; exact leOf) | (refine Or.inr ?_; (conv => whnf); first | ((repeat apply Exists.intro); refine And.intro ?_ ?_; exact leOf) | (refine Or.inl ?_; (conv => whnf); (repeat apply Exists.intro); refine And.intro ?_ ?_; exact leOf) | (refine Or.inr ?_; (conv => whnf); (repeat apply Exists.intro); refine And.intro ?_ ?_; exact leOf))) | ((conv => whnf); first | refine And.intro (by assumption) ?_ | refine goT ?_ | refine goF ?_ | refine goL ?_ | refine goR ?_ | refine goRL ?_ | refine goRR ?_))
      all_goals try (conv => whnf)
      refine Again.mk (i + 1 : Nat) (show i + 1 ≤ m by omega) trivial (show m - (i + 1) < m - i by omega) ?_
      ((repeat' ((conv => whnf) <;> first | exact trivial | (with_reducible first | refine And.intro ?_ ?_ | refine rows_lt1 ?_ | refine rows_lt2 ?_ ?_ | refine rows_lt3 ?_ ?_ ?_ | refine rows_lt4 ?_ ?_ ?_ ?_ | refine rows_lt5 ?_ ?_ ?_ ?_ ?_ | refine aggs_lt1 ?_ | refine aggs_lt2 ?_ ?_ | refine aggs_lt3 ?_ ?_ ?_ | refine fun (_ : Nat) => ?_) | refine fun (_ : (_ : Nat) < _) => ?_ | exact rfl | exact Nat.le_of_ble_eq_true rfl | (change (_ : Nat) ≤ _; omega) | (change (_ : Nat) = _; omega) | (change (_ : Int) = _; omega))); (all_goals try (conv => whnf)))
  · obtain rfl : i = m := by omega
    repeat (first | ((conv => whnf); refine And.intro ?_ ?_; exact sideOf) | ((conv => whnf); refine NilE.some ?_ ?_; exact sideOf) | ((conv => whnf); refine And.intro (fun _ => ?_) (fun h => nomatch (show true = false from h))) | ((conv => whnf); refine And.intro (fun h => nomatch (show false = true from h)) (fun _ => ?_)) | ((conv => whnf); first | (apply Exists.intro; (repeat apply Exists.intro); refine And.intro ?_ ?_; exact leOf) | (refine Or.inl ?_; (conv => whnf); (repeat apply Exists.intro); refine And.intro ?_ ?_; exact leOf) | (refine Or.inr ?_; (conv => whnf); first | ((repeat apply Exists.intro); refine And.intro ?_ ?_; exact leOf) | (refine Or.inl ?_; (conv => whnf); (repeat apply Exists.intro); refine And.intro ?_ ?_; exact leOf) | (refine Or.inr ?_; (conv => whnf); (repeat apply Exists.intro); refine And.intro ?_ ?_; exact leOf))) | ((conv => whnf); first | refine And.intro (by assumption) ?_ | refine goT ?_ | refine goF ?_ | refine goL ?_ | refine goR ?_ | refine goRL ?_ | refine goRR ?_))
    all_goals try (conv => whnf)
    ((repeat' ((conv => whnf) <;> first | exact trivial | (with_reducible first | refine And.intro ?_ ?_ | refine rows_lt1 ?_ | refine rows_lt2 ?_ ?_ | refine rows_lt3 ?_ ?_ ?_ | refine rows_lt4 ?_ ?_ ?_ ?_ | refine rows_lt5 ?_ ?_ ?_ ?_ ?_ | refine aggs_lt1 ?_ | refine aggs_lt2 ?_ ?_ | refine aggs_lt3 ?_ ?_ ?_ | refine fun (_ : Nat) => ?_) | refine fun (_ : (_ : Nat) < _) => ?_ | exact rfl | exact Nat.le_of_ble_eq_true rfl | (change (_ : Nat) ≤ _; omega) | (change (_ : Nat) = _; omega) | (change (_ : Int) = _; omega))); (all_goals try (conv => whnf)))
end Go.Proofs.Ytobilidppfmdkaa
