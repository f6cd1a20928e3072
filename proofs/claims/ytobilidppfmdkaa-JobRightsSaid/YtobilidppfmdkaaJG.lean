/- Jobs: descriptors behind one another; a number that is too great. -/
import Derived.Test.YtobilidppfmdkaaJE
namespace Go.Proofs.Ytobilidppfmdkaa
open Go.RowKit
set_option maxRecDepth 100000
set_option maxHeartbeats 20000000
theorem jE_zero {k h t f : BitVec 8} {l n : BitVec 32} (e : jE k h t f l n = 0) : ¬ jKind k ∧ ¬ BitVec.ofInt 32 1024 < l ∧ ¬ jBad k h t f l ∧ n % BitVec.ofInt 32 4 = BitVec.ofInt 32 0 := by
  refine ⟨fun c => ?_, fun c => ?_, fun c => ?_, Decidable.byContradiction fun c => ?_⟩
  · rw [jE_kind c] at e; cases e
  · unfold jE at e
    split at e
    · cases e
    · first | (cases e; done) | (rw [if_pos c] at e; cases e)
  · unfold jE at e
    split at e
    · cases e
    · split at e
      · cases e
      · first | (cases e; done) | (rw [if_pos c] at e; cases e)
  · unfold jE at e
    split at e
    · cases e
    · split at e
      · cases e
      · split at e
        · cases e
        · first | (cases e; done) | (rw [if_pos c] at e; cases e)
theorem r_kind {k h t f : BitVec 8} {l n : BitVec 32} (e : jE k h t f l n = 0) : jE (BitVec.ofInt 8 9 + k) h t f l n = 1 := by
  refine jE_kind ?_
  have := (jE_zero e).1
  revert this
  generalize k = q
  revert q
  unfold jKind
  decide
theorem r_long {k h t f : BitVec 8} {l n : BitVec 32} (e : jE k h t f l n = 0) : jE k h t f (BitVec.ofInt 32 1025 + l) n = 4 := by
  obtain ⟨h1, h2, _⟩ := jE_zero e
  refine jE_long h1 ?_
  rw [BitVec.lt_def] at h2 ⊢
  rw [BitVec.toNat_add]
  have a1 : (BitVec.ofInt 32 1024).toNat = 1024 := rfl
  have a2 : (BitVec.ofInt 32 1025).toNat = 1025 := rfl
  rw [a1] at h2 ⊢
  rw [a2]
  have := l.isLt
  omega
theorem or2 (n : BitVec 32) (h : n % BitVec.ofInt 32 4 = BitVec.ofInt 32 0) : ¬ (n ||| BitVec.ofInt 32 2) % BitVec.ofInt 32 4 = BitVec.ofInt 32 0 := by
  intro q
  have e1 : ((n ||| BitVec.ofInt 32 2) % BitVec.ofInt 32 4).toNat % 4 = 0 := by rw [q]; rfl
  rw [BitVec.toNat_umod, BitVec.toNat_or, show (BitVec.ofInt 32 4).toNat = 4 from rfl, show (BitVec.ofInt 32 2).toNat = 2 from rfl, Nat.mod_mod] at e1
  have e2 : ((n.toNat ||| 2) % 2 ^ 2).testBit 1 = true := by
    rw [Nat.testBit_mod_two_pow, Nat.testBit_or]
    simp
    exact .inr (by decide)
  rw [show 2 ^ 2 = 4 from rfl, e1] at e2
  simp at e2
theorem r_al {k h t f : BitVec 8} {l n : BitVec 32} (e : jE k h t f l n = 0) : jE k h t f l (n ||| BitVec.ofInt 32 2) = 10 := by
  obtain ⟨h1, h2, h3, h4⟩ := jE_zero e
  exact jE_al h1 h2 h3 (or2 n h4)
theorem h8up : ∀ h : BitVec 8, ¬ BitVec.ofInt 8 8 ≤ h → BitVec.ofInt 8 8 ≤ BitVec.ofInt 8 8 + h := by decide
theorem r_hand {k h t f : BitVec 8} {l n : BitVec 32} (e : jE k h t f l n = 0) (hk : k = BitVec.ofInt 8 2 ∨ k = BitVec.ofInt 8 3 ∨ k = BitVec.ofInt 8 4 ∨ k = BitVec.ofInt 8 6) : jE k (BitVec.ofInt 8 8 + h) t f l n = 1 := by
  obtain ⟨h1, h2, h3, h4⟩ := jE_zero e
  have ha := h8up h
  rcases hk with rfl | rfl | rfl | rfl
  · exact jE_bad h1 h2 (.inl (.inl ⟨.inl rfl, ha fun q => h3 (.inl (.inl ⟨.inl rfl, q⟩))⟩))
  · exact jE_bad h1 h2 (.inl (.inl ⟨.inr (.inl rfl), ha fun q => h3 (.inl (.inl ⟨.inr (.inl rfl), q⟩))⟩))
  · exact jE_bad h1 h2 (.inl (.inr (.inl ⟨rfl, .inl (ha fun q => h3 (.inl (.inr (.inl ⟨rfl, .inl q⟩))))⟩)))
  · exact jE_bad h1 h2 (.inl (.inl ⟨.inr (.inr rfl), ha fun q => h3 (.inl (.inl ⟨.inr (.inr rfl), q⟩))⟩))
attribute [local irreducible] w4 valN jE jeP hexL wJ jForm
def C_l17_JobRights : SpecP := fun A K => ∃ k h t f s d l a n src dst aux fi, A [jbA k h t f s d l a n, .u32 src, .u32 dst, .u32 aux, .u8 fi] ∧ K (.bo true)
theorem g_l17_JobRights : Gd 5 (pureP ty C_l17_JobRights) := by
  refine goodP (E := PG [(6, pureP ty C_l17_awake), (11, pureP ty C_j_Right)]) (pgOK ⟨g_l17_awake, g_j_Right, trivial⟩) mixes Try.func5 (by kernel_rfl) (by kernel_rfl) ?_
  rintro A K ⟨k, h, t, f, s, d, l, a, n, src, dst, aux, fi, hA, hK⟩
  refine ⟨_, _, fun _ => none, hA, hK, by kernel_rfl, trivial, ?_⟩
  rcases Decidable.em (jE k h t f l n = 0) with e | e
  · have e1 := r_kind e
    have e2 := r_long e
    have e3 := r_al e
    rcases Decidable.em (fi % BitVec.ofInt 8 4 = BitVec.ofInt 8 0) with c0 | c0
    · skip
      repeat (first | ((conv => whnf); refine And.intro ?_ ?_; exact sideOf) | ((conv => whnf); refine NilE.some ?_ ?_; exact sideOf) | ((conv => whnf); refine And.intro (fun _ => ?_) (fun h => nomatch (show true = false from h))) | ((conv => whnf); refine And.intro (fun h => nomatch (show false = true from h)) (fun _ => ?_)) | ((conv => whnf); first | (apply Exists.intro; (repeat apply Exists.intro); refine And.intro ?_ ?_; exact leOf) | (refine Or.inl ?_; (conv => whnf); (repeat apply Exists.intro); refine And.intro ?_ ?_; exact leOf) | (refine Or.inr ?_; (conv => whnf); first | ((repeat apply Exists.intro); refine And.intro ?_ ?_; exact leOf) | (refine Or.inl ?_; (conv => whnf); (repeat apply Exists.intro); refine And.intro ?_ ?_; exact leOf) | (refine Or.inr ?_; (conv => whnf); (repeat apply Exists.intro); refine And.intro ?_ ?_; exact leOf))) | ((conv => whnf); first | refine And.intro (by assumption) ?_ | refine goT ?_ | refine goF ?_ | refine goL ?_ | refine goR ?_ | refine goRL ?_ | refine goRR ?_))
      all_goals try (conv => whnf)
      exact decide_eq_true e1
    rcases Decidable.em (fi % BitVec.ofInt 8 4 = BitVec.ofInt 8 1) with c1 | c1
    · skip
      repeat (first | ((conv => whnf); refine And.intro ?_ ?_; exact sideOf) | ((conv => whnf); refine NilE.some ?_ ?_; exact sideOf) | ((conv => whnf); refine And.intro (fun _ => ?_) (fun h => nomatch (show true = false from h))) | ((conv => whnf); refine And.intro (fun h => nomatch (show false = true from h)) (fun _ => ?_)) | ((conv => whnf); first | (apply Exists.intro; (repeat apply Exists.intro); refine And.intro ?_ ?_; exact leOf) | (refine Or.inl ?_; (conv => whnf); (repeat apply Exists.intro); refine And.intro ?_ ?_; exact leOf) | (refine Or.inr ?_; (conv => whnf); first | ((repeat apply Exists.intro); refine And.intro ?_ ?_; exact leOf) | (refine Or.inl ?_; (conv => whnf); (repeat apply Exists.intro); refine And.intro ?_ ?_; exact leOf) | (refine Or.inr ?_; (conv => whnf); (repeat apply Exists.intro); refine And.intro ?_ ?_; exact leOf))) | ((conv => whnf); first | refine And.intro (by assumption) ?_ | refine goT ?_ | refine goF ?_ | refine goL ?_ | refine goR ?_ | refine goRL ?_ | refine goRR ?_))
      all_goals try (conv => whnf)
      exact decide_eq_true e2
    rcases Decidable.em (fi % BitVec.ofInt 8 4 = BitVec.ofInt 8 2) with c2 | c2
    · skip
      repeat (first | ((conv => whnf); refine And.intro ?_ ?_; exact sideOf) | ((conv => whnf); refine NilE.some ?_ ?_; exact sideOf) | ((conv => whnf); refine And.intro (fun _ => ?_) (fun h => nomatch (show true = false from h))) | ((conv => whnf); refine And.intro (fun h => nomatch (show false = true from h)) (fun _ => ?_)) | ((conv => whnf); first | (apply Exists.intro; (repeat apply Exists.intro); refine And.intro ?_ ?_; exact leOf) | (refine Or.inl ?_; (conv => whnf); (repeat apply Exists.intro); refine And.intro ?_ ?_; exact leOf) | (refine Or.inr ?_; (conv => whnf); first | ((repeat apply Exists.intro); refine And.intro ?_ ?_; exact leOf) | (refine Or.inl ?_; (conv => whnf); (repeat apply Exists.intro); refine And.intro ?_ ?_; exact leOf) | (refine Or.inr ?_; (conv => whnf); (repeat apply Exists.intro); refine And.intro ?_ ?_; exact leOf))) | ((conv => whnf); first | refine And.intro (by assumption) ?_ | refine goT ?_ | refine goF ?_ | refine goL ?_ | refine goR ?_ | refine goRL ?_ | refine goRR ?_))
      all_goals try (conv => whnf)
      exact decide_eq_true e3
    rcases Decidable.em (k = BitVec.ofInt 8 2) with k2 | k2
    · have e4 := r_hand e (.inl k2)
      repeat (first | ((conv => whnf); refine And.intro ?_ ?_; exact sideOf) | ((conv => whnf); refine NilE.some ?_ ?_; exact sideOf) | ((conv => whnf); refine And.intro (fun _ => ?_) (fun h => nomatch (show true = false from h))) | ((conv => whnf); refine And.intro (fun h => nomatch (show false = true from h)) (fun _ => ?_)) | ((conv => whnf); first | (apply Exists.intro; (repeat apply Exists.intro); refine And.intro ?_ ?_; exact leOf) | (refine Or.inl ?_; (conv => whnf); (repeat apply Exists.intro); refine And.intro ?_ ?_; exact leOf) | (refine Or.inr ?_; (conv => whnf); first | ((repeat apply Exists.intro); refine And.intro ?_ ?_; exact leOf) | (refine Or.inl ?_; (conv => whnf); (repeat apply Exists.intro); refine And.intro ?_ ?_; exact leOf) | (refine Or.inr ?_; (conv => whnf); (repeat apply Exists.intro); refine And.intro ?_ ?_; exact leOf))) | ((conv => whnf); first | refine And.intro (by assumption) ?_ | refine goT ?_ | refine goF ?_ | refine goL ?_ | refine goR ?_ | refine goRL ?_ | refine goRR ?_))
      all_goals try (conv => whnf)
      exact decide_eq_true e4
    rcases Decidable.em (k = BitVec.ofInt 8 3) with k3 | k3
    · have e4 := r_hand e (.inr (.inl k3))
      repeat (first | ((conv => whnf); refine And.intro ?_ ?_; exact sideOf) | ((conv => whnf); refine NilE.some ?_ ?_; exact sideOf) | ((conv => whnf); refine And.intro (fun _ => ?_) (fun h => nomatch (show true = false from h))) | ((conv => whnf); refine And.intro (fun h => nomatch (show false = true from h)) (fun _ => ?_)) | ((conv => whnf); first | (apply Exists.intro; (repeat apply Exists.intro); refine And.intro ?_ ?_; exact leOf) | (refine Or.inl ?_; (conv => whnf); (repeat apply Exists.intro); refine And.intro ?_ ?_; exact leOf) | (refine Or.inr ?_; (conv => whnf); first | ((repeat apply Exists.intro); refine And.intro ?_ ?_; exact leOf) | (refine Or.inl ?_; (conv => whnf); (repeat apply Exists.intro); refine And.intro ?_ ?_; exact leOf) | (refine Or.inr ?_; (conv => whnf); (repeat apply Exists.intro); refine And.intro ?_ ?_; exact leOf))) | ((conv => whnf); first | refine And.intro (by assumption) ?_ | refine goT ?_ | refine goF ?_ | refine goL ?_ | refine goR ?_ | refine goRL ?_ | refine goRR ?_))
      all_goals try (conv => whnf)
      exact decide_eq_true e4
    rcases Decidable.em (k = BitVec.ofInt 8 4) with k4 | k4
    · have e4 := r_hand e (.inr (.inr (.inl k4)))
      repeat (first | ((conv => whnf); refine And.intro ?_ ?_; exact sideOf) | ((conv => whnf); refine NilE.some ?_ ?_; exact sideOf) | ((conv => whnf); refine And.intro (fun _ => ?_) (fun h => nomatch (show true = false from h))) | ((conv => whnf); refine And.intro (fun h => nomatch (show false = true from h)) (fun _ => ?_)) | ((conv => whnf); first | (apply Exists.intro; (repeat apply Exists.intro); refine And.intro ?_ ?_; exact leOf) | (refine Or.inl ?_; (conv => whnf); (repeat apply Exists.intro); refine And.intro ?_ ?_; exact leOf) | (refine Or.inr ?_; (conv => whnf); first | ((repeat apply Exists.intro); refine And.intro ?_ ?_; exact leOf) | (refine Or.inl ?_; (conv => whnf); (repeat apply Exists.intro); refine And.intro ?_ ?_; exact leOf) | (refine Or.inr ?_; (conv => whnf); (repeat apply Exists.intro); refine And.intro ?_ ?_; exact leOf))) | ((conv => whnf); first | refine And.intro (by assumption) ?_ | refine goT ?_ | refine goF ?_ | refine goL ?_ | refine goR ?_ | refine goRL ?_ | refine goRR ?_))
      all_goals try (conv => whnf)
      exact decide_eq_true e4
    rcases Decidable.em (k = BitVec.ofInt 8 6) with k6 | k6
    · have e4 := r_hand e (.inr (.inr (.inr k6)))
      repeat (first | ((conv => whnf); refine And.intro ?_ ?_; exact sideOf) | ((conv => whnf); refine NilE.some ?_ ?_; exact sideOf) | ((conv => whnf); refine And.intro (fun _ => ?_) (fun h => nomatch (show true = false from h))) | ((conv => whnf); refine And.intro (fun h => nomatch (show false = true from h)) (fun _ => ?_)) | ((conv => whnf); first | (apply Exists.intro; (repeat apply Exists.intro); refine And.intro ?_ ?_; exact leOf) | (refine Or.inl ?_; (conv => whnf); (repeat apply Exists.intro); refine And.intro ?_ ?_; exact leOf) | (refine Or.inr ?_; (conv => whnf); first | ((repeat apply Exists.intro); refine And.intro ?_ ?_; exact leOf) | (refine Or.inl ?_; (conv => whnf); (repeat apply Exists.intro); refine And.intro ?_ ?_; exact leOf) | (refine Or.inr ?_; (conv => whnf); (repeat apply Exists.intro); refine And.intro ?_ ?_; exact leOf))) | ((conv => whnf); first | refine And.intro (by assumption) ?_ | refine goT ?_ | refine goF ?_ | refine goL ?_ | refine goR ?_ | refine goRL ?_ | refine goRR ?_))
      all_goals try (conv => whnf)
      exact decide_eq_true e4
    repeat (first | ((conv => whnf); refine And.intro ?_ ?_; exact sideOf) | ((conv => whnf); refine NilE.some ?_ ?_; exact sideOf) | ((conv => whnf); refine And.intro (fun _ => ?_) (fun h => nomatch (show true = false from h))) | ((conv => whnf); refine And.intro (fun h => nomatch (show false = true from h)) (fun _ => ?_)) | ((conv => whnf); first | (apply Exists.intro; (repeat apply Exists.intro); refine And.intro ?_ ?_; exact leOf) | (refine Or.inl ?_; (conv => whnf); (repeat apply Exists.intro); refine And.intro ?_ ?_; exact leOf) | (refine Or.inr ?_; (conv => whnf); first | ((repeat apply Exists.intro); refine And.intro ?_ ?_; exact leOf) | (refine Or.inl ?_; (conv => whnf); (repeat apply Exists.intro); refine And.intro ?_ ?_; exact leOf) | (refine Or.inr ?_; (conv => whnf); (repeat apply Exists.intro); refine And.intro ?_ ?_; exact leOf))) | ((conv => whnf); first | refine And.intro (by assumption) ?_ | refine goT ?_ | refine goF ?_ | refine goL ?_ | refine goR ?_ | refine goRL ?_ | refine goRR ?_))
    all_goals try (conv => whnf)
    ((repeat' ((conv => whnf) <;> first | exact trivial | (with_reducible first | refine And.intro ?_ ?_ | refine rows_lt1 ?_ | refine rows_lt2 ?_ ?_ | refine rows_lt3 ?_ ?_ ?_ | refine rows_lt4 ?_ ?_ ?_ ?_ | refine rows_lt5 ?_ ?_ ?_ ?_ ?_ | refine aggs_lt1 ?_ | refine aggs_lt2 ?_ ?_ | refine aggs_lt3 ?_ ?_ ?_ | refine fun (_ : Nat) => ?_) | refine fun (_ : (_ : Nat) < _) => ?_ | exact rfl | exact Nat.le_of_ble_eq_true rfl | (change (_ : Nat) ≤ _; omega) | (change (_ : Nat) = _; omega) | (change (_ : Int) = _; omega))); (all_goals try (conv => whnf)))
  · skip
    repeat (first | ((conv => whnf); refine And.intro ?_ ?_; exact sideOf) | ((conv => whnf); refine NilE.some ?_ ?_; exact sideOf) | ((conv => whnf); refine And.intro (fun _ => ?_) (fun h => nomatch (show true = false from h))) | ((conv => whnf); refine And.intro (fun h => nomatch (show false = true from h)) (fun _ => ?_)) | ((conv => whnf); first | (apply Exists.intro; (repeat apply Exists.intro); refine And.intro ?_ ?_; exact leOf) | (refine Or.inl ?_; (conv => whnf); (repeat apply Exists.intro); refine And.intro ?_ ?_; exact leOf) | (refine Or.inr ?_; (conv => whnf); first | ((repeat apply Exists.intro); refine And.intro ?_ ?_; exact leOf) | (refine Or.inl ?_; (conv => whnf); (repeat apply Exists.intro); refine And.intro ?_ ?_; exact leOf) | (refine Or.inr ?_; (conv => whnf); (repeat apply Exists.intro); refine And.intro ?_ ?_; exact leOf))) | ((conv => whnf); first | refine And.intro (by assumption) ?_ | refine goT ?_ | refine goF ?_ | refine goL ?_ | refine goR ?_ | refine goRL ?_ | refine goRR ?_))
    all_goals try (conv => whnf)
    ((repeat' ((conv => whnf) <;> first | exact trivial | (with_reducible first | refine And.intro ?_ ?_ | refine rows_lt1 ?_ | refine rows_lt2 ?_ ?_ | refine rows_lt3 ?_ ?_ ?_ | refine rows_lt4 ?_ ?_ ?_ ?_ | refine rows_lt5 ?_ ?_ ?_ ?_ ?_ | refine aggs_lt1 ?_ | refine aggs_lt2 ?_ ?_ | refine aggs_lt3 ?_ ?_ ?_ | refine fun (_ : Nat) => ?_) | refine fun (_ : (_ : Nat) < _) => ?_ | exact rfl | exact Nat.le_of_ble_eq_true rfl | (change (_ : Nat) ≤ _; omega) | (change (_ : Nat) = _; omega) | (change (_ : Int) = _; omega))); (all_goals try (conv => whnf)))
end Go.Proofs.Ytobilidppfmdkaa
