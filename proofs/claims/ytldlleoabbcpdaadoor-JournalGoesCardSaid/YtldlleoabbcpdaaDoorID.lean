/- The journal: the reference's reading, the flash that the laws lay, what is to be done next. -/
import Derived.Test.YtldlleoabbcpdaaDoorIR
namespace Go.Proofs.YtldlleoabbcpdaaDoor
open Go.RowKit
set_option maxRecDepth 100000
set_option maxHeartbeats 20000000
theorem rd2_a {m : Nat → BitVec 8} (h : isR 32 (pgF m 32)) (h2 : ¬ isR 32 (pgF m 33) ∨ ¬ bQ (pgF m 32) < bQ (pgF m 33)) : rdN m 2 = (recJ (pgF m 32), 32) := by
  have e : rdN m 1 = (recJ (pgF m 32), 32) := rdN_in (k := 0) h (Or.inl rfl)
  rcases h2 with h2 | h2
  · exact (rdN_no (k := 1) h2).trans e
  · exact (rdN_old (k := 1) (by rw [e]; exact (by decide : ¬ ((32 : Int) = -1))) (by rw [e]; exact h2)).trans e
theorem rd2_b {m : Nat → BitVec 8} (h : isR 32 (pgF m 33)) (h2 : ¬ isR 32 (pgF m 32) ∨ bQ (pgF m 32) < bQ (pgF m 33)) : rdN m 2 = (recJ (pgF m 33), 33) := by
  by_cases h0 : isR 32 (pgF m 32)
  · have e : rdN m 1 = (recJ (pgF m 32), 32) := rdN_in (k := 0) h0 (Or.inl rfl)
    exact rdN_in (k := 1) h (Or.inr (by rw [e]; exact h2.elim (fun q => absurd h0 q) id))
  · have e : rdN m 1 = (jsF, -1) := rdN_no (k := 0) h0
    exact rdN_in (k := 1) h (Or.inl (by rw [e]))
theorem rd2_n {m : Nat → BitVec 8} (h : ¬ isR 32 (pgF m 32)) (h2 : ¬ isR 32 (pgF m 33)) : rdN m 2 = (jsF, -1) := (rdN_no (k := 1) h2).trans (rdN_no (k := 0) h)
attribute [local irreducible] at8 be rcF rcH lw hsh rst sha256 press dig isR rgt w4 rdN bQ bA bT bR
def C_r22_Read : SpecP := fun A K => ∃ m, A [bsl (40 * 256) m] ∧ K (tupOf [jsJ (rdN m 2).1, .int (rdN m 2).2])
theorem g_r22_Read : Gd 20 (pureP ty C_r22_Read) := by
  refine goodP (E := PG [(17, pureP ty C_r22_Parse)]) (pgOK ⟨g_r22_Parse, trivial⟩) mixes Tryd.func20 (by kernel_rfl) (by kernel_rfl) ?_
  rintro A K ⟨m, hA, hK⟩
  refine ⟨_, _, fun _ => none, hA, hK, by kernel_rfl, own_res (own_js _ _ _ _) trivial, ?_⟩
  by_cases h0 : isR 32 (pgF m 32)
  · by_cases h1 : isR 32 (pgF m 33)
    · by_cases h2 : bQ (pgF m 32) < bQ (pgF m 33)
      · have e := rd2_b h1 (Or.inr h2)
        have h2' : ¬ bQ (pgF m 33) ≤ bQ (pgF m 32) := BitVec.not_le.2 h2
        repeat ((conv => whnf); first | refine sdO ?_ | refine nlO ?_ | refine goA ?_ | refine goB ?_ | (apply Exists.intro; (repeat apply Exists.intro); refine caO ?_) | (refine Or.inl ?_; (conv => whnf); (repeat apply Exists.intro); refine caO ?_) | (refine Or.inr ?_; (conv => whnf); first | ((repeat apply Exists.intro); refine caO ?_) | (refine Or.inl ?_; (conv => whnf); (repeat apply Exists.intro); refine caO ?_) | (refine Or.inr ?_; (conv => whnf); (repeat apply Exists.intro); refine caO ?_)) | refine And.intro (by assumption) ?_ | refine goT ?_ | refine goF ?_ | refine goL ?_ | refine goR ?_ | refine goRL ?_ | refine goRR ?_)
        all_goals try (conv => whnf)
        ((repeat' ((conv => whnf) <;> first | exact trivial | (with_reducible first | refine And.intro ?_ ?_ | refine rows_lt1 ?_ | refine rows_lt2 ?_ ?_ | refine rows_lt3 ?_ ?_ ?_ | refine rows_lt4 ?_ ?_ ?_ ?_ | refine rows_lt5 ?_ ?_ ?_ ?_ ?_ | refine ints_lt1 ?_ | refine ints_lt2 ?_ ?_ | refine ints_lt3 ?_ ?_ ?_ | refine rows_lt7 ?_ ?_ ?_ ?_ ?_ ?_ ?_ | refine aggs_lt1 ?_ | refine aggs_lt2 ?_ ?_ | refine aggs_lt3 ?_ ?_ ?_ | refine fun (_ : Nat) => ?_) | refine fun (_ : (_ : Nat) < _) => ?_ | exact rfl | exact Nat.le_of_ble_eq_true rfl | (change (_ : Nat) ≤ _; omega) | (change (_ : Nat) = _; omega) | (change (_ : Int) = _; omega))); (all_goals try (conv => whnf)))
        all_goals (simp only [e])
        all_goals rfl
      · have e := rd2_a h0 (Or.inr h2)
        have h2' : bQ (pgF m 33) ≤ bQ (pgF m 32) := BitVec.not_lt.1 h2
        repeat ((conv => whnf); first | refine sdO ?_ | refine nlO ?_ | refine goA ?_ | refine goB ?_ | (apply Exists.intro; (repeat apply Exists.intro); refine caO ?_) | (refine Or.inl ?_; (conv => whnf); (repeat apply Exists.intro); refine caO ?_) | (refine Or.inr ?_; (conv => whnf); first | ((repeat apply Exists.intro); refine caO ?_) | (refine Or.inl ?_; (conv => whnf); (repeat apply Exists.intro); refine caO ?_) | (refine Or.inr ?_; (conv => whnf); (repeat apply Exists.intro); refine caO ?_)) | refine And.intro (by assumption) ?_ | refine goT ?_ | refine goF ?_ | refine goL ?_ | refine goR ?_ | refine goRL ?_ | refine goRR ?_)
        all_goals try (conv => whnf)
        ((repeat' ((conv => whnf) <;> first | exact trivial | (with_reducible first | refine And.intro ?_ ?_ | refine rows_lt1 ?_ | refine rows_lt2 ?_ ?_ | refine rows_lt3 ?_ ?_ ?_ | refine rows_lt4 ?_ ?_ ?_ ?_ | refine rows_lt5 ?_ ?_ ?_ ?_ ?_ | refine ints_lt1 ?_ | refine ints_lt2 ?_ ?_ | refine ints_lt3 ?_ ?_ ?_ | refine rows_lt7 ?_ ?_ ?_ ?_ ?_ ?_ ?_ | refine aggs_lt1 ?_ | refine aggs_lt2 ?_ ?_ | refine aggs_lt3 ?_ ?_ ?_ | refine fun (_ : Nat) => ?_) | refine fun (_ : (_ : Nat) < _) => ?_ | exact rfl | exact Nat.le_of_ble_eq_true rfl | (change (_ : Nat) ≤ _; omega) | (change (_ : Nat) = _; omega) | (change (_ : Int) = _; omega))); (all_goals try (conv => whnf)))
        all_goals (simp only [e])
        all_goals rfl
    · have e := rd2_a h0 (Or.inl h1)
      repeat ((conv => whnf); first | refine sdO ?_ | refine nlO ?_ | refine goA ?_ | refine goB ?_ | (apply Exists.intro; (repeat apply Exists.intro); refine caO ?_) | (refine Or.inl ?_; (conv => whnf); (repeat apply Exists.intro); refine caO ?_) | (refine Or.inr ?_; (conv => whnf); first | ((repeat apply Exists.intro); refine caO ?_) | (refine Or.inl ?_; (conv => whnf); (repeat apply Exists.intro); refine caO ?_) | (refine Or.inr ?_; (conv => whnf); (repeat apply Exists.intro); refine caO ?_)) | refine And.intro (by assumption) ?_ | refine goT ?_ | refine goF ?_ | refine goL ?_ | refine goR ?_ | refine goRL ?_ | refine goRR ?_)
      all_goals try (conv => whnf)
      ((repeat' ((conv => whnf) <;> first | exact trivial | (with_reducible first | refine And.intro ?_ ?_ | refine rows_lt1 ?_ | refine rows_lt2 ?_ ?_ | refine rows_lt3 ?_ ?_ ?_ | refine rows_lt4 ?_ ?_ ?_ ?_ | refine rows_lt5 ?_ ?_ ?_ ?_ ?_ | refine ints_lt1 ?_ | refine ints_lt2 ?_ ?_ | refine ints_lt3 ?_ ?_ ?_ | refine rows_lt7 ?_ ?_ ?_ ?_ ?_ ?_ ?_ | refine aggs_lt1 ?_ | refine aggs_lt2 ?_ ?_ | refine aggs_lt3 ?_ ?_ ?_ | refine fun (_ : Nat) => ?_) | refine fun (_ : (_ : Nat) < _) => ?_ | exact rfl | exact Nat.le_of_ble_eq_true rfl | (change (_ : Nat) ≤ _; omega) | (change (_ : Nat) = _; omega) | (change (_ : Int) = _; omega))); (all_goals try (conv => whnf)))
      all_goals (simp only [e])
      all_goals rfl
  · by_cases h1 : isR 32 (pgF m 33)
    · have e := rd2_b h1 (Or.inl h0)
      repeat ((conv => whnf); first | refine sdO ?_ | refine nlO ?_ | refine goA ?_ | refine goB ?_ | (apply Exists.intro; (repeat apply Exists.intro); refine caO ?_) | (refine Or.inl ?_; (conv => whnf); (repeat apply Exists.intro); refine caO ?_) | (refine Or.inr ?_; (conv => whnf); first | ((repeat apply Exists.intro); refine caO ?_) | (refine Or.inl ?_; (conv => whnf); (repeat apply Exists.intro); refine caO ?_) | (refine Or.inr ?_; (conv => whnf); (repeat apply Exists.intro); refine caO ?_)) | refine And.intro (by assumption) ?_ | refine goT ?_ | refine goF ?_ | refine goL ?_ | refine goR ?_ | refine goRL ?_ | refine goRR ?_)
      all_goals try (conv => whnf)
      ((repeat' ((conv => whnf) <;> first | exact trivial | (with_reducible first | refine And.intro ?_ ?_ | refine rows_lt1 ?_ | refine rows_lt2 ?_ ?_ | refine rows_lt3 ?_ ?_ ?_ | refine rows_lt4 ?_ ?_ ?_ ?_ | refine rows_lt5 ?_ ?_ ?_ ?_ ?_ | refine ints_lt1 ?_ | refine ints_lt2 ?_ ?_ | refine ints_lt3 ?_ ?_ ?_ | refine rows_lt7 ?_ ?_ ?_ ?_ ?_ ?_ ?_ | refine aggs_lt1 ?_ | refine aggs_lt2 ?_ ?_ | refine aggs_lt3 ?_ ?_ ?_ | refine fun (_ : Nat) => ?_) | refine fun (_ : (_ : Nat) < _) => ?_ | exact rfl | exact Nat.le_of_ble_eq_true rfl | (change (_ : Nat) ≤ _; omega) | (change (_ : Nat) = _; omega) | (change (_ : Int) = _; omega))); (all_goals try (conv => whnf)))
      all_goals (simp only [e])
      all_goals rfl
    · have e := rd2_n h0 h1
      repeat ((conv => whnf); first | refine sdO ?_ | refine nlO ?_ | refine goA ?_ | refine goB ?_ | (apply Exists.intro; (repeat apply Exists.intro); refine caO ?_) | (refine Or.inl ?_; (conv => whnf); (repeat apply Exists.intro); refine caO ?_) | (refine Or.inr ?_; (conv => whnf); first | ((repeat apply Exists.intro); refine caO ?_) | (refine Or.inl ?_; (conv => whnf); (repeat apply Exists.intro); refine caO ?_) | (refine Or.inr ?_; (conv => whnf); (repeat apply Exists.intro); refine caO ?_)) | refine And.intro (by assumption) ?_ | refine goT ?_ | refine goF ?_ | refine goL ?_ | refine goR ?_ | refine goRL ?_ | refine goRR ?_)
      all_goals try (conv => whnf)
      ((repeat' ((conv => whnf) <;> first | exact trivial | (with_reducible first | refine And.intro ?_ ?_ | refine rows_lt1 ?_ | refine rows_lt2 ?_ ?_ | refine rows_lt3 ?_ ?_ ?_ | refine rows_lt4 ?_ ?_ ?_ ?_ | refine rows_lt5 ?_ ?_ ?_ ?_ ?_ | refine ints_lt1 ?_ | refine ints_lt2 ?_ ?_ | refine ints_lt3 ?_ ?_ ?_ | refine rows_lt7 ?_ ?_ ?_ ?_ ?_ ?_ ?_ | refine aggs_lt1 ?_ | refine aggs_lt2 ?_ ?_ | refine aggs_lt3 ?_ ?_ ?_ | refine fun (_ : Nat) => ?_) | refine fun (_ : (_ : Nat) < _) => ?_ | exact rfl | exact Nat.le_of_ble_eq_true rfl | (change (_ : Nat) ≤ _; omega) | (change (_ : Nat) = _; omega) | (change (_ : Int) = _; omega))); (all_goals try (conv => whnf)))
      all_goals (simp only [e])
      all_goals rfl
def C_l22_all : SpecP := fun A K => ∃ m, A [flI 40 m] ∧ K (bsf (40 * 256) m)
theorem g_l22_all : Gd 21 (pureP ty C_l22_all) := by
  refine goodP (E := PG [(37, pureP ty C_fl_Size), (36, pureR ty C_fl_Read)]) (pgOK ⟨g_fl_Size, g_fl_Read, trivial⟩) mixes Tryd.func21 (by kernel_rfl) (by kernel_rfl) ?_
  rintro A K ⟨m, hA, hK⟩
  refine ⟨_, _, fun _ => none, hA, hK, by kernel_rfl, ⟨rfl, fun _ _ => trivial⟩, ?_⟩
  repeat ((conv => whnf); first | refine sdO ?_ | refine nlO ?_ | refine goA ?_ | refine goB ?_ | (apply Exists.intro; (repeat apply Exists.intro); refine caO ?_) | (refine Or.inl ?_; (conv => whnf); (repeat apply Exists.intro); refine caO ?_) | (refine Or.inr ?_; (conv => whnf); first | ((repeat apply Exists.intro); refine caO ?_) | (refine Or.inl ?_; (conv => whnf); (repeat apply Exists.intro); refine caO ?_) | (refine Or.inr ?_; (conv => whnf); (repeat apply Exists.intro); refine caO ?_)) | refine And.intro (by assumption) ?_ | refine goT ?_ | refine goF ?_ | refine goL ?_ | refine goR ?_ | refine goRL ?_ | refine goRR ?_)
  all_goals try (conv => whnf)
  ((repeat' ((conv => whnf) <;> first | exact trivial | (with_reducible first | refine And.intro ?_ ?_ | refine rows_lt1 ?_ | refine rows_lt2 ?_ ?_ | refine rows_lt3 ?_ ?_ ?_ | refine rows_lt4 ?_ ?_ ?_ ?_ | refine rows_lt5 ?_ ?_ ?_ ?_ ?_ | refine ints_lt1 ?_ | refine ints_lt2 ?_ ?_ | refine ints_lt3 ?_ ?_ ?_ | refine rows_lt7 ?_ ?_ ?_ ?_ ?_ ?_ ?_ | refine aggs_lt1 ?_ | refine aggs_lt2 ?_ ?_ | refine aggs_lt3 ?_ ?_ ?_ | refine fun (_ : Nat) => ?_) | refine fun (_ : (_ : Nat) < _) => ?_ | exact rfl | exact Nat.le_of_ble_eq_true rfl | (change (_ : Nat) ≤ _; omega) | (change (_ : Nat) = _; omega) | (change (_ : Int) = _; omega))); (all_goals try (conv => whnf)))
  rename_i x hx
  exact congrArg m (Nat.zero_add x)
/-- A flash with two pages of the journal. -/
noncomputable def lyM (l : Nat) (p : Nat → BitVec 8) (l' : Nat) (q : Nat → BitVec 8) : Nat → BitVec 8 := setF (setF (fun _ => 255) 8192 (min l 256) p) 8448 (min l' 256) q
theorem ly_ok1 (l : Nat) (p : Nat → BitVec 8) : ∀ i, i < min l 256 → ¬ badB (fun _ => 255) 8192 p i := by
  intro i _ h
  unfold badB at h
  exact h (by rw [show ~~~(255 : BitVec 8) = 0 by decide]; exact BitVec.and_zero)
theorem ly_ok2 (l : Nat) (p : Nat → BitVec 8) (l' : Nat) (q : Nat → BitVec 8) : ∀ i, i < min l' 256 → ¬ badB (setF (fun _ => 255) 8192 (min l 256) p) 8448 q i := by
  intro i _ h
  unfold badB setF at h
  rw [if_neg (by omega)] at h
  exact h (by rw [show ~~~(255 : BitVec 8) = 0 by decide]; exact BitVec.and_zero)
attribute [local irreducible] setF badB
def C_l22_lay : SpecR := fun A K => ∃ l p l' q, A [bsl l p, bsl l' q] ∧ (l ≤ maxLen ∧ l' ≤ maxLen) ∧ K (.ptr TFl 8 []) (flR 8 9 40 (lyM l p l' q))
theorem g_l22_lay : Gd 18 (pureR ty C_l22_lay) := by
  refine goodR (E := PG [(27, pureR ty C_fl_New), (9, pureR ty C_r1_Cut), (34, mutD ty [true, false, false] C_fl_Write)]) (pgOK ⟨g_fl_New, g_r1_Cut, g_fl_Write, trivial⟩) mixes Tryd.func18 (by kernel_rfl) (by kernel_rfl) ?_
  rintro A K ⟨l, p, l', q, hA, ⟨hl, hl'⟩, hK⟩
  refine ⟨_, _, _, fun _ => none, hA, hK, by kernel_rfl, by kernel_rfl, own_fl _ _ _ _, trivial, ?_⟩
  have h1 := ly_ok1 l p
  have h2 := ly_ok2 l p l' q
  repeat ((conv => whnf); first | refine sdO ?_ | refine nlO ?_ | refine goA ?_ | refine goB ?_ | (apply Exists.intro; (repeat apply Exists.intro); refine caO ?_) | (refine Or.inl ?_; (conv => whnf); (repeat apply Exists.intro); refine caO ?_) | (refine Or.inr ?_; (conv => whnf); first | ((repeat apply Exists.intro); refine caO ?_) | (refine Or.inl ?_; (conv => whnf); (repeat apply Exists.intro); refine caO ?_) | (refine Or.inr ?_; (conv => whnf); (repeat apply Exists.intro); refine caO ?_)) | refine And.intro (by assumption) ?_ | refine goT ?_ | refine goF ?_ | refine goL ?_ | refine goR ?_ | refine goRL ?_ | refine goRR ?_)
  all_goals try (conv => whnf)
  (refine out_fnd ?_; (repeat' ((conv => whnf) <;> first | exact trivial | (with_reducible first | refine And.intro ?_ ?_ | refine rows_lt1 ?_ | refine rows_lt2 ?_ ?_ | refine rows_lt3 ?_ ?_ ?_ | refine rows_lt4 ?_ ?_ ?_ ?_ | refine rows_lt5 ?_ ?_ ?_ ?_ ?_ | refine ints_lt1 ?_ | refine ints_lt2 ?_ ?_ | refine ints_lt3 ?_ ?_ ?_ | refine rows_lt7 ?_ ?_ ?_ ?_ ?_ ?_ ?_ | refine aggs_lt1 ?_ | refine aggs_lt2 ?_ ?_ | refine aggs_lt3 ?_ ?_ ?_ | refine fun (_ : Nat) => ?_) | refine fun (_ : (_ : Nat) < _) => ?_ | exact rfl | exact Nat.le_of_ble_eq_true rfl | (change (_ : Nat) ≤ _; omega) | (change (_ : Nat) = _; omega) | (change (_ : Int) = _; omega))); (all_goals try (conv => whnf)))
end Go.Proofs.YtldlleoabbcpdaaDoor
