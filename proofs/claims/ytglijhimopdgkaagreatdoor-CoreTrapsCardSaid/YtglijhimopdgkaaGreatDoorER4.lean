/- Where an address is, as the document has it; first addresses and sizes; what can be wrong. -/
import Derived.Test.YtglijhimopdgkaaGreatDoorER3
namespace Go.Proofs.YtglijhimopdgkaaGreatDoor
open Go.RowKit
set_option maxRecDepth 100000
set_option maxHeartbeats 20000000
def C_g_Base : SpecP := fun A K => ∃ z : Int, A [.int z] ∧ (0 ≤ z ∧ z < 6 ∧ K (tupOf [.u32 (BitVec.ofInt 32 (rb z.toNat : Int)), .nat (rs z.toNat)]) ∨ ¬ (0 ≤ z ∧ z < 6) ∧ K (tupOf [.u32 (BitVec.ofInt 32 0), .nat 0]))
theorem g_g_Base : Gd 57 (pureP ty C_g_Base) := by
  refine goodP (E := PG []) (pgOK trivial) mixes Tryz.func57 (by kernel_rfl) (by kernel_rfl) ?_
  rintro A K ⟨z, hA, ⟨h0, h1, hK⟩ | ⟨h, hK⟩⟩
  · refine ⟨_, _, fun _ => none, hA, hK, by kernel_rfl, own_res trivial trivial, ?_⟩
    have h2 : ¬ z < 0 := by omega
    have h3 : ¬ 6 ≤ z := by omega
    have h4 : z.toNat < 6 := by omega
    have h5 := (rb_ok _ h4).2.1
    have h6 : (BitVec.ofInt 32 (rs z.toNat : Int)).toNat = rs z.toNat := by rw [BitVec.ofInt_natCast, BitVec.toNat_ofNat]; omega
    repeat ((conv => whnf); first | refine sdO ?_ | refine nlO ?_ | refine goA ?_ | refine goB ?_ | (apply Exists.intro; (repeat apply Exists.intro); refine caO ?_) | (refine Or.inl ?_; (conv => whnf); (repeat apply Exists.intro); refine caO ?_) | (refine Or.inr ?_; (conv => whnf); first | ((repeat apply Exists.intro); refine caO ?_) | (refine Or.inl ?_; (conv => whnf); (repeat apply Exists.intro); refine caO ?_) | (refine Or.inr ?_; (conv => whnf); (repeat apply Exists.intro); refine caO ?_)) | refine And.intro (by assumption) ?_ | refine goT ?_ | refine goF ?_ | refine goL ?_ | refine goR ?_ | refine goRL ?_ | refine goRR ?_)
    all_goals try (conv => whnf)
    ((repeat' ((conv => whnf) <;> first | exact trivial | (with_reducible first | refine And.intro ?_ ?_ | refine qL1 ?_ | refine qL2 ?_ ?_ | refine qL3 ?_ ?_ ?_ | refine qL4 ?_ ?_ ?_ ?_ | refine qL5 ?_ ?_ ?_ ?_ ?_ | refine yL1 ?_ | refine yL2 ?_ ?_ | refine yL3 ?_ ?_ ?_ | refine qL7 ?_ ?_ ?_ ?_ ?_ ?_ ?_ | refine zL1 ?_ | refine zL2 ?_ ?_ | refine zL3 ?_ ?_ ?_ | refine fun (_ : Nat) => ?_) | refine fun (_ : (_ : Nat) < _) => ?_ | exact rfl | exact Nat.le_of_ble_eq_true rfl | (change (_ : Nat) ≤ _; omega) | (change (_ : Nat) = _; omega) | (change (_ : Int) = _; omega))); (all_goals try (conv => whnf)))
    all_goals exact h6
  · refine ⟨_, _, fun _ => none, hA, hK, by kernel_rfl, own_res trivial trivial, ?_⟩
    rcases Int.lt_or_le z 0 with h0 | h0
    · skip
      repeat ((conv => whnf); first | refine sdO ?_ | refine nlO ?_ | refine goA ?_ | refine goB ?_ | (apply Exists.intro; (repeat apply Exists.intro); refine caO ?_) | (refine Or.inl ?_; (conv => whnf); (repeat apply Exists.intro); refine caO ?_) | (refine Or.inr ?_; (conv => whnf); first | ((repeat apply Exists.intro); refine caO ?_) | (refine Or.inl ?_; (conv => whnf); (repeat apply Exists.intro); refine caO ?_) | (refine Or.inr ?_; (conv => whnf); (repeat apply Exists.intro); refine caO ?_)) | refine And.intro (by assumption) ?_ | refine goT ?_ | refine goF ?_ | refine goL ?_ | refine goR ?_ | refine goRL ?_ | refine goRR ?_)
      all_goals try (conv => whnf)
      ((repeat' ((conv => whnf) <;> first | exact trivial | (with_reducible first | refine And.intro ?_ ?_ | refine qL1 ?_ | refine qL2 ?_ ?_ | refine qL3 ?_ ?_ ?_ | refine qL4 ?_ ?_ ?_ ?_ | refine qL5 ?_ ?_ ?_ ?_ ?_ | refine yL1 ?_ | refine yL2 ?_ ?_ | refine yL3 ?_ ?_ ?_ | refine qL7 ?_ ?_ ?_ ?_ ?_ ?_ ?_ | refine zL1 ?_ | refine zL2 ?_ ?_ | refine zL3 ?_ ?_ ?_ | refine fun (_ : Nat) => ?_) | refine fun (_ : (_ : Nat) < _) => ?_ | exact rfl | exact Nat.le_of_ble_eq_true rfl | (change (_ : Nat) ≤ _; omega) | (change (_ : Nat) = _; omega) | (change (_ : Int) = _; omega))); (all_goals try (conv => whnf)))
    · have h1 : 6 ≤ z := by omega
      repeat ((conv => whnf); first | refine sdO ?_ | refine nlO ?_ | refine goA ?_ | refine goB ?_ | (apply Exists.intro; (repeat apply Exists.intro); refine caO ?_) | (refine Or.inl ?_; (conv => whnf); (repeat apply Exists.intro); refine caO ?_) | (refine Or.inr ?_; (conv => whnf); first | ((repeat apply Exists.intro); refine caO ?_) | (refine Or.inl ?_; (conv => whnf); (repeat apply Exists.intro); refine caO ?_) | (refine Or.inr ?_; (conv => whnf); (repeat apply Exists.intro); refine caO ?_)) | refine And.intro (by assumption) ?_ | refine goT ?_ | refine goF ?_ | refine goL ?_ | refine goR ?_ | refine goRL ?_ | refine goRR ?_)
      all_goals try (conv => whnf)
      ((repeat' ((conv => whnf) <;> first | exact trivial | (with_reducible first | refine And.intro ?_ ?_ | refine qL1 ?_ | refine qL2 ?_ ?_ | refine qL3 ?_ ?_ ?_ | refine qL4 ?_ ?_ ?_ ?_ | refine qL5 ?_ ?_ ?_ ?_ ?_ | refine yL1 ?_ | refine yL2 ?_ ?_ | refine yL3 ?_ ?_ ?_ | refine qL7 ?_ ?_ ?_ ?_ ?_ ?_ ?_ | refine zL1 ?_ | refine zL2 ?_ ?_ | refine zL3 ?_ ?_ ?_ | refine fun (_ : Nat) => ?_) | refine fun (_ : (_ : Nat) < _) => ?_ | exact rfl | exact Nat.le_of_ble_eq_true rfl | (change (_ : Nat) ≤ _; omega) | (change (_ : Nat) = _; omega) | (change (_ : Int) = _; omega))); (all_goals try (conv => whnf)))
def malB (w s z : Int) (wr fe : Bool) : Bool := decide (w < 0 ∨ 3 < w ∨ s < 0 ∨ 2 < s ∨ ¬ (z = 1 ∨ z = 2 ∨ z = 4)) || (wr && fe)
theorem mal_no {w s z : Int} {wr fe : Bool} (h : malB w s z wr fe = false) : (0 ≤ w ∧ w ≤ 3 ∧ 0 ≤ s ∧ s ≤ 2 ∧ (z = 1 ∨ z = 2 ∨ z = 4)) ∧ (wr && fe) = false := by
  unfold malB at h
  rw [Bool.or_eq_false_iff] at h
  have := of_decide_eq_false h.1
  exact ⟨by omega, h.2⟩
def C_g_mal : SpecP := fun A K => ∃ w s a z wr fe, A [acA w s a z wr fe] ∧ K (.bo (malB w s z wr fe))
theorem g_g_mal : Gd 111 (pureP ty C_g_mal) := by
  refine goodP (E := PG []) (pgOK trivial) mixes Tryz.func111 (by kernel_rfl) (by kernel_rfl) ?_
  rintro A K ⟨w, s, a, z, wr, fe, hA, hK⟩
  refine ⟨_, _, fun _ => none, hA, hK, by kernel_rfl, trivial, ?_⟩
  by_cases hw : w < 0
  · have e : malB w s z wr fe = true := by unfold malB; rw [decide_eq_true (.inl hw)]; rfl
    rw [e]
    repeat ((conv => whnf); first | refine sdO ?_ | refine nlO ?_ | refine goA ?_ | refine goB ?_ | (apply Exists.intro; (repeat apply Exists.intro); refine caO ?_) | (refine Or.inl ?_; (conv => whnf); (repeat apply Exists.intro); refine caO ?_) | (refine Or.inr ?_; (conv => whnf); first | ((repeat apply Exists.intro); refine caO ?_) | (refine Or.inl ?_; (conv => whnf); (repeat apply Exists.intro); refine caO ?_) | (refine Or.inr ?_; (conv => whnf); (repeat apply Exists.intro); refine caO ?_)) | refine And.intro (by assumption) ?_ | refine goT ?_ | refine goF ?_ | refine goL ?_ | refine goR ?_ | refine goRL ?_ | refine goRR ?_)
    all_goals try (conv => whnf)
    ((repeat' ((conv => whnf) <;> first | exact trivial | (with_reducible first | refine And.intro ?_ ?_ | refine qL1 ?_ | refine qL2 ?_ ?_ | refine qL3 ?_ ?_ ?_ | refine qL4 ?_ ?_ ?_ ?_ | refine qL5 ?_ ?_ ?_ ?_ ?_ | refine yL1 ?_ | refine yL2 ?_ ?_ | refine yL3 ?_ ?_ ?_ | refine qL7 ?_ ?_ ?_ ?_ ?_ ?_ ?_ | refine zL1 ?_ | refine zL2 ?_ ?_ | refine zL3 ?_ ?_ ?_ | refine fun (_ : Nat) => ?_) | refine fun (_ : (_ : Nat) < _) => ?_ | exact rfl | exact Nat.le_of_ble_eq_true rfl | (change (_ : Nat) ≤ _; omega) | (change (_ : Nat) = _; omega) | (change (_ : Int) = _; omega))); (all_goals try (conv => whnf)))
  by_cases hw3 : 3 < w
  · have e : malB w s z wr fe = true := by unfold malB; rw [decide_eq_true (.inr (.inl hw3))]; rfl
    rw [e]
    repeat ((conv => whnf); first | refine sdO ?_ | refine nlO ?_ | refine goA ?_ | refine goB ?_ | (apply Exists.intro; (repeat apply Exists.intro); refine caO ?_) | (refine Or.inl ?_; (conv => whnf); (repeat apply Exists.intro); refine caO ?_) | (refine Or.inr ?_; (conv => whnf); first | ((repeat apply Exists.intro); refine caO ?_) | (refine Or.inl ?_; (conv => whnf); (repeat apply Exists.intro); refine caO ?_) | (refine Or.inr ?_; (conv => whnf); (repeat apply Exists.intro); refine caO ?_)) | refine And.intro (by assumption) ?_ | refine goT ?_ | refine goF ?_ | refine goL ?_ | refine goR ?_ | refine goRL ?_ | refine goRR ?_)
    all_goals try (conv => whnf)
    ((repeat' ((conv => whnf) <;> first | exact trivial | (with_reducible first | refine And.intro ?_ ?_ | refine qL1 ?_ | refine qL2 ?_ ?_ | refine qL3 ?_ ?_ ?_ | refine qL4 ?_ ?_ ?_ ?_ | refine qL5 ?_ ?_ ?_ ?_ ?_ | refine yL1 ?_ | refine yL2 ?_ ?_ | refine yL3 ?_ ?_ ?_ | refine qL7 ?_ ?_ ?_ ?_ ?_ ?_ ?_ | refine zL1 ?_ | refine zL2 ?_ ?_ | refine zL3 ?_ ?_ ?_ | refine fun (_ : Nat) => ?_) | refine fun (_ : (_ : Nat) < _) => ?_ | exact rfl | exact Nat.le_of_ble_eq_true rfl | (change (_ : Nat) ≤ _; omega) | (change (_ : Nat) = _; omega) | (change (_ : Int) = _; omega))); (all_goals try (conv => whnf)))
  by_cases hs : s < 0
  · have e : malB w s z wr fe = true := by unfold malB; rw [decide_eq_true (.inr (.inr (.inl hs)))]; rfl
    rw [e]
    repeat ((conv => whnf); first | refine sdO ?_ | refine nlO ?_ | refine goA ?_ | refine goB ?_ | (apply Exists.intro; (repeat apply Exists.intro); refine caO ?_) | (refine Or.inl ?_; (conv => whnf); (repeat apply Exists.intro); refine caO ?_) | (refine Or.inr ?_; (conv => whnf); first | ((repeat apply Exists.intro); refine caO ?_) | (refine Or.inl ?_; (conv => whnf); (repeat apply Exists.intro); refine caO ?_) | (refine Or.inr ?_; (conv => whnf); (repeat apply Exists.intro); refine caO ?_)) | refine And.intro (by assumption) ?_ | refine goT ?_ | refine goF ?_ | refine goL ?_ | refine goR ?_ | refine goRL ?_ | refine goRR ?_)
    all_goals try (conv => whnf)
    ((repeat' ((conv => whnf) <;> first | exact trivial | (with_reducible first | refine And.intro ?_ ?_ | refine qL1 ?_ | refine qL2 ?_ ?_ | refine qL3 ?_ ?_ ?_ | refine qL4 ?_ ?_ ?_ ?_ | refine qL5 ?_ ?_ ?_ ?_ ?_ | refine yL1 ?_ | refine yL2 ?_ ?_ | refine yL3 ?_ ?_ ?_ | refine qL7 ?_ ?_ ?_ ?_ ?_ ?_ ?_ | refine zL1 ?_ | refine zL2 ?_ ?_ | refine zL3 ?_ ?_ ?_ | refine fun (_ : Nat) => ?_) | refine fun (_ : (_ : Nat) < _) => ?_ | exact rfl | exact Nat.le_of_ble_eq_true rfl | (change (_ : Nat) ≤ _; omega) | (change (_ : Nat) = _; omega) | (change (_ : Int) = _; omega))); (all_goals try (conv => whnf)))
  by_cases hs2 : 2 < s
  · have e : malB w s z wr fe = true := by unfold malB; rw [decide_eq_true (.inr (.inr (.inr (.inl hs2))))]; rfl
    rw [e]
    repeat ((conv => whnf); first | refine sdO ?_ | refine nlO ?_ | refine goA ?_ | refine goB ?_ | (apply Exists.intro; (repeat apply Exists.intro); refine caO ?_) | (refine Or.inl ?_; (conv => whnf); (repeat apply Exists.intro); refine caO ?_) | (refine Or.inr ?_; (conv => whnf); first | ((repeat apply Exists.intro); refine caO ?_) | (refine Or.inl ?_; (conv => whnf); (repeat apply Exists.intro); refine caO ?_) | (refine Or.inr ?_; (conv => whnf); (repeat apply Exists.intro); refine caO ?_)) | refine And.intro (by assumption) ?_ | refine goT ?_ | refine goF ?_ | refine goL ?_ | refine goR ?_ | refine goRL ?_ | refine goRR ?_)
    all_goals try (conv => whnf)
    ((repeat' ((conv => whnf) <;> first | exact trivial | (with_reducible first | refine And.intro ?_ ?_ | refine qL1 ?_ | refine qL2 ?_ ?_ | refine qL3 ?_ ?_ ?_ | refine qL4 ?_ ?_ ?_ ?_ | refine qL5 ?_ ?_ ?_ ?_ ?_ | refine yL1 ?_ | refine yL2 ?_ ?_ | refine yL3 ?_ ?_ ?_ | refine qL7 ?_ ?_ ?_ ?_ ?_ ?_ ?_ | refine zL1 ?_ | refine zL2 ?_ ?_ | refine zL3 ?_ ?_ ?_ | refine fun (_ : Nat) => ?_) | refine fun (_ : (_ : Nat) < _) => ?_ | exact rfl | exact Nat.le_of_ble_eq_true rfl | (change (_ : Nat) ≤ _; omega) | (change (_ : Nat) = _; omega) | (change (_ : Int) = _; omega))); (all_goals try (conv => whnf)))
  by_cases hz : z = 1 ∨ z = 2 ∨ z = 4
  · have e : malB w s z wr fe = (wr && fe) := by unfold malB; rw [decide_eq_false (by omega)]; rfl
    rw [e]
    rcases hz with rfl | rfl | rfl <;> cases wr
    all_goals (
      repeat ((conv => whnf); first | refine sdO ?_ | refine nlO ?_ | refine goA ?_ | refine goB ?_ | (apply Exists.intro; (repeat apply Exists.intro); refine caO ?_) | (refine Or.inl ?_; (conv => whnf); (repeat apply Exists.intro); refine caO ?_) | (refine Or.inr ?_; (conv => whnf); first | ((repeat apply Exists.intro); refine caO ?_) | (refine Or.inl ?_; (conv => whnf); (repeat apply Exists.intro); refine caO ?_) | (refine Or.inr ?_; (conv => whnf); (repeat apply Exists.intro); refine caO ?_)) | refine And.intro (by assumption) ?_ | refine goT ?_ | refine goF ?_ | refine goL ?_ | refine goR ?_ | refine goRL ?_ | refine goRR ?_)
      all_goals try (conv => whnf)
      ((repeat' ((conv => whnf) <;> first | exact trivial | (with_reducible first | refine And.intro ?_ ?_ | refine qL1 ?_ | refine qL2 ?_ ?_ | refine qL3 ?_ ?_ ?_ | refine qL4 ?_ ?_ ?_ ?_ | refine qL5 ?_ ?_ ?_ ?_ ?_ | refine yL1 ?_ | refine yL2 ?_ ?_ | refine yL3 ?_ ?_ ?_ | refine qL7 ?_ ?_ ?_ ?_ ?_ ?_ ?_ | refine zL1 ?_ | refine zL2 ?_ ?_ | refine zL3 ?_ ?_ ?_ | refine fun (_ : Nat) => ?_) | refine fun (_ : (_ : Nat) < _) => ?_ | exact rfl | exact Nat.le_of_ble_eq_true rfl | (change (_ : Nat) ≤ _; omega) | (change (_ : Nat) = _; omega) | (change (_ : Int) = _; omega))); (all_goals try (conv => whnf))))
  · have e : malB w s z wr fe = true := by unfold malB; rw [decide_eq_true (.inr (.inr (.inr (.inr hz))))]; rfl
    rw [e]
    have z1 : ¬ z = 1 := by omega
    have z2 : ¬ z = 2 := by omega
    have z4 : ¬ z = 4 := by omega
    repeat ((conv => whnf); first | refine sdO ?_ | refine nlO ?_ | refine goA ?_ | refine goB ?_ | (apply Exists.intro; (repeat apply Exists.intro); refine caO ?_) | (refine Or.inl ?_; (conv => whnf); (repeat apply Exists.intro); refine caO ?_) | (refine Or.inr ?_; (conv => whnf); first | ((repeat apply Exists.intro); refine caO ?_) | (refine Or.inl ?_; (conv => whnf); (repeat apply Exists.intro); refine caO ?_) | (refine Or.inr ?_; (conv => whnf); (repeat apply Exists.intro); refine caO ?_)) | refine And.intro (by assumption) ?_ | refine goT ?_ | refine goF ?_ | refine goL ?_ | refine goR ?_ | refine goRL ?_ | refine goRR ?_)
    all_goals try (conv => whnf)
    ((repeat' ((conv => whnf) <;> first | exact trivial | (with_reducible first | refine And.intro ?_ ?_ | refine qL1 ?_ | refine qL2 ?_ ?_ | refine qL3 ?_ ?_ ?_ | refine qL4 ?_ ?_ ?_ ?_ | refine qL5 ?_ ?_ ?_ ?_ ?_ | refine yL1 ?_ | refine yL2 ?_ ?_ | refine yL3 ?_ ?_ ?_ | refine qL7 ?_ ?_ ?_ ?_ ?_ ?_ ?_ | refine zL1 ?_ | refine zL2 ?_ ?_ | refine zL3 ?_ ?_ ?_ | refine fun (_ : Nat) => ?_) | refine fun (_ : (_ : Nat) < _) => ?_ | exact rfl | exact Nat.le_of_ble_eq_true rfl | (change (_ : Nat) ≤ _; omega) | (change (_ : Nat) = _; omega) | (change (_ : Int) = _; omega))); (all_goals try (conv => whnf)))
end Go.Proofs.YtglijhimopdgkaaGreatDoor
