/- Words by their formats: the layouts, the format of a word, what is read and written by a layout. -/
import Derived.Test.YtglijhimopdgkaaGreatDoorRA
namespace Go.Proofs.YtglijhimopdgkaaGreatDoor
open Go.RowKit
set_option maxRecDepth 100000
set_option maxHeartbeats 20000000
theorem four4 {x : Nat} (h : x < 4) : x = 0 ∨ x = 1 ∨ x = 2 ∨ x = 3 := by omega
def C_rv_layoutOf : SpecP := fun A K => ∃ f : Nat, A [.nat f] ∧ f < 12 ∧ K (layA (lf f) (lat f) (lto f) (lsz f) (lsg f))
theorem g_rv_layoutOf : Gd 26 (pureP ty C_rv_layoutOf) := by
  refine goodP (E := PG []) (pgOK trivial) mixes Tryz.func26 (by kernel_rfl) (by kernel_rfl) ?_
  rintro A K ⟨f, hA, hf, hK⟩
  refine ⟨_, _, fun _ => none, hA, hK, by kernel_rfl, ?_, ?_⟩
  · intro i hi
    rcases i with _ | _ | _ | _ | _ | _ | _ | i
    · exact trivial
    · exact trivial
    · exact trivial
    · exact trivial
    · exact trivial
    · intro j _ k hk
      rcases k with _ | _ | _ | k
      · exact trivial
      · exact trivial
      · exact trivial
      · exact absurd hk (by show ¬ k + 3 < 3; omega)
    · exact trivial
    · exact absurd hi (by show ¬ i + 7 < 7; omega)
  rcases (show f = 0 ∨ f = 1 ∨ f = 2 ∨ f = 3 ∨ f = 4 ∨ f = 5 ∨ f = 6 ∨ f = 7 ∨ f = 8 ∨ f = 9 ∨ f = 10 ∨ f = 11 by omega) with rfl | rfl | rfl | rfl | rfl | rfl | rfl | rfl | rfl | rfl | rfl | rfl
  all_goals
    repeat ((conv => whnf); first | refine sdO ?_ | refine nlO ?_ | refine goA ?_ | refine goB ?_ | (apply Exists.intro; (repeat apply Exists.intro); refine caO ?_) | (refine Or.inl ?_; (conv => whnf); (repeat apply Exists.intro); refine caO ?_) | (refine Or.inr ?_; (conv => whnf); first | ((repeat apply Exists.intro); refine caO ?_) | (refine Or.inl ?_; (conv => whnf); (repeat apply Exists.intro); refine caO ?_) | (refine Or.inr ?_; (conv => whnf); (repeat apply Exists.intro); refine caO ?_)) | refine And.intro (by assumption) ?_ | refine goT ?_ | refine goF ?_ | refine goL ?_ | refine goR ?_ | refine goRL ?_ | refine goRR ?_)
    all_goals try (conv => whnf)
    ((repeat' ((conv => whnf) <;> first | exact trivial | (with_reducible first | refine And.intro ?_ ?_ | refine qL1 ?_ | refine qL2 ?_ ?_ | refine qL3 ?_ ?_ ?_ | refine qL4 ?_ ?_ ?_ ?_ | refine qL5 ?_ ?_ ?_ ?_ ?_ | refine yL1 ?_ | refine yL2 ?_ ?_ | refine yL3 ?_ ?_ ?_ | refine qL7 ?_ ?_ ?_ ?_ ?_ ?_ ?_ | refine zL1 ?_ | refine zL2 ?_ ?_ | refine zL3 ?_ ?_ ?_ | refine fun (_ : Nat) => ?_) | refine fun (_ : (_ : Nat) < _) => ?_ | exact rfl | exact Nat.le_of_ble_eq_true rfl | (change (_ : Nat) ≤ _; omega) | (change (_ : Nat) = _; omega) | (change (_ : Int) = _; omega))); (all_goals try (conv => whnf)))
  all_goals
    rename_i x hx
    rcases (show x = 0 ∨ x = 1 ∨ x = 2 ∨ x = 3 from four4 hx) with rfl | rfl | rfl | rfl
    all_goals ((repeat' ((conv => whnf) <;> first | exact trivial | (with_reducible first | refine And.intro ?_ ?_ | refine qL1 ?_ | refine qL2 ?_ ?_ | refine qL3 ?_ ?_ ?_ | refine qL4 ?_ ?_ ?_ ?_ | refine qL5 ?_ ?_ ?_ ?_ ?_ | refine yL1 ?_ | refine yL2 ?_ ?_ | refine yL3 ?_ ?_ ?_ | refine qL7 ?_ ?_ ?_ ?_ ?_ ?_ ?_ | refine zL1 ?_ | refine zL2 ?_ ?_ | refine zL3 ?_ ?_ ?_ | refine fun (_ : Nat) => ?_) | refine fun (_ : (_ : Nat) < _) => ?_ | exact rfl | exact Nat.le_of_ble_eq_true rfl | (change (_ : Nat) ≤ _; omega) | (change (_ : Nat) = _; omega) | (change (_ : Int) = _; omega))); (all_goals try (conv => whnf)))
def o7 (w : BitVec 32) : BitVec 32 := w &&& BitVec.ofInt 32 127
def k3 (w : BitVec 32) : BitVec 32 := (w &&& BitVec.ofInt 32 28672) >>> 12
def sysF (k : BitVec 32) : Nat := if k = BitVec.ofInt 32 0 then 9 else if k < BitVec.ofInt 32 4 then 10 else 11
def C_rv_systemFormat : SpecP := fun A K => ∃ k : BitVec 32, A [.u32 k] ∧ K (.nat (sysF k))
theorem g_rv_systemFormat : Gd 83 (pureP ty C_rv_systemFormat) := by
  refine goodP (E := PG []) (pgOK trivial) mixes Tryz.func83 (by kernel_rfl) (by kernel_rfl) ?_
  rintro A K ⟨k, hA, hK⟩
  refine ⟨_, _, fun _ => none, hA, hK, by kernel_rfl, trivial, ?_⟩
  rcases Decidable.em (k = BitVec.ofInt 32 0) with rfl | h0
  · skip
    repeat ((conv => whnf); first | refine sdO ?_ | refine nlO ?_ | refine goA ?_ | refine goB ?_ | (apply Exists.intro; (repeat apply Exists.intro); refine caO ?_) | (refine Or.inl ?_; (conv => whnf); (repeat apply Exists.intro); refine caO ?_) | (refine Or.inr ?_; (conv => whnf); first | ((repeat apply Exists.intro); refine caO ?_) | (refine Or.inl ?_; (conv => whnf); (repeat apply Exists.intro); refine caO ?_) | (refine Or.inr ?_; (conv => whnf); (repeat apply Exists.intro); refine caO ?_)) | refine And.intro (by assumption) ?_ | refine goT ?_ | refine goF ?_ | refine goL ?_ | refine goR ?_ | refine goRL ?_ | refine goRR ?_)
    all_goals try (conv => whnf)
    ((repeat' ((conv => whnf) <;> first | exact trivial | (with_reducible first | refine And.intro ?_ ?_ | refine qL1 ?_ | refine qL2 ?_ ?_ | refine qL3 ?_ ?_ ?_ | refine qL4 ?_ ?_ ?_ ?_ | refine qL5 ?_ ?_ ?_ ?_ ?_ | refine yL1 ?_ | refine yL2 ?_ ?_ | refine yL3 ?_ ?_ ?_ | refine qL7 ?_ ?_ ?_ ?_ ?_ ?_ ?_ | refine zL1 ?_ | refine zL2 ?_ ?_ | refine zL3 ?_ ?_ ?_ | refine fun (_ : Nat) => ?_) | refine fun (_ : (_ : Nat) < _) => ?_ | exact rfl | exact Nat.le_of_ble_eq_true rfl | (change (_ : Nat) ≤ _; omega) | (change (_ : Nat) = _; omega) | (change (_ : Int) = _; omega))); (all_goals try (conv => whnf)))
  rcases Decidable.em (k < BitVec.ofInt 32 4) with h1 | h1
  · skip
    repeat ((conv => whnf); first | refine sdO ?_ | refine nlO ?_ | refine goA ?_ | refine goB ?_ | (apply Exists.intro; (repeat apply Exists.intro); refine caO ?_) | (refine Or.inl ?_; (conv => whnf); (repeat apply Exists.intro); refine caO ?_) | (refine Or.inr ?_; (conv => whnf); first | ((repeat apply Exists.intro); refine caO ?_) | (refine Or.inl ?_; (conv => whnf); (repeat apply Exists.intro); refine caO ?_) | (refine Or.inr ?_; (conv => whnf); (repeat apply Exists.intro); refine caO ?_)) | refine And.intro (by assumption) ?_ | refine goT ?_ | refine goF ?_ | refine goL ?_ | refine goR ?_ | refine goRL ?_ | refine goRR ?_)
    all_goals try (conv => whnf)
    ((repeat' ((conv => whnf) <;> first | exact trivial | (with_reducible first | refine And.intro ?_ ?_ | refine qL1 ?_ | refine qL2 ?_ ?_ | refine qL3 ?_ ?_ ?_ | refine qL4 ?_ ?_ ?_ ?_ | refine qL5 ?_ ?_ ?_ ?_ ?_ | refine yL1 ?_ | refine yL2 ?_ ?_ | refine yL3 ?_ ?_ ?_ | refine qL7 ?_ ?_ ?_ ?_ ?_ ?_ ?_ | refine zL1 ?_ | refine zL2 ?_ ?_ | refine zL3 ?_ ?_ ?_ | refine fun (_ : Nat) => ?_) | refine fun (_ : (_ : Nat) < _) => ?_ | exact rfl | exact Nat.le_of_ble_eq_true rfl | (change (_ : Nat) ≤ _; omega) | (change (_ : Nat) = _; omega) | (change (_ : Int) = _; omega))); (all_goals try (conv => whnf)))
    all_goals (unfold sysF; rw [if_neg h0, if_pos h1]; first | done | rfl)
  · skip
    repeat ((conv => whnf); first | refine sdO ?_ | refine nlO ?_ | refine goA ?_ | refine goB ?_ | (apply Exists.intro; (repeat apply Exists.intro); refine caO ?_) | (refine Or.inl ?_; (conv => whnf); (repeat apply Exists.intro); refine caO ?_) | (refine Or.inr ?_; (conv => whnf); first | ((repeat apply Exists.intro); refine caO ?_) | (refine Or.inl ?_; (conv => whnf); (repeat apply Exists.intro); refine caO ?_) | (refine Or.inr ?_; (conv => whnf); (repeat apply Exists.intro); refine caO ?_)) | refine And.intro (by assumption) ?_ | refine goT ?_ | refine goF ?_ | refine goL ?_ | refine goR ?_ | refine goRL ?_ | refine goRR ?_)
    all_goals try (conv => whnf)
    ((repeat' ((conv => whnf) <;> first | exact trivial | (with_reducible first | refine And.intro ?_ ?_ | refine qL1 ?_ | refine qL2 ?_ ?_ | refine qL3 ?_ ?_ ?_ | refine qL4 ?_ ?_ ?_ ?_ | refine qL5 ?_ ?_ ?_ ?_ ?_ | refine yL1 ?_ | refine yL2 ?_ ?_ | refine yL3 ?_ ?_ ?_ | refine qL7 ?_ ?_ ?_ ?_ ?_ ?_ ?_ | refine zL1 ?_ | refine zL2 ?_ ?_ | refine zL3 ?_ ?_ ?_ | refine fun (_ : Nat) => ?_) | refine fun (_ : (_ : Nat) < _) => ?_ | exact rfl | exact Nat.le_of_ble_eq_true rfl | (change (_ : Nat) ≤ _; omega) | (change (_ : Nat) = _; omega) | (change (_ : Int) = _; omega))); (all_goals try (conv => whnf)))
    all_goals (unfold sysF; rw [if_neg h0, if_neg h1]; first | done | rfl)
def fmtN (w : BitVec 32) : Nat :=
  if o7 w = BitVec.ofInt 32 55 ∨ o7 w = BitVec.ofInt 32 23 then 1 else if o7 w = BitVec.ofInt 32 111 then 2 else if o7 w = BitVec.ofInt 32 99 then 3 else if o7 w = BitVec.ofInt 32 103 ∨ o7 w = BitVec.ofInt 32 3 then 4
  else if o7 w = BitVec.ofInt 32 19 then (if k3 w = BitVec.ofInt 32 1 ∨ k3 w = BitVec.ofInt 32 5 then 5 else 4) else if o7 w = BitVec.ofInt 32 35 then 6 else if o7 w = BitVec.ofInt 32 51 then 7 else if o7 w = BitVec.ofInt 32 15 then 8
  else if o7 w = BitVec.ofInt 32 115 then sysF (k3 w) else 0
theorem sysF_lt (k : BitVec 32) : sysF k < 12 := by unfold sysF; split <;> (try split) <;> omega
theorem fmtN_lt (w : BitVec 32) : fmtN w < 12 := by
  have := sysF_lt (k3 w)
  unfold fmtN
  repeat' split
  all_goals omega
def C_rv_formatOf : SpecP := fun A K => ∃ w : BitVec 32, A [.u32 w] ∧ K (.nat (fmtN w))
theorem g_rv_formatOf : Gd 52 (pureP ty C_rv_formatOf) := by
  refine goodP (E := PG [(83, pureP ty C_rv_systemFormat)]) (pgOK ⟨g_rv_systemFormat, trivial⟩) mixes Tryz.func52 (by kernel_rfl) (by kernel_rfl) ?_
  rintro A K ⟨w, hA, hK⟩
  refine ⟨_, _, fun _ => none, hA, hK, by kernel_rfl, trivial, ?_⟩
  have e1 : (w &&& BitVec.ofInt 32 127) = o7 w := rfl
  have e2 : ((w &&& BitVec.ofInt 32 28672) >>> 12) = k3 w := rfl
  rcases Decidable.em (w &&& BitVec.ofInt 32 127 = BitVec.ofInt 32 55) with h1 | h1
  · skip
    repeat ((conv => whnf); first | refine sdO ?_ | refine nlO ?_ | refine goA ?_ | refine goB ?_ | (apply Exists.intro; (repeat apply Exists.intro); refine caO ?_) | (refine Or.inl ?_; (conv => whnf); (repeat apply Exists.intro); refine caO ?_) | (refine Or.inr ?_; (conv => whnf); first | ((repeat apply Exists.intro); refine caO ?_) | (refine Or.inl ?_; (conv => whnf); (repeat apply Exists.intro); refine caO ?_) | (refine Or.inr ?_; (conv => whnf); (repeat apply Exists.intro); refine caO ?_)) | refine And.intro (by assumption) ?_ | refine goT ?_ | refine goF ?_ | refine goL ?_ | refine goR ?_ | refine goRL ?_ | refine goRR ?_)
    all_goals try (conv => whnf)
    ((repeat' ((conv => whnf) <;> first | exact trivial | (with_reducible first | refine And.intro ?_ ?_ | refine qL1 ?_ | refine qL2 ?_ ?_ | refine qL3 ?_ ?_ ?_ | refine qL4 ?_ ?_ ?_ ?_ | refine qL5 ?_ ?_ ?_ ?_ ?_ | refine yL1 ?_ | refine yL2 ?_ ?_ | refine yL3 ?_ ?_ ?_ | refine qL7 ?_ ?_ ?_ ?_ ?_ ?_ ?_ | refine zL1 ?_ | refine zL2 ?_ ?_ | refine zL3 ?_ ?_ ?_ | refine fun (_ : Nat) => ?_) | refine fun (_ : (_ : Nat) < _) => ?_ | exact rfl | exact Nat.le_of_ble_eq_true rfl | (change (_ : Nat) ≤ _; omega) | (change (_ : Nat) = _; omega) | (change (_ : Int) = _; omega))); (all_goals try (conv => whnf)))
    all_goals (unfold fmtN; rw [if_pos (.inl h1)]; first | done | rfl)
  rcases Decidable.em (w &&& BitVec.ofInt 32 127 = BitVec.ofInt 32 23) with h2 | h2
  · skip
    repeat ((conv => whnf); first | refine sdO ?_ | refine nlO ?_ | refine goA ?_ | refine goB ?_ | (apply Exists.intro; (repeat apply Exists.intro); refine caO ?_) | (refine Or.inl ?_; (conv => whnf); (repeat apply Exists.intro); refine caO ?_) | (refine Or.inr ?_; (conv => whnf); first | ((repeat apply Exists.intro); refine caO ?_) | (refine Or.inl ?_; (conv => whnf); (repeat apply Exists.intro); refine caO ?_) | (refine Or.inr ?_; (conv => whnf); (repeat apply Exists.intro); refine caO ?_)) | refine And.intro (by assumption) ?_ | refine goT ?_ | refine goF ?_ | refine goL ?_ | refine goR ?_ | refine goRL ?_ | refine goRR ?_)
    all_goals try (conv => whnf)
    ((repeat' ((conv => whnf) <;> first | exact trivial | (with_reducible first | refine And.intro ?_ ?_ | refine qL1 ?_ | refine qL2 ?_ ?_ | refine qL3 ?_ ?_ ?_ | refine qL4 ?_ ?_ ?_ ?_ | refine qL5 ?_ ?_ ?_ ?_ ?_ | refine yL1 ?_ | refine yL2 ?_ ?_ | refine yL3 ?_ ?_ ?_ | refine qL7 ?_ ?_ ?_ ?_ ?_ ?_ ?_ | refine zL1 ?_ | refine zL2 ?_ ?_ | refine zL3 ?_ ?_ ?_ | refine fun (_ : Nat) => ?_) | refine fun (_ : (_ : Nat) < _) => ?_ | exact rfl | exact Nat.le_of_ble_eq_true rfl | (change (_ : Nat) ≤ _; omega) | (change (_ : Nat) = _; omega) | (change (_ : Int) = _; omega))); (all_goals try (conv => whnf)))
    all_goals (unfold fmtN; rw [if_pos (.inr h2)]; first | done | rfl)
  rcases Decidable.em (w &&& BitVec.ofInt 32 127 = BitVec.ofInt 32 111) with h3 | h3
  · skip
    repeat ((conv => whnf); first | refine sdO ?_ | refine nlO ?_ | refine goA ?_ | refine goB ?_ | (apply Exists.intro; (repeat apply Exists.intro); refine caO ?_) | (refine Or.inl ?_; (conv => whnf); (repeat apply Exists.intro); refine caO ?_) | (refine Or.inr ?_; (conv => whnf); first | ((repeat apply Exists.intro); refine caO ?_) | (refine Or.inl ?_; (conv => whnf); (repeat apply Exists.intro); refine caO ?_) | (refine Or.inr ?_; (conv => whnf); (repeat apply Exists.intro); refine caO ?_)) | refine And.intro (by assumption) ?_ | refine goT ?_ | refine goF ?_ | refine goL ?_ | refine goR ?_ | refine goRL ?_ | refine goRR ?_)
    all_goals try (conv => whnf)
    ((repeat' ((conv => whnf) <;> first | exact trivial | (with_reducible first | refine And.intro ?_ ?_ | refine qL1 ?_ | refine qL2 ?_ ?_ | refine qL3 ?_ ?_ ?_ | refine qL4 ?_ ?_ ?_ ?_ | refine qL5 ?_ ?_ ?_ ?_ ?_ | refine yL1 ?_ | refine yL2 ?_ ?_ | refine yL3 ?_ ?_ ?_ | refine qL7 ?_ ?_ ?_ ?_ ?_ ?_ ?_ | refine zL1 ?_ | refine zL2 ?_ ?_ | refine zL3 ?_ ?_ ?_ | refine fun (_ : Nat) => ?_) | refine fun (_ : (_ : Nat) < _) => ?_ | exact rfl | exact Nat.le_of_ble_eq_true rfl | (change (_ : Nat) ≤ _; omega) | (change (_ : Nat) = _; omega) | (change (_ : Int) = _; omega))); (all_goals try (conv => whnf)))
    all_goals (unfold fmtN; rw [if_neg (fun q => q.elim h1 h2), if_pos (show o7 w = _ from h3)]; first | done | rfl)
  rcases Decidable.em (w &&& BitVec.ofInt 32 127 = BitVec.ofInt 32 99) with h4 | h4
  · skip
    repeat ((conv => whnf); first | refine sdO ?_ | refine nlO ?_ | refine goA ?_ | refine goB ?_ | (apply Exists.intro; (repeat apply Exists.intro); refine caO ?_) | (refine Or.inl ?_; (conv => whnf); (repeat apply Exists.intro); refine caO ?_) | (refine Or.inr ?_; (conv => whnf); first | ((repeat apply Exists.intro); refine caO ?_) | (refine Or.inl ?_; (conv => whnf); (repeat apply Exists.intro); refine caO ?_) | (refine Or.inr ?_; (conv => whnf); (repeat apply Exists.intro); refine caO ?_)) | refine And.intro (by assumption) ?_ | refine goT ?_ | refine goF ?_ | refine goL ?_ | refine goR ?_ | refine goRL ?_ | refine goRR ?_)
    all_goals try (conv => whnf)
    ((repeat' ((conv => whnf) <;> first | exact trivial | (with_reducible first | refine And.intro ?_ ?_ | refine qL1 ?_ | refine qL2 ?_ ?_ | refine qL3 ?_ ?_ ?_ | refine qL4 ?_ ?_ ?_ ?_ | refine qL5 ?_ ?_ ?_ ?_ ?_ | refine yL1 ?_ | refine yL2 ?_ ?_ | refine yL3 ?_ ?_ ?_ | refine qL7 ?_ ?_ ?_ ?_ ?_ ?_ ?_ | refine zL1 ?_ | refine zL2 ?_ ?_ | refine zL3 ?_ ?_ ?_ | refine fun (_ : Nat) => ?_) | refine fun (_ : (_ : Nat) < _) => ?_ | exact rfl | exact Nat.le_of_ble_eq_true rfl | (change (_ : Nat) ≤ _; omega) | (change (_ : Nat) = _; omega) | (change (_ : Int) = _; omega))); (all_goals try (conv => whnf)))
    all_goals (unfold fmtN; rw [if_neg (fun q => q.elim h1 h2), if_neg (show ¬ o7 w = _ from h3), if_pos (show o7 w = _ from h4)]; first | done | rfl)
  rcases Decidable.em (w &&& BitVec.ofInt 32 127 = BitVec.ofInt 32 103) with h5 | h5
  · skip
    repeat ((conv => whnf); first | refine sdO ?_ | refine nlO ?_ | refine goA ?_ | refine goB ?_ | (apply Exists.intro; (repeat apply Exists.intro); refine caO ?_) | (refine Or.inl ?_; (conv => whnf); (repeat apply Exists.intro); refine caO ?_) | (refine Or.inr ?_; (conv => whnf); first | ((repeat apply Exists.intro); refine caO ?_) | (refine Or.inl ?_; (conv => whnf); (repeat apply Exists.intro); refine caO ?_) | (refine Or.inr ?_; (conv => whnf); (repeat apply Exists.intro); refine caO ?_)) | refine And.intro (by assumption) ?_ | refine goT ?_ | refine goF ?_ | refine goL ?_ | refine goR ?_ | refine goRL ?_ | refine goRR ?_)
    all_goals try (conv => whnf)
    ((repeat' ((conv => whnf) <;> first | exact trivial | (with_reducible first | refine And.intro ?_ ?_ | refine qL1 ?_ | refine qL2 ?_ ?_ | refine qL3 ?_ ?_ ?_ | refine qL4 ?_ ?_ ?_ ?_ | refine qL5 ?_ ?_ ?_ ?_ ?_ | refine yL1 ?_ | refine yL2 ?_ ?_ | refine yL3 ?_ ?_ ?_ | refine qL7 ?_ ?_ ?_ ?_ ?_ ?_ ?_ | refine zL1 ?_ | refine zL2 ?_ ?_ | refine zL3 ?_ ?_ ?_ | refine fun (_ : Nat) => ?_) | refine fun (_ : (_ : Nat) < _) => ?_ | exact rfl | exact Nat.le_of_ble_eq_true rfl | (change (_ : Nat) ≤ _; omega) | (change (_ : Nat) = _; omega) | (change (_ : Int) = _; omega))); (all_goals try (conv => whnf)))
    all_goals (unfold fmtN; rw [if_neg (fun q => q.elim h1 h2), if_neg (show ¬ o7 w = _ from h3), if_neg (show ¬ o7 w = _ from h4), if_pos (.inl h5)]; first | done | rfl)
  rcases Decidable.em (w &&& BitVec.ofInt 32 127 = BitVec.ofInt 32 3) with h6 | h6
  · skip
    repeat ((conv => whnf); first | refine sdO ?_ | refine nlO ?_ | refine goA ?_ | refine goB ?_ | (apply Exists.intro; (repeat apply Exists.intro); refine caO ?_) | (refine Or.inl ?_; (conv => whnf); (repeat apply Exists.intro); refine caO ?_) | (refine Or.inr ?_; (conv => whnf); first | ((repeat apply Exists.intro); refine caO ?_) | (refine Or.inl ?_; (conv => whnf); (repeat apply Exists.intro); refine caO ?_) | (refine Or.inr ?_; (conv => whnf); (repeat apply Exists.intro); refine caO ?_)) | refine And.intro (by assumption) ?_ | refine goT ?_ | refine goF ?_ | refine goL ?_ | refine goR ?_ | refine goRL ?_ | refine goRR ?_)
    all_goals try (conv => whnf)
    ((repeat' ((conv => whnf) <;> first | exact trivial | (with_reducible first | refine And.intro ?_ ?_ | refine qL1 ?_ | refine qL2 ?_ ?_ | refine qL3 ?_ ?_ ?_ | refine qL4 ?_ ?_ ?_ ?_ | refine qL5 ?_ ?_ ?_ ?_ ?_ | refine yL1 ?_ | refine yL2 ?_ ?_ | refine yL3 ?_ ?_ ?_ | refine qL7 ?_ ?_ ?_ ?_ ?_ ?_ ?_ | refine zL1 ?_ | refine zL2 ?_ ?_ | refine zL3 ?_ ?_ ?_ | refine fun (_ : Nat) => ?_) | refine fun (_ : (_ : Nat) < _) => ?_ | exact rfl | exact Nat.le_of_ble_eq_true rfl | (change (_ : Nat) ≤ _; omega) | (change (_ : Nat) = _; omega) | (change (_ : Int) = _; omega))); (all_goals try (conv => whnf)))
    all_goals (unfold fmtN; rw [if_neg (fun q => q.elim h1 h2), if_neg (show ¬ o7 w = _ from h3), if_neg (show ¬ o7 w = _ from h4), if_pos (.inr h6)]; first | done | rfl)
  rcases Decidable.em (w &&& BitVec.ofInt 32 127 = BitVec.ofInt 32 19) with h7 | h7
  · rcases Decidable.em ((w &&& BitVec.ofInt 32 28672) >>> 12 = BitVec.ofInt 32 1) with c | c
    · skip
      repeat ((conv => whnf); first | refine sdO ?_ | refine nlO ?_ | refine goA ?_ | refine goB ?_ | (apply Exists.intro; (repeat apply Exists.intro); refine caO ?_) | (refine Or.inl ?_; (conv => whnf); (repeat apply Exists.intro); refine caO ?_) | (refine Or.inr ?_; (conv => whnf); first | ((repeat apply Exists.intro); refine caO ?_) | (refine Or.inl ?_; (conv => whnf); (repeat apply Exists.intro); refine caO ?_) | (refine Or.inr ?_; (conv => whnf); (repeat apply Exists.intro); refine caO ?_)) | refine And.intro (by assumption) ?_ | refine goT ?_ | refine goF ?_ | refine goL ?_ | refine goR ?_ | refine goRL ?_ | refine goRR ?_)
      all_goals try (conv => whnf)
      ((repeat' ((conv => whnf) <;> first | exact trivial | (with_reducible first | refine And.intro ?_ ?_ | refine qL1 ?_ | refine qL2 ?_ ?_ | refine qL3 ?_ ?_ ?_ | refine qL4 ?_ ?_ ?_ ?_ | refine qL5 ?_ ?_ ?_ ?_ ?_ | refine yL1 ?_ | refine yL2 ?_ ?_ | refine yL3 ?_ ?_ ?_ | refine qL7 ?_ ?_ ?_ ?_ ?_ ?_ ?_ | refine zL1 ?_ | refine zL2 ?_ ?_ | refine zL3 ?_ ?_ ?_ | refine fun (_ : Nat) => ?_) | refine fun (_ : (_ : Nat) < _) => ?_ | exact rfl | exact Nat.le_of_ble_eq_true rfl | (change (_ : Nat) ≤ _; omega) | (change (_ : Nat) = _; omega) | (change (_ : Int) = _; omega))); (all_goals try (conv => whnf)))
      all_goals (unfold fmtN; rw [if_neg (fun q => q.elim h1 h2), if_neg (show ¬ o7 w = _ from h3), if_neg (show ¬ o7 w = _ from h4), if_neg (fun q => q.elim h5 h6), if_pos (show o7 w = _ from h7), if_pos (.inl c)]; first | done | rfl)
    rcases Decidable.em ((w &&& BitVec.ofInt 32 28672) >>> 12 = BitVec.ofInt 32 5) with d | d
    · skip
      repeat ((conv => whnf); first | refine sdO ?_ | refine nlO ?_ | refine goA ?_ | refine goB ?_ | (apply Exists.intro; (repeat apply Exists.intro); refine caO ?_) | (refine Or.inl ?_; (conv => whnf); (repeat apply Exists.intro); refine caO ?_) | (refine Or.inr ?_; (conv => whnf); first | ((repeat apply Exists.intro); refine caO ?_) | (refine Or.inl ?_; (conv => whnf); (repeat apply Exists.intro); refine caO ?_) | (refine Or.inr ?_; (conv => whnf); (repeat apply Exists.intro); refine caO ?_)) | refine And.intro (by assumption) ?_ | refine goT ?_ | refine goF ?_ | refine goL ?_ | refine goR ?_ | refine goRL ?_ | refine goRR ?_)
      all_goals try (conv => whnf)
      ((repeat' ((conv => whnf) <;> first | exact trivial | (with_reducible first | refine And.intro ?_ ?_ | refine qL1 ?_ | refine qL2 ?_ ?_ | refine qL3 ?_ ?_ ?_ | refine qL4 ?_ ?_ ?_ ?_ | refine qL5 ?_ ?_ ?_ ?_ ?_ | refine yL1 ?_ | refine yL2 ?_ ?_ | refine yL3 ?_ ?_ ?_ | refine qL7 ?_ ?_ ?_ ?_ ?_ ?_ ?_ | refine zL1 ?_ | refine zL2 ?_ ?_ | refine zL3 ?_ ?_ ?_ | refine fun (_ : Nat) => ?_) | refine fun (_ : (_ : Nat) < _) => ?_ | exact rfl | exact Nat.le_of_ble_eq_true rfl | (change (_ : Nat) ≤ _; omega) | (change (_ : Nat) = _; omega) | (change (_ : Int) = _; omega))); (all_goals try (conv => whnf)))
      all_goals (unfold fmtN; rw [if_neg (fun q => q.elim h1 h2), if_neg (show ¬ o7 w = _ from h3), if_neg (show ¬ o7 w = _ from h4), if_neg (fun q => q.elim h5 h6), if_pos (show o7 w = _ from h7), if_pos (.inr d)]; first | done | rfl)
    · skip
      repeat ((conv => whnf); first | refine sdO ?_ | refine nlO ?_ | refine goA ?_ | refine goB ?_ | (apply Exists.intro; (repeat apply Exists.intro); refine caO ?_) | (refine Or.inl ?_; (conv => whnf); (repeat apply Exists.intro); refine caO ?_) | (refine Or.inr ?_; (conv => whnf); first | ((repeat apply Exists.intro); refine caO ?_) | (refine Or.inl ?_; (conv => whnf); (repeat apply Exists.intro); refine caO ?_) | (refine Or.inr ?_; (conv => whnf); (repeat apply Exists.intro); refine caO ?_)) | refine And.intro (by assumption) ?_ | refine goT ?_ | refine goF ?_ | refine goL ?_ | refine goR ?_ | refine goRL ?_ | refine goRR ?_)
      all_goals try (conv => whnf)
      ((repeat' ((conv => whnf) <;> first | exact trivial | (with_reducible first | refine And.intro ?_ ?_ | refine qL1 ?_ | refine qL2 ?_ ?_ | refine qL3 ?_ ?_ ?_ | refine qL4 ?_ ?_ ?_ ?_ | refine qL5 ?_ ?_ ?_ ?_ ?_ | refine yL1 ?_ | refine yL2 ?_ ?_ | refine yL3 ?_ ?_ ?_ | refine qL7 ?_ ?_ ?_ ?_ ?_ ?_ ?_ | refine zL1 ?_ | refine zL2 ?_ ?_ | refine zL3 ?_ ?_ ?_ | refine fun (_ : Nat) => ?_) | refine fun (_ : (_ : Nat) < _) => ?_ | exact rfl | exact Nat.le_of_ble_eq_true rfl | (change (_ : Nat) ≤ _; omega) | (change (_ : Nat) = _; omega) | (change (_ : Int) = _; omega))); (all_goals try (conv => whnf)))
      all_goals (unfold fmtN; rw [if_neg (fun q => q.elim h1 h2), if_neg (show ¬ o7 w = _ from h3), if_neg (show ¬ o7 w = _ from h4), if_neg (fun q => q.elim h5 h6), if_pos (show o7 w = _ from h7), if_neg (fun q => q.elim c d)]; first | done | rfl)
  rcases Decidable.em (w &&& BitVec.ofInt 32 127 = BitVec.ofInt 32 35) with h8 | h8
  · skip
    repeat ((conv => whnf); first | refine sdO ?_ | refine nlO ?_ | refine goA ?_ | refine goB ?_ | (apply Exists.intro; (repeat apply Exists.intro); refine caO ?_) | (refine Or.inl ?_; (conv => whnf); (repeat apply Exists.intro); refine caO ?_) | (refine Or.inr ?_; (conv => whnf); first | ((repeat apply Exists.intro); refine caO ?_) | (refine Or.inl ?_; (conv => whnf); (repeat apply Exists.intro); refine caO ?_) | (refine Or.inr ?_; (conv => whnf); (repeat apply Exists.intro); refine caO ?_)) | refine And.intro (by assumption) ?_ | refine goT ?_ | refine goF ?_ | refine goL ?_ | refine goR ?_ | refine goRL ?_ | refine goRR ?_)
    all_goals try (conv => whnf)
    ((repeat' ((conv => whnf) <;> first | exact trivial | (with_reducible first | refine And.intro ?_ ?_ | refine qL1 ?_ | refine qL2 ?_ ?_ | refine qL3 ?_ ?_ ?_ | refine qL4 ?_ ?_ ?_ ?_ | refine qL5 ?_ ?_ ?_ ?_ ?_ | refine yL1 ?_ | refine yL2 ?_ ?_ | refine yL3 ?_ ?_ ?_ | refine qL7 ?_ ?_ ?_ ?_ ?_ ?_ ?_ | refine zL1 ?_ | refine zL2 ?_ ?_ | refine zL3 ?_ ?_ ?_ | refine fun (_ : Nat) => ?_) | refine fun (_ : (_ : Nat) < _) => ?_ | exact rfl | exact Nat.le_of_ble_eq_true rfl | (change (_ : Nat) ≤ _; omega) | (change (_ : Nat) = _; omega) | (change (_ : Int) = _; omega))); (all_goals try (conv => whnf)))
    all_goals (unfold fmtN; rw [if_neg (fun q => q.elim h1 h2), if_neg (show ¬ o7 w = _ from h3), if_neg (show ¬ o7 w = _ from h4), if_neg (fun q => q.elim h5 h6), if_neg (show ¬ o7 w = _ from h7), if_pos (show o7 w = _ from h8)]; first | done | rfl)
  rcases Decidable.em (w &&& BitVec.ofInt 32 127 = BitVec.ofInt 32 51) with h9 | h9
  · skip
    repeat ((conv => whnf); first | refine sdO ?_ | refine nlO ?_ | refine goA ?_ | refine goB ?_ | (apply Exists.intro; (repeat apply Exists.intro); refine caO ?_) | (refine Or.inl ?_; (conv => whnf); (repeat apply Exists.intro); refine caO ?_) | (refine Or.inr ?_; (conv => whnf); first | ((repeat apply Exists.intro); refine caO ?_) | (refine Or.inl ?_; (conv => whnf); (repeat apply Exists.intro); refine caO ?_) | (refine Or.inr ?_; (conv => whnf); (repeat apply Exists.intro); refine caO ?_)) | refine And.intro (by assumption) ?_ | refine goT ?_ | refine goF ?_ | refine goL ?_ | refine goR ?_ | refine goRL ?_ | refine goRR ?_)
    all_goals try (conv => whnf)
    ((repeat' ((conv => whnf) <;> first | exact trivial | (with_reducible first | refine And.intro ?_ ?_ | refine qL1 ?_ | refine qL2 ?_ ?_ | refine qL3 ?_ ?_ ?_ | refine qL4 ?_ ?_ ?_ ?_ | refine qL5 ?_ ?_ ?_ ?_ ?_ | refine yL1 ?_ | refine yL2 ?_ ?_ | refine yL3 ?_ ?_ ?_ | refine qL7 ?_ ?_ ?_ ?_ ?_ ?_ ?_ | refine zL1 ?_ | refine zL2 ?_ ?_ | refine zL3 ?_ ?_ ?_ | refine fun (_ : Nat) => ?_) | refine fun (_ : (_ : Nat) < _) => ?_ | exact rfl | exact Nat.le_of_ble_eq_true rfl | (change (_ : Nat) ≤ _; omega) | (change (_ : Nat) = _; omega) | (change (_ : Int) = _; omega))); (all_goals try (conv => whnf)))
    all_goals (unfold fmtN; rw [if_neg (fun q => q.elim h1 h2), if_neg (show ¬ o7 w = _ from h3), if_neg (show ¬ o7 w = _ from h4), if_neg (fun q => q.elim h5 h6), if_neg (show ¬ o7 w = _ from h7), if_neg (show ¬ o7 w = _ from h8), if_pos (show o7 w = _ from h9)]; first | done | rfl)
  rcases Decidable.em (w &&& BitVec.ofInt 32 127 = BitVec.ofInt 32 15) with ha | ha
  · skip
    repeat ((conv => whnf); first | refine sdO ?_ | refine nlO ?_ | refine goA ?_ | refine goB ?_ | (apply Exists.intro; (repeat apply Exists.intro); refine caO ?_) | (refine Or.inl ?_; (conv => whnf); (repeat apply Exists.intro); refine caO ?_) | (refine Or.inr ?_; (conv => whnf); first | ((repeat apply Exists.intro); refine caO ?_) | (refine Or.inl ?_; (conv => whnf); (repeat apply Exists.intro); refine caO ?_) | (refine Or.inr ?_; (conv => whnf); (repeat apply Exists.intro); refine caO ?_)) | refine And.intro (by assumption) ?_ | refine goT ?_ | refine goF ?_ | refine goL ?_ | refine goR ?_ | refine goRL ?_ | refine goRR ?_)
    all_goals try (conv => whnf)
    ((repeat' ((conv => whnf) <;> first | exact trivial | (with_reducible first | refine And.intro ?_ ?_ | refine qL1 ?_ | refine qL2 ?_ ?_ | refine qL3 ?_ ?_ ?_ | refine qL4 ?_ ?_ ?_ ?_ | refine qL5 ?_ ?_ ?_ ?_ ?_ | refine yL1 ?_ | refine yL2 ?_ ?_ | refine yL3 ?_ ?_ ?_ | refine qL7 ?_ ?_ ?_ ?_ ?_ ?_ ?_ | refine zL1 ?_ | refine zL2 ?_ ?_ | refine zL3 ?_ ?_ ?_ | refine fun (_ : Nat) => ?_) | refine fun (_ : (_ : Nat) < _) => ?_ | exact rfl | exact Nat.le_of_ble_eq_true rfl | (change (_ : Nat) ≤ _; omega) | (change (_ : Nat) = _; omega) | (change (_ : Int) = _; omega))); (all_goals try (conv => whnf)))
    all_goals (unfold fmtN; rw [if_neg (fun q => q.elim h1 h2), if_neg (show ¬ o7 w = _ from h3), if_neg (show ¬ o7 w = _ from h4), if_neg (fun q => q.elim h5 h6), if_neg (show ¬ o7 w = _ from h7), if_neg (show ¬ o7 w = _ from h8), if_neg (show ¬ o7 w = _ from h9), if_pos (show o7 w = _ from ha)]; first | done | rfl)
  rcases Decidable.em (w &&& BitVec.ofInt 32 127 = BitVec.ofInt 32 115) with hb | hb
  · skip
    repeat ((conv => whnf); first | refine sdO ?_ | refine nlO ?_ | refine goA ?_ | refine goB ?_ | (apply Exists.intro; (repeat apply Exists.intro); refine caO ?_) | (refine Or.inl ?_; (conv => whnf); (repeat apply Exists.intro); refine caO ?_) | (refine Or.inr ?_; (conv => whnf); first | ((repeat apply Exists.intro); refine caO ?_) | (refine Or.inl ?_; (conv => whnf); (repeat apply Exists.intro); refine caO ?_) | (refine Or.inr ?_; (conv => whnf); (repeat apply Exists.intro); refine caO ?_)) | refine And.intro (by assumption) ?_ | refine goT ?_ | refine goF ?_ | refine goL ?_ | refine goR ?_ | refine goRL ?_ | refine goRR ?_)
    all_goals try (conv => whnf)
    ((repeat' ((conv => whnf) <;> first | exact trivial | (with_reducible first | refine And.intro ?_ ?_ | refine qL1 ?_ | refine qL2 ?_ ?_ | refine qL3 ?_ ?_ ?_ | refine qL4 ?_ ?_ ?_ ?_ | refine qL5 ?_ ?_ ?_ ?_ ?_ | refine yL1 ?_ | refine yL2 ?_ ?_ | refine yL3 ?_ ?_ ?_ | refine qL7 ?_ ?_ ?_ ?_ ?_ ?_ ?_ | refine zL1 ?_ | refine zL2 ?_ ?_ | refine zL3 ?_ ?_ ?_ | refine fun (_ : Nat) => ?_) | refine fun (_ : (_ : Nat) < _) => ?_ | exact rfl | exact Nat.le_of_ble_eq_true rfl | (change (_ : Nat) ≤ _; omega) | (change (_ : Nat) = _; omega) | (change (_ : Int) = _; omega))); (all_goals try (conv => whnf)))
    all_goals (unfold fmtN; rw [if_neg (fun q => q.elim h1 h2), if_neg (show ¬ o7 w = _ from h3), if_neg (show ¬ o7 w = _ from h4), if_neg (fun q => q.elim h5 h6), if_neg (show ¬ o7 w = _ from h7), if_neg (show ¬ o7 w = _ from h8), if_neg (show ¬ o7 w = _ from h9), if_neg (show ¬ o7 w = _ from ha), if_pos (show o7 w = _ from hb)]; first | done | rfl)
  · skip
    repeat ((conv => whnf); first | refine sdO ?_ | refine nlO ?_ | refine goA ?_ | refine goB ?_ | (apply Exists.intro; (repeat apply Exists.intro); refine caO ?_) | (refine Or.inl ?_; (conv => whnf); (repeat apply Exists.intro); refine caO ?_) | (refine Or.inr ?_; (conv => whnf); first | ((repeat apply Exists.intro); refine caO ?_) | (refine Or.inl ?_; (conv => whnf); (repeat apply Exists.intro); refine caO ?_) | (refine Or.inr ?_; (conv => whnf); (repeat apply Exists.intro); refine caO ?_)) | refine And.intro (by assumption) ?_ | refine goT ?_ | refine goF ?_ | refine goL ?_ | refine goR ?_ | refine goRL ?_ | refine goRR ?_)
    all_goals try (conv => whnf)
    ((repeat' ((conv => whnf) <;> first | exact trivial | (with_reducible first | refine And.intro ?_ ?_ | refine qL1 ?_ | refine qL2 ?_ ?_ | refine qL3 ?_ ?_ ?_ | refine qL4 ?_ ?_ ?_ ?_ | refine qL5 ?_ ?_ ?_ ?_ ?_ | refine yL1 ?_ | refine yL2 ?_ ?_ | refine yL3 ?_ ?_ ?_ | refine qL7 ?_ ?_ ?_ ?_ ?_ ?_ ?_ | refine zL1 ?_ | refine zL2 ?_ ?_ | refine zL3 ?_ ?_ ?_ | refine fun (_ : Nat) => ?_) | refine fun (_ : (_ : Nat) < _) => ?_ | exact rfl | exact Nat.le_of_ble_eq_true rfl | (change (_ : Nat) ≤ _; omega) | (change (_ : Nat) = _; omega) | (change (_ : Int) = _; omega))); (all_goals try (conv => whnf)))
    all_goals (unfold fmtN; rw [if_neg (fun q => q.elim h1 h2), if_neg (show ¬ o7 w = _ from h3), if_neg (show ¬ o7 w = _ from h4), if_neg (fun q => q.elim h5 h6), if_neg (show ¬ o7 w = _ from h7), if_neg (show ¬ o7 w = _ from h8), if_neg (show ¬ o7 w = _ from h9), if_neg (show ¬ o7 w = _ from ha), if_neg (show ¬ o7 w = _ from hb)]; first | done | rfl)
def mskW (s : BitVec 8) : BitVec 32 := BitVec.ofInt 32 1 <<< s.toNat - BitVec.ofInt 32 1
def C_rv_mask : SpecP := fun A K => ∃ a t s : BitVec 8, A [runA a t s] ∧ K (.u32 (mskW s))
theorem g_rv_mask : Gd 51 (pureP ty C_rv_mask) := by
  refine goodP (E := PG []) (pgOK trivial) mixes Tryz.func51 (by kernel_rfl) (by kernel_rfl) ?_
  rintro A K ⟨a, t, s, hA, hK⟩
  refine ⟨_, _, fun _ => none, hA, hK, by kernel_rfl, trivial, ?_⟩
  repeat ((conv => whnf); first | refine sdO ?_ | refine nlO ?_ | refine goA ?_ | refine goB ?_ | (apply Exists.intro; (repeat apply Exists.intro); refine caO ?_) | (refine Or.inl ?_; (conv => whnf); (repeat apply Exists.intro); refine caO ?_) | (refine Or.inr ?_; (conv => whnf); first | ((repeat apply Exists.intro); refine caO ?_) | (refine Or.inl ?_; (conv => whnf); (repeat apply Exists.intro); refine caO ?_) | (refine Or.inr ?_; (conv => whnf); (repeat apply Exists.intro); refine caO ?_)) | refine And.intro (by assumption) ?_ | refine goT ?_ | refine goF ?_ | refine goL ?_ | refine goR ?_ | refine goRL ?_ | refine goRR ?_)
  all_goals try (conv => whnf)
  ((repeat' ((conv => whnf) <;> first | exact trivial | (with_reducible first | refine And.intro ?_ ?_ | refine qL1 ?_ | refine qL2 ?_ ?_ | refine qL3 ?_ ?_ ?_ | refine qL4 ?_ ?_ ?_ ?_ | refine qL5 ?_ ?_ ?_ ?_ ?_ | refine yL1 ?_ | refine yL2 ?_ ?_ | refine yL3 ?_ ?_ ?_ | refine qL7 ?_ ?_ ?_ ?_ ?_ ?_ ?_ | refine zL1 ?_ | refine zL2 ?_ ?_ | refine zL3 ?_ ?_ ?_ | refine fun (_ : Nat) => ?_) | refine fun (_ : (_ : Nat) < _) => ?_ | exact rfl | exact Nat.le_of_ble_eq_true rfl | (change (_ : Nat) ≤ _; omega) | (change (_ : Nat) = _; omega) | (change (_ : Int) = _; omega))); (all_goals try (conv => whnf)))
def rdV (w : BitVec 32) (a t s : Nat → BitVec 8) : Nat → BitVec 32
  | 0 => BitVec.ofInt 32 0
  | k + 1 => rdV w a t s k ||| ((w >>> (a k).toNat) &&& mskW (s k)) <<< (t k).toNat
def wrV (v : BitVec 32) (i : BitVec 32) (a t s : Nat → BitVec 8) : Nat → BitVec 32
  | 0 => v
  | k + 1 => wrV v i a t s k ||| ((i >>> (t k).toNat) &&& mskW (s k)) <<< (a k).toNat
def imV (w : BitVec 32) (a t s : Nat → BitVec 8) (g : BitVec 8) : BitVec 32 := (rdV w a t s 4 <<< g.toNat).sshiftRight g.toNat
end Go.Proofs.YtglijhimopdgkaaGreatDoor
