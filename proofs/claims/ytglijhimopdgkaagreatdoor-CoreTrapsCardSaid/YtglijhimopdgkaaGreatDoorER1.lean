/- The rights: the table, a region's, the letters. -/
import Derived.Test.YtglijhimopdgkaaGreatDoorZ0
namespace Go.Proofs.YtglijhimopdgkaaGreatDoor
open Go.RowKit
set_option maxRecDepth 100000
set_option maxHeartbeats 20000000
abbrev holA (w s : Int) : AV := .agg false 2 (nth .junk [.int w, .int s])
abbrev rigA (f : Nat → BitVec 8) : AV := .agg false 5 (fun i => .u8 (f i))
def rows9 : List (Int × Int × List (BitVec 8)) := [(0, 0, [3, 3, 3, 3, 3]), (2, 0, [3, 3, 1, 0, 0]), (3, 0, [0, 0, 0, 3, 0]), (1, 1, [5, 3, 1, 3, 1]), (2, 1, [1, 3, 1, 0, 0]), (3, 1, [0, 0, 0, 3, 0]), (1, 2, [7, 3, 1, 3, 1]), (2, 2, [1, 3, 1, 0, 0]), (3, 2, [3, 3, 1, 3, 1])]
def ent (j : Nat) : AV := let r := rows9.getD j (0, 0, []); .agg false 2 (nth .junk [.agg false 2 (nth .junk [.int r.1, .int r.2.1]), .agg false 5 (fun i => .u8 (r.2.2.getD i 0))])
def rgt (w s : Int) (i : Nat) : BitVec 8 := ((rows9.find? fun r => decide (r.1 = w ∧ r.2.1 = s)).map fun r => r.2.2.getD i 0).getD 0
theorem ent_dis : ∀ a, a < 9 → ∀ b, b < 9 → AEq (ekey ent a) (ekey ent b) → a = b := by
  have key : ∀ a, a < 9 → ∀ b, b < 9 → (rows9.getD a (0, 0, [])).1 = (rows9.getD b (0, 0, [])).1 → (rows9.getD a (0, 0, [])).2.1 = (rows9.getD b (0, 0, [])).2.1 → a = b := by decide
  intro a ha b hb h
  exact key a ha b hb (h 0 (by decide)) (h 1 (by decide))
theorem rgt_hit (j : Nat) (hj : j < 9) : rgt (rows9.getD j (0, 0, [])).1 (rows9.getD j (0, 0, [])).2.1 = fun i => (rows9.getD j (0, 0, [])).2.2.getD i 0 := by
  rcases (show j = 0 ∨ j = 1 ∨ j = 2 ∨ j = 3 ∨ j = 4 ∨ j = 5 ∨ j = 6 ∨ j = 7 ∨ j = 8 by omega) with rfl | rfl | rfl | rfl | rfl | rfl | rfl | rfl | rfl <;> rfl
theorem rgt_miss {w s : Int} (h : ¬ ∃ j, j < 9 ∧ (rows9.getD j (0, 0, [])).1 = w ∧ (rows9.getD j (0, 0, [])).2.1 = s) (i : Nat) : rgt w s i = 0 := by
  have : (rows9.find? fun r => decide (r.1 = w ∧ r.2.1 = s)) = none := by
    rw [List.find?_eq_none]
    intro r hr hd
    obtain ⟨j, hj, rfl⟩ := List.getElem_of_mem hr
    have hd := of_decide_eq_true hd
    exact h ⟨j, hj, by rw [List.getD_eq_getElem?_getD, List.getElem?_eq_getElem hj]; exact hd.1, by rw [List.getD_eq_getElem?_getD, List.getElem?_eq_getElem hj]; exact hd.2⟩
  unfold rgt
  rw [this]; rfl
def C_g_rightsOf : SpecP := fun A K => ∃ w s : Int, A [holA w s] ∧ K (rigA (rgt w s))
theorem g_g_rightsOf : Gd 128 (pureP ty C_g_rightsOf) := by
  refine goodP (E := PG []) (pgOK trivial) mixes Tryz.func128 (by kernel_rfl) (by kernel_rfl) ?_
  rintro A K ⟨w, s, hA, hK⟩
  refine ⟨_, _, fun _ => none, hA, hK, by kernel_rfl, fun _ _ => trivial, ?_⟩
  repeat ((conv => whnf); first | refine sdO ?_ | refine nlO ?_ | refine goA ?_ | refine goB ?_ | (apply Exists.intro; (repeat apply Exists.intro); refine caO ?_) | (refine Or.inl ?_; (conv => whnf); (repeat apply Exists.intro); refine caO ?_) | (refine Or.inr ?_; (conv => whnf); first | ((repeat apply Exists.intro); refine caO ?_) | (refine Or.inl ?_; (conv => whnf); (repeat apply Exists.intro); refine caO ?_) | (refine Or.inr ?_; (conv => whnf); (repeat apply Exists.intro); refine caO ?_)) | refine And.intro (by assumption) ?_ | refine goT ?_ | refine goF ?_ | refine goL ?_ | refine goR ?_ | refine goRL ?_ | refine goRR ?_)
  all_goals try (conv => whnf)
  refine Or.inl (Exists.intro 9 (Exists.intro ent (Exists.intro (fun k => (k - 1032) / 24 - 1) (And.intro ?_ (And.intro ent_dis ?_)))))
  · ((repeat' ((conv => whnf) <;> first | exact trivial | (with_reducible first | refine And.intro ?_ ?_ | refine qL1 ?_ | refine qL2 ?_ ?_ | refine qL3 ?_ ?_ ?_ | refine qL4 ?_ ?_ ?_ ?_ | refine qL5 ?_ ?_ ?_ ?_ ?_ | refine yL1 ?_ | refine yL2 ?_ ?_ | refine yL3 ?_ ?_ ?_ | refine qL7 ?_ ?_ ?_ ?_ ?_ ?_ ?_ | refine zL1 ?_ | refine zL2 ?_ ?_ | refine zL3 ?_ ?_ ?_ | refine fun (_ : Nat) => ?_) | refine fun (_ : (_ : Nat) < _) => ?_ | exact rfl | exact Nat.le_of_ble_eq_true rfl | (change (_ : Nat) ≤ _; omega) | (change (_ : Nat) = _; omega) | (change (_ : Int) = _; omega))); (all_goals try (conv => whnf)))
  repeat ((conv => whnf); first | refine sdO ?_ | refine nlO ?_ | refine goA ?_ | refine goB ?_ | (apply Exists.intro; (repeat apply Exists.intro); refine caO ?_) | (refine Or.inl ?_; (conv => whnf); (repeat apply Exists.intro); refine caO ?_) | (refine Or.inr ?_; (conv => whnf); first | ((repeat apply Exists.intro); refine caO ?_) | (refine Or.inl ?_; (conv => whnf); (repeat apply Exists.intro); refine caO ?_) | (refine Or.inr ?_; (conv => whnf); (repeat apply Exists.intro); refine caO ?_)) | refine And.intro (by assumption) ?_ | refine goT ?_ | refine goF ?_ | refine goL ?_ | refine goR ?_ | refine goRL ?_ | refine goRR ?_)
  all_goals try (conv => whnf)
  by_cases h : ∃ j, j < 9 ∧ (rows9.getD j (0, 0, [])).1 = w ∧ (rows9.getD j (0, 0, [])).2.1 = s
  · obtain ⟨j, hj, rfl, rfl⟩ := h
    refine Found.hit j hj (fun i hi => ?_) ?_ ?_
    · rcases (show i = 0 ∨ i = 1 by omega) with rfl | rfl
      · exact rfl
      · exact rfl
    · revert hj
      generalize j = q
      revert q
      decide
    repeat ((conv => whnf); first | refine sdO ?_ | refine nlO ?_ | refine goA ?_ | refine goB ?_ | (apply Exists.intro; (repeat apply Exists.intro); refine caO ?_) | (refine Or.inl ?_; (conv => whnf); (repeat apply Exists.intro); refine caO ?_) | (refine Or.inr ?_; (conv => whnf); first | ((repeat apply Exists.intro); refine caO ?_) | (refine Or.inl ?_; (conv => whnf); (repeat apply Exists.intro); refine caO ?_) | (refine Or.inr ?_; (conv => whnf); (repeat apply Exists.intro); refine caO ?_)) | refine And.intro (by assumption) ?_ | refine goT ?_ | refine goF ?_ | refine goL ?_ | refine goR ?_ | refine goRL ?_ | refine goRR ?_)
    all_goals try (conv => whnf)
    ((repeat' ((conv => whnf) <;> first | exact trivial | (with_reducible first | refine And.intro ?_ ?_ | refine qL1 ?_ | refine qL2 ?_ ?_ | refine qL3 ?_ ?_ ?_ | refine qL4 ?_ ?_ ?_ ?_ | refine qL5 ?_ ?_ ?_ ?_ ?_ | refine yL1 ?_ | refine yL2 ?_ ?_ | refine yL3 ?_ ?_ ?_ | refine qL7 ?_ ?_ ?_ ?_ ?_ ?_ ?_ | refine zL1 ?_ | refine zL2 ?_ ?_ | refine zL3 ?_ ?_ ?_ | refine fun (_ : Nat) => ?_) | refine fun (_ : (_ : Nat) < _) => ?_ | exact rfl | exact Nat.le_of_ble_eq_true rfl | (change (_ : Nat) ≤ _; omega) | (change (_ : Nat) = _; omega) | (change (_ : Int) = _; omega))); (all_goals try (conv => whnf)))
    all_goals exact congrFun (rgt_hit j hj).symm _
  · refine Found.miss (fun i hi he => h ⟨i, hi, (he 0 (by decide)).symm, (he 1 (by decide)).symm⟩) ?_
    repeat ((conv => whnf); first | refine sdO ?_ | refine nlO ?_ | refine goA ?_ | refine goB ?_ | (apply Exists.intro; (repeat apply Exists.intro); refine caO ?_) | (refine Or.inl ?_; (conv => whnf); (repeat apply Exists.intro); refine caO ?_) | (refine Or.inr ?_; (conv => whnf); first | ((repeat apply Exists.intro); refine caO ?_) | (refine Or.inl ?_; (conv => whnf); (repeat apply Exists.intro); refine caO ?_) | (refine Or.inr ?_; (conv => whnf); (repeat apply Exists.intro); refine caO ?_)) | refine And.intro (by assumption) ?_ | refine goT ?_ | refine goF ?_ | refine goL ?_ | refine goR ?_ | refine goRL ?_ | refine goRR ?_)
    all_goals try (conv => whnf)
    ((repeat' ((conv => whnf) <;> first | exact trivial | (with_reducible first | refine And.intro ?_ ?_ | refine qL1 ?_ | refine qL2 ?_ ?_ | refine qL3 ?_ ?_ ?_ | refine qL4 ?_ ?_ ?_ ?_ | refine qL5 ?_ ?_ ?_ ?_ ?_ | refine yL1 ?_ | refine yL2 ?_ ?_ | refine yL3 ?_ ?_ ?_ | refine qL7 ?_ ?_ ?_ ?_ ?_ ?_ ?_ | refine zL1 ?_ | refine zL2 ?_ ?_ | refine zL3 ?_ ?_ ?_ | refine fun (_ : Nat) => ?_) | refine fun (_ : (_ : Nat) < _) => ?_ | exact rfl | exact Nat.le_of_ble_eq_true rfl | (change (_ : Nat) ≤ _; omega) | (change (_ : Nat) = _; omega) | (change (_ : Int) = _; omega))); (all_goals try (conv => whnf)))
    all_goals exact (rgt_miss h _).symm
end Go.Proofs.YtglijhimopdgkaaGreatDoor
