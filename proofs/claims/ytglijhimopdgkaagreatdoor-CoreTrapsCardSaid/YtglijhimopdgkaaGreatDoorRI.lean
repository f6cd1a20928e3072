/- An instruction's word; words in a row. -/
import Derived.Test.YtglijhimopdgkaaGreatDoorRH
namespace Go.Proofs.YtglijhimopdgkaaGreatDoor
open Go.RowKit
set_option maxRecDepth 100000
set_option maxHeartbeats 20000000
theorem six {p : Nat → Prop} (h0 : p 0) (h1 : p 1) (h2 : p 2) (h3 : p 3) (h4 : p 4) (h5 : p 5) : ∀ i, i < 6 → p i := fun i hi => by
  rcases (show i = 0 ∨ i = 1 ∨ i = 2 ∨ i = 3 ∨ i = 4 ∨ i = 5 by omega) with rfl | rfl | rfl | rfl | rfl | rfl
  · exact h0
  · exact h1
  · exact h2
  · exact h3
  · exact h4
  · exact h5
theorem eqB_congr {u u' : Bool} {n : Nat} {F F' G G' : Nat → AV} (h : ∀ i, i < n → F i = F' i) (h' : ∀ i, i < n → G i = G' i) : eqB (.agg u n F) (.agg u' n G) = eqB (.agg u n F') (.agg u' n G') := by
  rw [Bool.eq_iff_iff, eqB_iff, eqB_iff]
  constructor
  · intro q i hi
    have := q i hi
    rwa [h i hi, h' i hi] at this
  · intro q i hi
    have := q i hi
    rwa [← h i hi, ← h' i hi] at this
def wdV (o r x y : BitVec 8) (i : BitVec 32) (c : BitVec 16) : BitVec 32 := (shpV o).2 ||| wrV (wr0 r x y c) i (lat (shpV o).1) (lto (shpV o).1) (lsz (shpV o).1) 4
noncomputable def enO (o r x y : BitVec 8) (i : BitVec 32) (c : BitVec 16) : Bool := isV (wdV o r x y i c) && eqB (dcA (wdV o r x y i c)) (insA o r x y i c)
noncomputable def enW (o r x y : BitVec 8) (i : BitVec 32) (c : BitVec 16) : BitVec 32 := bif enO o r x y i c then wdV o r x y i c else 0
attribute [local irreducible] wdV isV opV fR fA fB fI fC
theorem wd_eq (o r x y : BitVec 8) (i : BitVec 32) (c : BitVec 16) : (shpV o).2 ||| wrV (wr0 r x y c) i (lat (shpV o).1) (lto (shpV o).1) (lsz (shpV o).1) 4 = wdV o r x y i c := by unfold wdV; rfl
def C_rv_Encode : SpecP := fun A K => ∃ o r x y i c, A [insA o r x y i c] ∧ K (tupOf [.u32 (enW o r x y i c), .bo (enO o r x y i c)])
theorem g_rv_Encode : Gd 8 (pureP ty C_rv_Encode) := by
  refine goodP (E := PG [(25, pureP ty C_rv_shapeOf), (26, pureP ty C_rv_layoutOf), (27, pureP ty C_rv_write), (28, pureP ty C_rv_Decode)]) (pgOK ⟨g_rv_shapeOf, g_rv_layoutOf, g_rv_write, g_rv_Decode, trivial⟩) mixes Tryz.func8 (by kernel_rfl) (by kernel_rfl) ?_
  rintro A K ⟨o, r, x, y, i, c, hA, hK⟩
  refine ⟨_, _, fun _ => none, hA, hK, by kernel_rfl, own_res trivial trivial, ?_⟩
  have hlt := shp_lt o
  have hw := wd_eq o r x y i c
  generalize hwd : wdV o r x y i c = w at hw
  cases hv : isV w with
  | false =>
    rw [← hw] at hv
    have e1 : enO o r x y i c = false := by unfold enO; rw [hwd, ← hw, hv]; rfl
    have e2 : enW o r x y i c = 0 := by unfold enW; rw [e1]; rfl
    repeat ((conv => whnf); first | refine sdO ?_ | refine nlO ?_ | refine goA ?_ | refine goB ?_ | (apply Exists.intro; (repeat apply Exists.intro); refine caO ?_) | (refine Or.inl ?_; (conv => whnf); (repeat apply Exists.intro); refine caO ?_) | (refine Or.inr ?_; (conv => whnf); first | ((repeat apply Exists.intro); refine caO ?_) | (refine Or.inl ?_; (conv => whnf); (repeat apply Exists.intro); refine caO ?_) | (refine Or.inr ?_; (conv => whnf); (repeat apply Exists.intro); refine caO ?_)) | refine And.intro (by assumption) ?_ | refine goT ?_ | refine goF ?_ | refine goL ?_ | refine goR ?_ | refine goRL ?_ | refine goRR ?_)
    all_goals try (conv => whnf)
    ((repeat' ((conv => whnf) <;> first | exact trivial | (with_reducible first | refine And.intro ?_ ?_ | refine qL1 ?_ | refine qL2 ?_ ?_ | refine qL3 ?_ ?_ ?_ | refine qL4 ?_ ?_ ?_ ?_ | refine qL5 ?_ ?_ ?_ ?_ ?_ | refine yL1 ?_ | refine yL2 ?_ ?_ | refine yL3 ?_ ?_ ?_ | refine qL7 ?_ ?_ ?_ ?_ ?_ ?_ ?_ | refine zL1 ?_ | refine zL2 ?_ ?_ | refine zL3 ?_ ?_ ?_ | refine fun (_ : Nat) => ?_) | refine fun (_ : (_ : Nat) < _) => ?_ | exact rfl | exact Nat.le_of_ble_eq_true rfl | (change (_ : Nat) ≤ _; omega) | (change (_ : Nat) = _; omega) | (change (_ : Int) = _; omega))); (all_goals try (conv => whnf)))
    all_goals first | exact e2.symm | exact e1.symm
  | true =>
    rw [← hw] at hv
    repeat ((conv => whnf); first | refine sdO ?_ | refine nlO ?_ | refine goA ?_ | refine goB ?_ | (apply Exists.intro; (repeat apply Exists.intro); refine caO ?_) | (refine Or.inl ?_; (conv => whnf); (repeat apply Exists.intro); refine caO ?_) | (refine Or.inr ?_; (conv => whnf); first | ((repeat apply Exists.intro); refine caO ?_) | (refine Or.inl ?_; (conv => whnf); (repeat apply Exists.intro); refine caO ?_) | (refine Or.inr ?_; (conv => whnf); (repeat apply Exists.intro); refine caO ?_)) | refine And.intro (by assumption) ?_ | refine goT ?_ | refine goF ?_ | refine goL ?_ | refine goR ?_ | refine goRL ?_ | refine goRR ?_)
    all_goals try (conv => whnf)
    refine And.intro (fun h => ?_) (fun h => ?_)
    · have e0 : eqB (dcA w) (insA o r x y i c) = false := by
        have h' := h
        rw [Bool.not_eq_true'] at h'
        rw [← h', ← hw]
        exact eqB_congr (six rfl rfl rfl rfl rfl rfl) (six rfl rfl rfl rfl rfl rfl)
      have e1 : enO o r x y i c = false := by unfold enO; rw [hwd, e0]; simp
      have e2 : enW o r x y i c = 0 := by unfold enW; rw [e1]; rfl
      repeat ((conv => whnf); first | refine sdO ?_ | refine nlO ?_ | refine goA ?_ | refine goB ?_ | (apply Exists.intro; (repeat apply Exists.intro); refine caO ?_) | (refine Or.inl ?_; (conv => whnf); (repeat apply Exists.intro); refine caO ?_) | (refine Or.inr ?_; (conv => whnf); first | ((repeat apply Exists.intro); refine caO ?_) | (refine Or.inl ?_; (conv => whnf); (repeat apply Exists.intro); refine caO ?_) | (refine Or.inr ?_; (conv => whnf); (repeat apply Exists.intro); refine caO ?_)) | refine And.intro (by assumption) ?_ | refine goT ?_ | refine goF ?_ | refine goL ?_ | refine goR ?_ | refine goRL ?_ | refine goRR ?_)
      all_goals try (conv => whnf)
      ((repeat' ((conv => whnf) <;> first | exact trivial | (with_reducible first | refine And.intro ?_ ?_ | refine qL1 ?_ | refine qL2 ?_ ?_ | refine qL3 ?_ ?_ ?_ | refine qL4 ?_ ?_ ?_ ?_ | refine qL5 ?_ ?_ ?_ ?_ ?_ | refine yL1 ?_ | refine yL2 ?_ ?_ | refine yL3 ?_ ?_ ?_ | refine qL7 ?_ ?_ ?_ ?_ ?_ ?_ ?_ | refine zL1 ?_ | refine zL2 ?_ ?_ | refine zL3 ?_ ?_ ?_ | refine fun (_ : Nat) => ?_) | refine fun (_ : (_ : Nat) < _) => ?_ | exact rfl | exact Nat.le_of_ble_eq_true rfl | (change (_ : Nat) ≤ _; omega) | (change (_ : Nat) = _; omega) | (change (_ : Int) = _; omega))); (all_goals try (conv => whnf)))
      all_goals first | exact e2.symm | exact e1.symm
    · have e0 : eqB (dcA w) (insA o r x y i c) = true := by
        have h' := h
        rw [Bool.not_eq_false'] at h'
        rw [← h', ← hw]
        exact eqB_congr (six rfl rfl rfl rfl rfl rfl) (six rfl rfl rfl rfl rfl rfl)
      have e1 : enO o r x y i c = true := by unfold enO; rw [hwd, e0, ← hw, hv]; rfl
      have e2 : enW o r x y i c = w := by unfold enW; rw [e1, hwd]; rfl
      repeat ((conv => whnf); first | refine sdO ?_ | refine nlO ?_ | refine goA ?_ | refine goB ?_ | (apply Exists.intro; (repeat apply Exists.intro); refine caO ?_) | (refine Or.inl ?_; (conv => whnf); (repeat apply Exists.intro); refine caO ?_) | (refine Or.inr ?_; (conv => whnf); first | ((repeat apply Exists.intro); refine caO ?_) | (refine Or.inl ?_; (conv => whnf); (repeat apply Exists.intro); refine caO ?_) | (refine Or.inr ?_; (conv => whnf); (repeat apply Exists.intro); refine caO ?_)) | refine And.intro (by assumption) ?_ | refine goT ?_ | refine goF ?_ | refine goL ?_ | refine goR ?_ | refine goRL ?_ | refine goRR ?_)
      all_goals try (conv => whnf)
      ((repeat' ((conv => whnf) <;> first | exact trivial | (with_reducible first | refine And.intro ?_ ?_ | refine qL1 ?_ | refine qL2 ?_ ?_ | refine qL3 ?_ ?_ ?_ | refine qL4 ?_ ?_ ?_ ?_ | refine qL5 ?_ ?_ ?_ ?_ ?_ | refine yL1 ?_ | refine yL2 ?_ ?_ | refine yL3 ?_ ?_ ?_ | refine qL7 ?_ ?_ ?_ ?_ ?_ ?_ ?_ | refine zL1 ?_ | refine zL2 ?_ ?_ | refine zL3 ?_ ?_ ?_ | refine fun (_ : Nat) => ?_) | refine fun (_ : (_ : Nat) < _) => ?_ | exact rfl | exact Nat.le_of_ble_eq_true rfl | (change (_ : Nat) ≤ _; omega) | (change (_ : Nat) = _; omega) | (change (_ : Int) = _; omega))); (all_goals try (conv => whnf)))
      all_goals first | exact hw.trans e2.symm | exact e1.symm
end Go.Proofs.YtglijhimopdgkaaGreatDoor
