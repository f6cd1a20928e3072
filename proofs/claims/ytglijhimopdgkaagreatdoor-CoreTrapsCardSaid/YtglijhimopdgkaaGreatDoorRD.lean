/- A word's instruction. -/
import Derived.Test.YtglijhimopdgkaaGreatDoorRC
namespace Go.Proofs.YtglijhimopdgkaaGreatDoor
open Go.RowKit
set_option maxRecDepth 100000
set_option maxHeartbeats 20000000
def lkF (f : Nat) (k : BitVec 32) : Option (Int × Int) := (sh f).find? fun r => decide (BitVec.ofInt 32 r.1 = k)
def kyW (w : BitVec 32) : BitVec 32 := w &&& lf (fmtN w) 0
def opV (w : BitVec 32) : BitVec 8 := match lkF (fmtN w) (kyW w) with
  | some r => BitVec.ofInt 8 r.2
  | none => 0
def isV (w : BitVec 32) : Bool := (lkF (fmtN w) (kyW w)).isSome
theorem lk_hit : ∀ f, f < 12 → ∀ j, j < tn f → lkF f (tk f j) = some ((sh f).getD j (0, 0)) := by decide +kernel
theorem lk_miss {f : Nat} {k : BitVec 32} (h : ∀ i, i < tn f → ¬ k = tk f i) : lkF f k = none := by
  unfold lkF
  rw [List.find?_eq_none]
  intro r hr hd
  obtain ⟨j, hj, rfl⟩ := List.getElem_of_mem hr
  have hd := of_decide_eq_true hd
  refine h j hj ?_
  unfold tk
  rw [List.getD_eq_getElem?_getD, List.getElem?_eq_getElem hj]; exact hd.symm
def fR (w : BitVec 32) : BitVec 8 := bif isV w then fldV w (lf (fmtN w) 1) 7 else 0
def fA (w : BitVec 32) : BitVec 8 := bif isV w then fldV w (lf (fmtN w) 2) 15 else 0
def fB (w : BitVec 32) : BitVec 8 := bif isV w then fldV w (lf (fmtN w) 3) 20 else 0
def fI (w : BitVec 32) : BitVec 32 := bif isV w then imV w (lat (fmtN w)) (lto (fmtN w)) (lsz (fmtN w)) (lsg (fmtN w)) else 0
def fC (w : BitVec 32) : BitVec 16 := bif isV w then csrV w (lf (fmtN w) 4) else 0
theorem opV_no {w : BitVec 32} (h : isV w = false) : opV w = 0 := by
  unfold isV at h
  unfold opV
  cases hl : lkF (fmtN w) (kyW w) with
  | none => rfl
  | some r => rw [hl] at h; cases h
abbrev dcA (w : BitVec 32) : AV := insA (opV w) (fR w) (fA w) (fB w) (fI w) (fC w)
theorem no_all {w : BitVec 32} (h : isV w = false) : (0 = opV w ∧ 0 = fR w ∧ 0 = fA w) ∧ 0 = fB w ∧ 0 = fI w ∧ 0 = fC w ∧ false = isV w :=
  ⟨⟨(opV_no h).symm, by unfold fR; rw [h]; rfl, by unfold fA; rw [h]; rfl⟩, by unfold fB; rw [h]; rfl, by unfold fI; rw [h]; rfl, by unfold fC; rw [h]; rfl, h.symm⟩
theorem yes_all {w : BitVec 32} (h : isV w = true) : (fldV w (lf (fmtN w) 1) 7 = fR w ∧ fldV w (lf (fmtN w) 2) 15 = fA w ∧ fldV w (lf (fmtN w) 3) 20 = fB w) ∧ imV w (lat (fmtN w)) (lto (fmtN w)) (lsz (fmtN w)) (lsg (fmtN w)) = fI w ∧ csrV w (lf (fmtN w) 4) = fC w ∧ true = isV w :=
  ⟨⟨by unfold fR; rw [h]; rfl, by unfold fA; rw [h]; rfl, by unfold fB; rw [h]; rfl⟩, by unfold fI; rw [h]; rfl, by unfold fC; rw [h]; rfl, h.symm⟩
theorem lsg_lt : ∀ f, f < 12 → (lsg f).toNat < 32 := by decide +kernel
def C_rv_Decode : SpecP := fun A K => ∃ w : BitVec 32, A [.u32 w] ∧ K (tupOf [dcA w, .bo (isV w)])
theorem g_rv_Decode : Gd 28 (pureP ty C_rv_Decode) := by
  refine goodP (E := PG [(52, pureP ty C_rv_formatOf), (26, pureP ty C_rv_layoutOf), (50, pureP ty C_rv_shapes), (53, pureP ty C_rv_read)]) (pgOK ⟨g_rv_formatOf, g_rv_layoutOf, g_rv_shapes, g_rv_read, trivial⟩) mixes Tryz.func28 (by kernel_rfl) (by kernel_rfl) ?_
  rintro A K ⟨w, hA, hK⟩
  refine ⟨_, _, fun _ => none, hA, hK, by kernel_rfl, own_res own_ins trivial, ?_⟩
  have hlt := fmtN_lt w
  have hsg := lsg_lt (fmtN w) hlt
  rcases Nat.eq_zero_or_pos (fmtN w) with h0 | h0
  · have hl : lkF (fmtN w) (kyW w) = none := by rw [h0]; rfl
    have hi : isV w = false := by unfold isV; rw [hl]; rfl
    have ha := no_all hi
    repeat ((conv => whnf); first | refine sdO ?_ | refine nlO ?_ | refine goA ?_ | refine goB ?_ | (apply Exists.intro; (repeat apply Exists.intro); refine caO ?_) | (refine Or.inl ?_; (conv => whnf); (repeat apply Exists.intro); refine caO ?_) | (refine Or.inr ?_; (conv => whnf); first | ((repeat apply Exists.intro); refine caO ?_) | (refine Or.inl ?_; (conv => whnf); (repeat apply Exists.intro); refine caO ?_) | (refine Or.inr ?_; (conv => whnf); (repeat apply Exists.intro); refine caO ?_)) | refine And.intro (by assumption) ?_ | refine goT ?_ | refine goF ?_ | refine goL ?_ | refine goR ?_ | refine goRL ?_ | refine goRR ?_)
    all_goals try (conv => whnf)
    ((repeat' ((conv => whnf) <;> first | exact trivial | (with_reducible first | refine And.intro ?_ ?_ | refine qL1 ?_ | refine qL2 ?_ ?_ | refine qL3 ?_ ?_ ?_ | refine qL4 ?_ ?_ ?_ ?_ | refine qL5 ?_ ?_ ?_ ?_ ?_ | refine yL1 ?_ | refine yL2 ?_ ?_ | refine yL3 ?_ ?_ ?_ | refine qL7 ?_ ?_ ?_ ?_ ?_ ?_ ?_ | refine zL1 ?_ | refine zL2 ?_ ?_ | refine zL3 ?_ ?_ ?_ | refine fun (_ : Nat) => ?_) | refine fun (_ : (_ : Nat) < _) => ?_ | exact rfl | exact Nat.le_of_ble_eq_true rfl | (change (_ : Nat) ≤ _; omega) | (change (_ : Nat) = _; omega) | (change (_ : Int) = _; omega))); (all_goals try (conv => whnf)))
    all_goals first | exact ha.1.1 | exact ha.1.2.1 | exact ha.1.2.2 | exact ha.2.1 | exact ha.2.2.1 | exact ha.2.2.2.1 | exact ha.2.2.2.2
  · by_cases h : ∃ j, j < tn (fmtN w) ∧ kyW w = tk (fmtN w) j
    · obtain ⟨j, hj, he⟩ := h
      have hl := lk_hit (fmtN w) hlt j hj
      rw [← he] at hl
      have hi : isV w = true := by unfold isV; rw [hl]; rfl
      have ho : opV w = tv (fmtN w) j := by unfold opV; rw [hl]; rfl
      repeat ((conv => whnf); first | refine sdO ?_ | refine nlO ?_ | refine goA ?_ | refine goB ?_ | (apply Exists.intro; (repeat apply Exists.intro); refine caO ?_) | (refine Or.inl ?_; (conv => whnf); (repeat apply Exists.intro); refine caO ?_) | (refine Or.inr ?_; (conv => whnf); first | ((repeat apply Exists.intro); refine caO ?_) | (refine Or.inl ?_; (conv => whnf); (repeat apply Exists.intro); refine caO ?_) | (refine Or.inr ?_; (conv => whnf); (repeat apply Exists.intro); refine caO ?_)) | refine And.intro (by assumption) ?_ | refine goT ?_ | refine goF ?_ | refine goL ?_ | refine goR ?_ | refine goRL ?_ | refine goRR ?_)
      all_goals try (conv => whnf)
      refine Found.hit j hj he rfl ?_
      have ha := yes_all hi
      repeat ((conv => whnf); first | refine sdO ?_ | refine nlO ?_ | refine goA ?_ | refine goB ?_ | (apply Exists.intro; (repeat apply Exists.intro); refine caO ?_) | (refine Or.inl ?_; (conv => whnf); (repeat apply Exists.intro); refine caO ?_) | (refine Or.inr ?_; (conv => whnf); first | ((repeat apply Exists.intro); refine caO ?_) | (refine Or.inl ?_; (conv => whnf); (repeat apply Exists.intro); refine caO ?_) | (refine Or.inr ?_; (conv => whnf); (repeat apply Exists.intro); refine caO ?_)) | refine And.intro (by assumption) ?_ | refine goT ?_ | refine goF ?_ | refine goL ?_ | refine goR ?_ | refine goRL ?_ | refine goRR ?_)
      all_goals try (conv => whnf)
      ((repeat' ((conv => whnf) <;> first | exact trivial | (with_reducible first | refine And.intro ?_ ?_ | refine qL1 ?_ | refine qL2 ?_ ?_ | refine qL3 ?_ ?_ ?_ | refine qL4 ?_ ?_ ?_ ?_ | refine qL5 ?_ ?_ ?_ ?_ ?_ | refine yL1 ?_ | refine yL2 ?_ ?_ | refine yL3 ?_ ?_ ?_ | refine qL7 ?_ ?_ ?_ ?_ ?_ ?_ ?_ | refine zL1 ?_ | refine zL2 ?_ ?_ | refine zL3 ?_ ?_ ?_ | refine fun (_ : Nat) => ?_) | refine fun (_ : (_ : Nat) < _) => ?_ | exact rfl | exact Nat.le_of_ble_eq_true rfl | (change (_ : Nat) ≤ _; omega) | (change (_ : Nat) = _; omega) | (change (_ : Int) = _; omega))); (all_goals try (conv => whnf)))
      all_goals first | exact ho.symm | exact ha.1.1 | exact ha.1.2.1 | exact ha.1.2.2 | exact ha.2.1 | exact ha.2.2.1 | exact ha.2.2.2
    · have hl := lk_miss (f := fmtN w) (k := kyW w) fun i hi he => h ⟨i, hi, he⟩
      have hi : isV w = false := by unfold isV; rw [hl]; rfl
      repeat ((conv => whnf); first | refine sdO ?_ | refine nlO ?_ | refine goA ?_ | refine goB ?_ | (apply Exists.intro; (repeat apply Exists.intro); refine caO ?_) | (refine Or.inl ?_; (conv => whnf); (repeat apply Exists.intro); refine caO ?_) | (refine Or.inr ?_; (conv => whnf); first | ((repeat apply Exists.intro); refine caO ?_) | (refine Or.inl ?_; (conv => whnf); (repeat apply Exists.intro); refine caO ?_) | (refine Or.inr ?_; (conv => whnf); (repeat apply Exists.intro); refine caO ?_)) | refine And.intro (by assumption) ?_ | refine goT ?_ | refine goF ?_ | refine goL ?_ | refine goR ?_ | refine goRL ?_ | refine goRR ?_)
      all_goals try (conv => whnf)
      refine Found.miss (fun i hi he => h ⟨i, hi, he⟩) ?_
      have ha := no_all hi
      repeat ((conv => whnf); first | refine sdO ?_ | refine nlO ?_ | refine goA ?_ | refine goB ?_ | (apply Exists.intro; (repeat apply Exists.intro); refine caO ?_) | (refine Or.inl ?_; (conv => whnf); (repeat apply Exists.intro); refine caO ?_) | (refine Or.inr ?_; (conv => whnf); first | ((repeat apply Exists.intro); refine caO ?_) | (refine Or.inl ?_; (conv => whnf); (repeat apply Exists.intro); refine caO ?_) | (refine Or.inr ?_; (conv => whnf); (repeat apply Exists.intro); refine caO ?_)) | refine And.intro (by assumption) ?_ | refine goT ?_ | refine goF ?_ | refine goL ?_ | refine goR ?_ | refine goRL ?_ | refine goRR ?_)
      all_goals try (conv => whnf)
      ((repeat' ((conv => whnf) <;> first | exact trivial | (with_reducible first | refine And.intro ?_ ?_ | refine qL1 ?_ | refine qL2 ?_ ?_ | refine qL3 ?_ ?_ ?_ | refine qL4 ?_ ?_ ?_ ?_ | refine qL5 ?_ ?_ ?_ ?_ ?_ | refine yL1 ?_ | refine yL2 ?_ ?_ | refine yL3 ?_ ?_ ?_ | refine qL7 ?_ ?_ ?_ ?_ ?_ ?_ ?_ | refine zL1 ?_ | refine zL2 ?_ ?_ | refine zL3 ?_ ?_ ?_ | refine fun (_ : Nat) => ?_) | refine fun (_ : (_ : Nat) < _) => ?_ | exact rfl | exact Nat.le_of_ble_eq_true rfl | (change (_ : Nat) ≤ _; omega) | (change (_ : Nat) = _; omega) | (change (_ : Int) = _; omega))); (all_goals try (conv => whnf)))
      all_goals first | exact ha.1.1 | exact ha.1.2.1 | exact ha.1.2.2 | exact ha.2.1 | exact ha.2.2.1 | exact ha.2.2.2.1 | exact ha.2.2.2.2
end Go.Proofs.YtglijhimopdgkaaGreatDoor
