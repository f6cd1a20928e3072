/- RvEncodes. -/
import Derived.Test.YtonggppknpbhiaaDoorRN4
import Derived.Test.YtonggppknpbhiaaDoorRN7
import Derived.Test.YtonggppknpbhiaaDoorRNX
namespace Go.Proofs.YtonggppknpbhiaaDoor
open Go.RowKit
set_option maxRecDepth 100000
set_option maxHeartbeats 20000000
theorem good_orR {P : Program} {ty : TypeId → Ty} {gl : Nat → AV} {f : FuncId} {C1 C2 D C10 C20 D0 : Ctr} [h1 : Told C1 C10] [h2 : Told C2 C20] [hD : Told D D0] (g1 : Good P ty gl f C1) (g2 : Good P ty gl f C2) (h : ∀ args m key K, D0 args m key K → C10 args m key K ∨ C20 args m key K) : Good P ty gl f D := fun args m key K hd => by
  rw [hD.eq] at hd
  rcases h args m key K hd with h | h
  · exact g1 args m key K (by rw [h1.eq]; exact h)
  · exact g2 args m key K (by rw [h2.eq]; exact h)
def C_r19_Dec47 : SpecP := fun A K => ∃ w : BitVec 32, A [.u32 w] ∧ (isV w = true ∧ (fmtN w = 4 ∨ fmtN w = 7)) ∧ K (dcA w)
theorem g_r19_Dec47 : Gd 9 (pureP ty C_r19_Dec47) := good_orR g_r19_Dec4 g_r19_Dec7 fun args m key K ⟨w, hA, ⟨hi, h⟩, hK⟩ => by
  rcases h with h | h
  · exact Or.inl ⟨w, hA, ⟨hi, h⟩, hK⟩
  · exact Or.inr ⟨w, hA, ⟨hi, h⟩, hK⟩
def C_r19_Decode : SpecP := fun A K => ∃ w : BitVec 32, A [.u32 w] ∧ IsI w ∧ K (dcA w)
theorem g_r19_Decode : Gd 9 (pureP ty C_r19_Decode) := good_orR g_r19_Dec47 g_r19_DecX fun args m key K ⟨w, hA, ⟨hi⟩, hK⟩ => by
  by_cases h4 : fmtN w = 4
  · exact Or.inl ⟨w, hA, ⟨hi, .inl h4⟩, hK⟩
  by_cases h7 : fmtN w = 7
  · exact Or.inl ⟨w, hA, ⟨hi, .inr h7⟩, hK⟩
  · exact Or.inr ⟨w, hA, ⟨hi, h4, h7⟩, hK⟩
/-! ### What is read is written -/
theorem en_yes {o r x y : BitVec 8} {i : BitVec 32} {c : BitVec 16} (h : enO o r x y i c = true) : isV (enW o r x y i c) = true ∧ eqB (dcA (enW o r x y i c)) (insA o r x y i c) = true := by
  have e : enW o r x y i c = wdV o r x y i c := by unfold enW; rw [h]; rfl
  rw [e]
  unfold enO at h
  exact (Bool.and_eq_true_iff.1 h)
theorem en_no {o r x y : BitVec 8} {i : BitVec 32} {c : BitVec 16} (h : enO o r x y i c = false) : enW o r x y i c = BitVec.ofInt 32 0 := by unfold enW; rw [h]; rfl
theorem wd_dc {w : BitVec 32} (hi : isV w = true) : wdV (opV w) (fR w) (fA w) (fB w) (fI w) (fC w) = wbk (fmtN w) w := by
  obtain ⟨j, hj, hk⟩ := lk_some hi
  have hs : shpV (opV w) = (fmtN w, w &&& lf (fmtN w) 0) := by
    rw [op_some hj hk, shp_hit (fmtN w) (fmtN_lt w) j hj, ← hk]; rfl
  unfold wdV wbk
  rw [hs, fR_y hi rfl, fA_y hi rfl, fB_y hi rfl, fI_y hi rfl, fC_y hi rfl]
theorem fence_0 {w : BitVec 32} (hi : isV w = true) (h : fmtN w = 8) : opV w = BitVec.ofInt 8 38 ∧ fR w = 0 ∧ fA w = 0 ∧ fB w = 0 ∧ fI w = 0 ∧ fC w = 0 := by
  obtain ⟨j, hj, hk⟩ := lk_some hi
  have ho := op_some hj hk
  rw [h] at hj ho
  obtain rfl : j = 0 := by have h : j < 1 := hj; omega
  exact ⟨ho, (fR_y hi h).trans (fl_z w 7), (fA_y hi h).trans (fl_z w 15), (fB_y hi h).trans (fl_z w 20), (fI_y hi h).trans (iva_8 w).symm, (fC_y hi h).trans (cs_z w)⟩
theorem en_dc {w : BitVec 32} (hi : isV w = true) : enO (opV w) (fR w) (fA w) (fB w) (fI w) (fC w) = true := by
  have hw := wd_dc hi
  unfold enO
  by_cases h8 : fmtN w = 8
  · obtain ⟨a1, a2, a3, a4, a5, a6⟩ := fence_0 hi h8
    rw [a1, a2, a3, a4, a5, a6]
    have hv : isV (wdV (BitVec.ofInt 8 38) 0 0 0 0 0) = true := by decide +kernel
    have hf : fmtN (wdV (BitVec.ofInt 8 38) 0 0 0 0 0) = 8 := by decide +kernel
    obtain ⟨b1, b2, b3, b4, b5, b6⟩ := fence_0 hv hf
    rw [hv, Bool.true_and]
    refine eqB_agg (six ?_ ?_ ?_ ?_ ?_ ?_)
    · exact b1
    · exact b2
    · exact b3
    · exact b4
    · exact b5
    · exact b6
  · have he : wbk (fmtN w) w = w := by
      have hlt := fmtN_lt w
      obtain ⟨j, hj, _⟩ := lk_some hi
      generalize fmtN w = f at *
      rcases (show f = 0 ∨ f = 1 ∨ f = 2 ∨ f = 3 ∨ f = 4 ∨ f = 5 ∨ f = 6 ∨ f = 7 ∨ f = 9 ∨ f = 10 ∨ f = 11 by omega) with rfl | rfl | rfl | rfl | rfl | rfl | rfl | rfl | rfl | rfl | rfl
      · exact absurd hj (Nat.not_lt_zero j)
      · exact wbk_1 w
      · exact wbk_2 w
      · exact wbk_3 w
      · exact wbk_4 w
      · exact wbk_5 w
      · exact wbk_6 w
      · exact wbk_7 w
      · exact wbk_9 w
      · exact wbk_10 w
      · exact wbk_11 w
    rw [hw, he, hi, Bool.true_and]
    exact eqB_agg (six rfl rfl rfl rfl rfl rfl)
attribute [local irreducible] enW enO isV opV fR fA fB fI fC
def C_l19_RvEncodes : SpecP := fun A K => ∃ o r x y i c w, A [insA o r x y i c, .u32 w] ∧ K (.bo true)
theorem g_l19_RvEncodes : Gd 3 (pureP ty C_l19_RvEncodes) := by
  refine goodP (E := PG [(7, pureP ty C_l19_awake), (8, pureP ty C_rv_Encode), (9, pureP ty C_r19_Decode), (10, pureP ty C_rv_Decode)]) (pgOK ⟨g_l19_awake, g_rv_Encode, g_r19_Decode, g_rv_Decode, trivial⟩) mixes Tryd.func3 (by kernel_rfl) (by kernel_rfl) ?_
  rintro A K ⟨o, r, x, y, i, c, w, hA, hK⟩
  refine ⟨_, _, loops [(100006, ⟨Unit, fun _ => True, fun _ => [(1, .u32 w)], fun _ => [], fun _ => 0, some, some⟩)], hA, hK, by kernel_rfl, trivial, ?_⟩
  repeat ((conv => whnf); first | refine sdO ?_ | refine nlO ?_ | refine goA ?_ | refine goB ?_ | (apply Exists.intro; (repeat apply Exists.intro); refine caO ?_) | (refine Or.inl ?_; (conv => whnf); (repeat apply Exists.intro); refine caO ?_) | (refine Or.inr ?_; (conv => whnf); first | ((repeat apply Exists.intro); refine caO ?_) | (refine Or.inl ?_; (conv => whnf); (repeat apply Exists.intro); refine caO ?_) | (refine Or.inr ?_; (conv => whnf); (repeat apply Exists.intro); refine caO ?_)) | refine And.intro (by assumption) ?_ | refine goT ?_ | refine goF ?_ | refine goL ?_ | refine goR ?_ | refine goRL ?_ | refine goRR ?_)
  all_goals try (conv => whnf)
  refine Exists.intro (fun _ => True) (And.intro ?_ (fun _ _ _ => ?_))
  · cases he : enO o r x y i c with
    | false =>
      have hw := en_no he
      have hz : ¬ enW o r x y i c ≠ BitVec.ofInt 32 0 := fun q => q hw
      repeat ((conv => whnf); first | refine sdO ?_ | refine nlO ?_ | refine goA ?_ | refine goB ?_ | (apply Exists.intro; (repeat apply Exists.intro); refine caO ?_) | (refine Or.inl ?_; (conv => whnf); (repeat apply Exists.intro); refine caO ?_) | (refine Or.inr ?_; (conv => whnf); first | ((repeat apply Exists.intro); refine caO ?_) | (refine Or.inl ?_; (conv => whnf); (repeat apply Exists.intro); refine caO ?_) | (refine Or.inr ?_; (conv => whnf); (repeat apply Exists.intro); refine caO ?_)) | refine And.intro (by assumption) ?_ | refine goT ?_ | refine goF ?_ | refine goL ?_ | refine goR ?_ | refine goRL ?_ | refine goRR ?_)
      all_goals try (conv => whnf)
      refine Enter.mk () trivial trivial ?_
      ((repeat' ((conv => whnf) <;> first | exact trivial | (with_reducible first | refine And.intro ?_ ?_ | refine rows_lt1 ?_ | refine rows_lt2 ?_ ?_ | refine rows_lt3 ?_ ?_ ?_ | refine rows_lt4 ?_ ?_ ?_ ?_ | refine rows_lt5 ?_ ?_ ?_ ?_ ?_ | refine aggs_lt1 ?_ | refine aggs_lt2 ?_ ?_ | refine aggs_lt3 ?_ ?_ ?_ | refine fun (_ : Nat) => ?_) | refine fun (_ : (_ : Nat) < _) => ?_ | exact rfl | exact Nat.le_of_ble_eq_true rfl | (change (_ : Nat) ≤ _; omega) | (change (_ : Nat) = _; omega) | (change (_ : Int) = _; omega))); (all_goals try (conv => whnf)))
    | true =>
      obtain ⟨hv, hq⟩ := en_yes he
      have hi : IsI (enW o r x y i c) := ⟨hv⟩
      repeat ((conv => whnf); first | refine sdO ?_ | refine nlO ?_ | refine goA ?_ | refine goB ?_ | (apply Exists.intro; (repeat apply Exists.intro); refine caO ?_) | (refine Or.inl ?_; (conv => whnf); (repeat apply Exists.intro); refine caO ?_) | (refine Or.inr ?_; (conv => whnf); first | ((repeat apply Exists.intro); refine caO ?_) | (refine Or.inl ?_; (conv => whnf); (repeat apply Exists.intro); refine caO ?_) | (refine Or.inr ?_; (conv => whnf); (repeat apply Exists.intro); refine caO ?_)) | refine And.intro (by assumption) ?_ | refine goT ?_ | refine goF ?_ | refine goL ?_ | refine goR ?_ | refine goRL ?_ | refine goRR ?_)
      all_goals try (conv => whnf)
      refine And.intro (fun q => bad q ?_) (fun _ => ?_)
      · rw [Bool.not_eq_false', ← hq]
        exact eqB_congr (six rfl rfl rfl rfl rfl rfl) (six rfl rfl rfl rfl rfl rfl)
      repeat ((conv => whnf); first | refine sdO ?_ | refine nlO ?_ | refine goA ?_ | refine goB ?_ | (apply Exists.intro; (repeat apply Exists.intro); refine caO ?_) | (refine Or.inl ?_; (conv => whnf); (repeat apply Exists.intro); refine caO ?_) | (refine Or.inr ?_; (conv => whnf); first | ((repeat apply Exists.intro); refine caO ?_) | (refine Or.inl ?_; (conv => whnf); (repeat apply Exists.intro); refine caO ?_) | (refine Or.inr ?_; (conv => whnf); (repeat apply Exists.intro); refine caO ?_)) | refine And.intro (by assumption) ?_ | refine goT ?_ | refine goF ?_ | refine goL ?_ | refine goR ?_ | refine goRL ?_ | refine goRR ?_)
      all_goals try (conv => whnf)
      refine Enter.mk () trivial trivial ?_
      ((repeat' ((conv => whnf) <;> first | exact trivial | (with_reducible first | refine And.intro ?_ ?_ | refine rows_lt1 ?_ | refine rows_lt2 ?_ ?_ | refine rows_lt3 ?_ ?_ ?_ | refine rows_lt4 ?_ ?_ ?_ ?_ | refine rows_lt5 ?_ ?_ ?_ ?_ ?_ | refine aggs_lt1 ?_ | refine aggs_lt2 ?_ ?_ | refine aggs_lt3 ?_ ?_ ?_ | refine fun (_ : Nat) => ?_) | refine fun (_ : (_ : Nat) < _) => ?_ | exact rfl | exact Nat.le_of_ble_eq_true rfl | (change (_ : Nat) ≤ _; omega) | (change (_ : Nat) = _; omega) | (change (_ : Int) = _; omega))); (all_goals try (conv => whnf)))
  cases hv : isV w with
  | false =>
    repeat ((conv => whnf); first | refine sdO ?_ | refine nlO ?_ | refine goA ?_ | refine goB ?_ | (apply Exists.intro; (repeat apply Exists.intro); refine caO ?_) | (refine Or.inl ?_; (conv => whnf); (repeat apply Exists.intro); refine caO ?_) | (refine Or.inr ?_; (conv => whnf); first | ((repeat apply Exists.intro); refine caO ?_) | (refine Or.inl ?_; (conv => whnf); (repeat apply Exists.intro); refine caO ?_) | (refine Or.inr ?_; (conv => whnf); (repeat apply Exists.intro); refine caO ?_)) | refine And.intro (by assumption) ?_ | refine goT ?_ | refine goF ?_ | refine goL ?_ | refine goR ?_ | refine goRL ?_ | refine goRR ?_)
    all_goals try (conv => whnf)
    ((repeat' ((conv => whnf) <;> first | exact trivial | (with_reducible first | refine And.intro ?_ ?_ | refine rows_lt1 ?_ | refine rows_lt2 ?_ ?_ | refine rows_lt3 ?_ ?_ ?_ | refine rows_lt4 ?_ ?_ ?_ ?_ | refine rows_lt5 ?_ ?_ ?_ ?_ ?_ | refine aggs_lt1 ?_ | refine aggs_lt2 ?_ ?_ | refine aggs_lt3 ?_ ?_ ?_ | refine fun (_ : Nat) => ?_) | refine fun (_ : (_ : Nat) < _) => ?_ | exact rfl | exact Nat.le_of_ble_eq_true rfl | (change (_ : Nat) ≤ _; omega) | (change (_ : Nat) = _; omega) | (change (_ : Int) = _; omega))); (all_goals try (conv => whnf)))
  | true =>
    have he := en_dc hv
    obtain ⟨hv2, hq⟩ := en_yes he
    have hi : IsI (enW (opV w) (fR w) (fA w) (fB w) (fI w) (fC w)) := ⟨hv2⟩
    repeat ((conv => whnf); first | refine sdO ?_ | refine nlO ?_ | refine goA ?_ | refine goB ?_ | (apply Exists.intro; (repeat apply Exists.intro); refine caO ?_) | (refine Or.inl ?_; (conv => whnf); (repeat apply Exists.intro); refine caO ?_) | (refine Or.inr ?_; (conv => whnf); first | ((repeat apply Exists.intro); refine caO ?_) | (refine Or.inl ?_; (conv => whnf); (repeat apply Exists.intro); refine caO ?_) | (refine Or.inr ?_; (conv => whnf); (repeat apply Exists.intro); refine caO ?_)) | refine And.intro (by assumption) ?_ | refine goT ?_ | refine goF ?_ | refine goL ?_ | refine goR ?_ | refine goRL ?_ | refine goRR ?_)
    all_goals try (conv => whnf)
    ((repeat' ((conv => whnf) <;> first | exact trivial | (with_reducible first | refine And.intro ?_ ?_ | refine rows_lt1 ?_ | refine rows_lt2 ?_ ?_ | refine rows_lt3 ?_ ?_ ?_ | refine rows_lt4 ?_ ?_ ?_ ?_ | refine rows_lt5 ?_ ?_ ?_ ?_ ?_ | refine aggs_lt1 ?_ | refine aggs_lt2 ?_ ?_ | refine aggs_lt3 ?_ ?_ ?_ | refine fun (_ : Nat) => ?_) | refine fun (_ : (_ : Nat) < _) => ?_ | exact rfl | exact Nat.le_of_ble_eq_true rfl | (change (_ : Nat) ≤ _; omega) | (change (_ : Nat) = _; omega) | (change (_ : Int) = _; omega))); (all_goals try (conv => whnf)))
    all_goals
      refine Eq.trans (b := eqB (dcA (enW (opV w) (fR w) (fA w) (fB w) (fI w) (fC w))) (insA (opV w) (fR w) (fA w) (fB w) (fI w) (fC w))) ?_ hq
      exact eqB_congr (six rfl rfl rfl rfl rfl rfl) (six rfl rfl rfl rfl rfl rfl)
end Go.Proofs.YtonggppknpbhiaaDoor
