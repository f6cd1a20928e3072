/- One-time signatures: all digits by the reference. -/
import Derived.Test.YtnfebaialdfffaaDoorOC
namespace Go.Proofs.YtnfebaialdfffaaDoor
open Go.RowKit
set_option maxRecDepth 100000
set_option maxHeartbeats 20000000
theorem wpos {w : Nat} (h : wOK w) : 1 ≤ w ∧ w ≤ 8 ∧ 256 / w ≤ 256 := by
  rcases h with rfl | rfl | rfl | rfl <;> decide
theorem ckN_zero (d : Nat → BitVec 8) (w : Nat) : ckN d w 0 = 0 := rfl
theorem ckN_succ (d : Nat → BitVec 8) (w k : Nat) : ckN d w (k + 1) = ckN d w k + (2 ^ w - 1 - cf d k w) := rfl
theorem ckB_step (d d' : Nat → BitVec 8) (w k : Nat) (hw : wOK w) (hk : k < 256 / w) (hd : ∀ j, j < 32 → d' j = d j) : BitVec.ofNat 64 (ckN d w k) + (BitVec.ofInt 64 1 <<< w - BitVec.ofInt 64 1 - BitVec.ofInt 64 ((dgF (8 * 32) (bitF d') w k : Nat) : Int)) = BitVec.ofNat 64 (ckN d w (k + 1)) := by
  have hi := idx_lt w k hw hk
  rw [dg_cf 32 d' w k hw hi, cf_cong hd w k hi, ckN_succ]
  have hc := cf_lt d k w
  generalize cf d k w = x at *
  generalize ckN d w k = c at *
  have hp : 2 ^ w ≤ 256 ∧ BitVec.ofInt 64 1 <<< w = BitVec.ofNat 64 (2 ^ w) := by
    rcases hw with rfl | rfl | rfl | rfl <;> exact ⟨by decide, by decide⟩
  rw [hp.2, show c + (2 ^ w - 1 - x) = c + (2 ^ w - 1 - x) from rfl]
  have h256 := hp.1
  generalize 2 ^ w = p at *
  apply BitVec.eq_of_toNat_eq
  simp only [BitVec.toNat_add, BitVec.toNat_sub, BitVec.toNat_ofNat, BitVec.toNat_ofInt]
  omega
theorem all_tx (d d' : Nat → BitVec 8) (c e : Nat) (hd : ∀ j, j < 32 → d' j = d j) (hc : c * 2 ^ e < 18446744073709551616) (j : Nat) (hj : j < 34) : at8 (lw (32 - 0) d' ++ lw 2 (at8 (be (BitVec.ofNat 64 c <<< e) 2))) j = tx d (c * 2 ^ e) j := by
  have ev : BitVec.ofNat 64 c <<< e = BitVec.ofNat 64 (c * 2 ^ e) := by
    apply BitVec.eq_of_toNat_eq
    rw [BitVec.toNat_shiftLeft, BitVec.toNat_ofNat, BitVec.toNat_ofNat, Nat.shiftLeft_eq, Nat.mod_mul_mod]
  rw [ev, lw_at8 _ 2 (be_len _ _), at8_app, lw_len]
  unfold tx
  have hb : ∀ k, byt (BitVec.ofNat 64 (c * 2 ^ e)) k = BitVec.ofNat 8 (c * 2 ^ e / 2 ^ (8 * k)) := fun k => by
    apply BitVec.eq_of_toNat_eq
    rw [byt_nat, BitVec.toNat_ofNat, BitVec.toNat_ofNat, Nat.mod_eq_of_lt (show c * 2 ^ e < 2 ^ 64 from hc)]
  by_cases h : j < 32
  · rw [if_pos (show j < 32 - 0 from h), if_pos h, at8_lw _ _ _ (show j < 32 - 0 from h), hd j h]
  · rw [if_neg (show ¬ j < 32 - 0 from h), if_neg h]
    by_cases e2 : j = 32
    · subst e2
      rw [if_pos rfl, at8_be _ _ _ (by decide), hb]
    · obtain rfl : j = 33 := by omega
      rw [if_neg e2, at8_be _ _ _ (by decide), hb]
      simp
attribute [local irreducible] hsh rst sha256 press dig tw tp tlS cf ckN dgF at8
def L_r5_All (t : BitVec 32) (d : Nat → BitVec 8) : LI := ⟨Nat, (· ≤ 256 / tw t), fun k => [(3, .ptr TD 8 []), (5, .nat (tw t)), (6, .nat (tp t)), (7, .nat (tlS t)), (8, .u64 (BitVec.ofNat 64 (ckN d (tw t) k))), (24, .gsl 3 4144 (256 / tw t)), (25, .nat (256 / tw t)), (26, .nat k)],
  fun k => [(8, .var TD (arr8 32 d)), (4144, .grow 3 (256 / tw t) (nts (dgF (8 * 32) (bitF fun x => d (0 + x)) (tw t))))], fun k => 256 / tw t - k, some, some⟩
def C_r5_All : SpecR := fun A K => ∃ t d, A [.u32 t, arr8 32 d] ∧ otOK t ∧ K (.gsl 3 8 (tp t)) [(8, .grow 3 (tp t) (nts (dgT t d)))]
theorem g_r5_All : Gd 10 (pureR ty C_r5_All) := by
  refine goodR (E := PG [(9, pureP ty C_r5_TableO), (29, pureR ty C_r5_Bits), (28, pureR ty C_r5_Digits), (31, pureP ty C_r1_Num), (30, pureR ty C_r1_Join_2)]) (pgOK ⟨g_r5_TableO, g_r5_Bits, g_r5_Digits, g_r1_Num, g_r1_Join_2, trivial⟩) mixes Tryd.func10 (by kernel_rfl) (by kernel_rfl) ?_
  rintro A K ⟨t, d, hA, ht, hK⟩
  obtain ⟨hw, hp1, hp2, hl7⟩ := ot_facts t ht
  obtain ⟨hw1, hw8, h256⟩ := wpos hw
  refine ⟨_, _, _, loops [(6, L_r5_All t d)], hA, hK, by kernel_rfl, by kernel_rfl, ⟨fun _ _ => trivial, trivial⟩, trivial, ?_⟩
  repeat ((conv => whnf); first | refine sdO ?_ | refine nlO ?_ | refine goA ?_ | refine goB ?_ | (apply Exists.intro; (repeat apply Exists.intro); refine caO ?_) | (refine Or.inl ?_; (conv => whnf); (repeat apply Exists.intro); refine caO ?_) | (refine Or.inr ?_; (conv => whnf); first | ((repeat apply Exists.intro); refine caO ?_) | (refine Or.inl ?_; (conv => whnf); (repeat apply Exists.intro); refine caO ?_) | (refine Or.inr ?_; (conv => whnf); (repeat apply Exists.intro); refine caO ?_)) | refine And.intro (by assumption) ?_ | refine goT ?_ | refine goF ?_ | refine goL ?_ | refine goR ?_ | refine goRL ?_ | refine goRR ?_)
  all_goals try (conv => whnf)
  refine And.intro (bitF_le _) ?_
  repeat ((conv => whnf); first | refine sdO ?_ | refine nlO ?_ | refine goA ?_ | refine goB ?_ | (apply Exists.intro; (repeat apply Exists.intro); refine caO ?_) | (refine Or.inl ?_; (conv => whnf); (repeat apply Exists.intro); refine caO ?_) | (refine Or.inr ?_; (conv => whnf); first | ((repeat apply Exists.intro); refine caO ?_) | (refine Or.inl ?_; (conv => whnf); (repeat apply Exists.intro); refine caO ?_) | (refine Or.inr ?_; (conv => whnf); (repeat apply Exists.intro); refine caO ?_)) | refine And.intro (by assumption) ?_ | refine goT ?_ | refine goF ?_ | refine goL ?_ | refine goR ?_ | refine goRL ?_ | refine goRR ?_)
  all_goals try (conv => whnf)
  refine Exists.intro (fun _ => True) (And.intro (Enter.mk (0 : Nat) (Nat.zero_le _) trivial ?_) (fun (k : Nat) (hk : k ≤ 256 / tw t) _ => ?_))
  · ((repeat' ((conv => whnf) <;> first | exact trivial | (with_reducible first | refine And.intro ?_ ?_ | refine rows_lt1 ?_ | refine rows_lt2 ?_ ?_ | refine rows_lt3 ?_ ?_ ?_ | refine rows_lt4 ?_ ?_ ?_ ?_ | refine rows_lt5 ?_ ?_ ?_ ?_ ?_ | refine aggs_lt1 ?_ | refine aggs_lt2 ?_ ?_ | refine aggs_lt3 ?_ ?_ ?_ | refine fun (_ : Nat) => ?_) | refine fun (_ : (_ : Nat) < _) => ?_ | exact rfl | exact Nat.le_of_ble_eq_true rfl | (change (_ : Nat) ≤ _; omega) | (change (_ : Nat) = _; omega) | (change (_ : Int) = _; omega))); (all_goals try (conv => whnf)))
    exact congrArg (BitVec.ofNat 64) (ckN_zero d (tw t)).symm
  rcases Nat.lt_or_ge k (256 / tw t) with h | h
  · have hi := idx_lt (tw t) k hw h
    repeat ((conv => whnf); first | refine sdO ?_ | refine nlO ?_ | refine goA ?_ | refine goB ?_ | (apply Exists.intro; (repeat apply Exists.intro); refine caO ?_) | (refine Or.inl ?_; (conv => whnf); (repeat apply Exists.intro); refine caO ?_) | (refine Or.inr ?_; (conv => whnf); first | ((repeat apply Exists.intro); refine caO ?_) | (refine Or.inl ?_; (conv => whnf); (repeat apply Exists.intro); refine caO ?_) | (refine Or.inr ?_; (conv => whnf); (repeat apply Exists.intro); refine caO ?_)) | refine And.intro (by assumption) ?_ | refine goT ?_ | refine goF ?_ | refine goL ?_ | refine goR ?_ | refine goRL ?_ | refine goRR ?_)
    all_goals try (conv => whnf)
    refine Again.mk (k + 1 : Nat) (show k + 1 ≤ 256 / tw t by omega) trivial (show 256 / tw t - (k + 1) < 256 / tw t - k by omega) ?_
    ((repeat' ((conv => whnf) <;> first | exact trivial | (with_reducible first | refine And.intro ?_ ?_ | refine rows_lt1 ?_ | refine rows_lt2 ?_ ?_ | refine rows_lt3 ?_ ?_ ?_ | refine rows_lt4 ?_ ?_ ?_ ?_ | refine rows_lt5 ?_ ?_ ?_ ?_ ?_ | refine aggs_lt1 ?_ | refine aggs_lt2 ?_ ?_ | refine aggs_lt3 ?_ ?_ ?_ | refine fun (_ : Nat) => ?_) | refine fun (_ : (_ : Nat) < _) => ?_ | exact rfl | exact Nat.le_of_ble_eq_true rfl | (change (_ : Nat) ≤ _; omega) | (change (_ : Nat) = _; omega) | (change (_ : Int) = _; omega))); (all_goals try (conv => whnf)))
    exact ckB_step d _ (tw t) k hw h (fun j _ => congrArg d (Nat.zero_add j))
  · obtain rfl : k = 256 / tw t := by omega
    repeat ((conv => whnf); first | refine sdO ?_ | refine nlO ?_ | refine goA ?_ | refine goB ?_ | (apply Exists.intro; (repeat apply Exists.intro); refine caO ?_) | (refine Or.inl ?_; (conv => whnf); (repeat apply Exists.intro); refine caO ?_) | (refine Or.inr ?_; (conv => whnf); first | ((repeat apply Exists.intro); refine caO ?_) | (refine Or.inl ?_; (conv => whnf); (repeat apply Exists.intro); refine caO ?_) | (refine Or.inr ?_; (conv => whnf); (repeat apply Exists.intro); refine caO ?_)) | refine And.intro (by assumption) ?_ | refine goT ?_ | refine goF ?_ | refine goL ?_ | refine goR ?_ | refine goRL ?_ | refine goRR ?_)
    all_goals try (conv => whnf)
    refine And.intro (bitF_le _) ?_
    repeat ((conv => whnf); first | refine sdO ?_ | refine nlO ?_ | refine goA ?_ | refine goB ?_ | (apply Exists.intro; (repeat apply Exists.intro); refine caO ?_) | (refine Or.inl ?_; (conv => whnf); (repeat apply Exists.intro); refine caO ?_) | (refine Or.inr ?_; (conv => whnf); first | ((repeat apply Exists.intro); refine caO ?_) | (refine Or.inl ?_; (conv => whnf); (repeat apply Exists.intro); refine caO ?_) | (refine Or.inr ?_; (conv => whnf); (repeat apply Exists.intro); refine caO ?_)) | refine And.intro (by assumption) ?_ | refine goT ?_ | refine goF ?_ | refine goL ?_ | refine goR ?_ | refine goRL ?_ | refine goRR ?_)
    all_goals try (conv => whnf)
    have hck : ckN d (tw t) (256 / tw t) ≤ 65280 := Nat.le_trans (ckN_le d (tw t) _) (Nat.mul_le_mul h256 (show 2 ^ tw t - 1 ≤ 255 by have := (pow_le (tw t) hw).1; omega))
    have hb := ck_shl _ (tlS t) hck hl7
    (refine out_fnd ?_; (repeat' ((conv => whnf) <;> first | exact trivial | (with_reducible first | refine And.intro ?_ ?_ | refine rows_lt1 ?_ | refine rows_lt2 ?_ ?_ | refine rows_lt3 ?_ ?_ ?_ | refine rows_lt4 ?_ ?_ ?_ ?_ | refine rows_lt5 ?_ ?_ ?_ ?_ ?_ | refine aggs_lt1 ?_ | refine aggs_lt2 ?_ ?_ | refine aggs_lt3 ?_ ?_ ?_ | refine fun (_ : Nat) => ?_) | refine fun (_ : (_ : Nat) < _) => ?_ | exact rfl | exact Nat.le_of_ble_eq_true rfl | (change (_ : Nat) ≤ _; omega) | (change (_ : Nat) = _; omega) | (change (_ : Int) = _; omega))); (all_goals try (conv => whnf)))
    rename_i i hi
    have hi2 := ot_idx t ht i hi
    refine (dg_cf 34 _ (tw t) i hw hi2).trans ?_
    unfold dgT
    exact cf_cong (fun j hj => all_tx d _ _ _ (fun j _ => congrArg d (Nat.zero_add j)) (by unfold N63 at hb; omega) j hj) _ _ hi2
end Go.Proofs.YtnfebaialdfffaaDoor
