/- LmsPaths. -/
import Derived.Test.YtnfebaialdfffaaDoorQH
import Derived.Test.YtnfebaialdfffaaDoorQS
namespace Go.Proofs.YtnfebaialdfffaaDoor
open Go.RowKit
set_option maxRecDepth 100000
set_option maxHeartbeats 20000000
section
attribute [local irreducible] hsh rst sha256 press dig valN mash fold digs ch tw tp tlS cf ckN dgT pubE upTo sgV sigB mashD clE mixA clK pubK st1 at8 hgN w4
def C_sn_PathP : SpecP := fun A K => ∃ a b id seed n nd q, A [snI a b id seed n nd, .u32 q] ∧ (n = 2 * 2 ^ hgN a ∧ hgOK a ∧ q < 1#32 <<< hgN a) ∧ K (dgsf (hgN a) fun i => nd (sib a q i))
theorem g_sn_PathP : Gd 14 (pureP ty C_sn_PathP) := by
  refine goodP (E := PG [(34, pureP ty C_sn_has), (35, pureP ty C_lms_HeightV), (36, pureP ty C_lms_leaves)]) (pgOK ⟨g_sn_has, g_lms_HeightV, g_lms_leaves, trivial⟩) mixes Tryd.func14 (by kernel_rfl) (by kernel_rfl) ?_
  rintro A K ⟨a, b, id, seed, n, nd, q, hA, ⟨hn, ha, hq⟩, hK⟩
  obtain ⟨h1, h2⟩ := hg_facts ha
  have hn0 : 0 < n := by have : 0 < 2 ^ hgN a := Nat.pow_pos (by decide); omega
  have hc : 0 < n ∧ hgOK a := ⟨hn0, ha⟩
  refine ⟨_, _, loops [(7, L_Path a b id seed n nd q)], hA, hK, by kernel_rfl, ⟨rfl, fun _ _ _ _ => trivial⟩, ?_⟩
  repeat ((conv => whnf); first | refine sdO ?_ | refine nlO ?_ | refine goA ?_ | refine goB ?_ | (apply Exists.intro; (repeat apply Exists.intro); refine caO ?_) | (refine Or.inl ?_; (conv => whnf); (repeat apply Exists.intro); refine caO ?_) | (refine Or.inr ?_; (conv => whnf); first | ((repeat apply Exists.intro); refine caO ?_) | (refine Or.inl ?_; (conv => whnf); (repeat apply Exists.intro); refine caO ?_) | (refine Or.inr ?_; (conv => whnf); (repeat apply Exists.intro); refine caO ?_)) | refine And.intro (by assumption) ?_ | refine goT ?_ | refine goF ?_ | refine goL ?_ | refine goR ?_ | refine goRL ?_ | refine goRR ?_)
  all_goals try (conv => whnf)
  refine Exists.intro (fun _ => True) (And.intro (Enter.mk (0 : Nat) (Nat.zero_le _) trivial ?_) (fun (k : Nat) (hk : k ≤ hgN a) _ => ?_))
  · ((repeat' ((conv => whnf) <;> first | exact trivial | (with_reducible first | refine And.intro ?_ ?_ | refine rows_lt1 ?_ | refine rows_lt2 ?_ ?_ | refine rows_lt3 ?_ ?_ ?_ | refine rows_lt4 ?_ ?_ ?_ ?_ | refine rows_lt5 ?_ ?_ ?_ ?_ ?_ | refine aggs_lt1 ?_ | refine aggs_lt2 ?_ ?_ | refine aggs_lt3 ?_ ?_ ?_ | refine fun (_ : Nat) => ?_) | refine fun (_ : (_ : Nat) < _) => ?_ | exact rfl | exact Nat.le_of_ble_eq_true rfl | (change (_ : Nat) ≤ _; omega) | (change (_ : Nat) = _; omega) | (change (_ : Int) = _; omega))); (all_goals try (conv => whnf)))
  rcases Nat.lt_or_ge k (hgN a) with h | h
  · have hs : (rr (1#32 <<< hgN a + q) k ^^^ BitVec.ofInt 32 1).toNat < n := by rw [hn]; exact sib_lt ha hq h
    repeat ((conv => whnf); first | refine sdO ?_ | refine nlO ?_ | refine goA ?_ | refine goB ?_ | (apply Exists.intro; (repeat apply Exists.intro); refine caO ?_) | (refine Or.inl ?_; (conv => whnf); (repeat apply Exists.intro); refine caO ?_) | (refine Or.inr ?_; (conv => whnf); first | ((repeat apply Exists.intro); refine caO ?_) | (refine Or.inl ?_; (conv => whnf); (repeat apply Exists.intro); refine caO ?_) | (refine Or.inr ?_; (conv => whnf); (repeat apply Exists.intro); refine caO ?_)) | refine And.intro (by assumption) ?_ | refine goT ?_ | refine goF ?_ | refine goL ?_ | refine goR ?_ | refine goRL ?_ | refine goRR ?_)
    all_goals try (conv => whnf)
    refine Again.mk (k + 1 : Nat) h trivial (show hgN a - (k + 1) < hgN a - k by omega) ?_
    ((repeat' ((conv => whnf) <;> first | exact trivial | (with_reducible first | refine And.intro ?_ ?_ | refine rows_lt1 ?_ | refine rows_lt2 ?_ ?_ | refine rows_lt3 ?_ ?_ ?_ | refine rows_lt4 ?_ ?_ ?_ ?_ | refine rows_lt5 ?_ ?_ ?_ ?_ ?_ | refine aggs_lt1 ?_ | refine aggs_lt2 ?_ ?_ | refine aggs_lt3 ?_ ?_ ?_ | refine fun (_ : Nat) => ?_) | refine fun (_ : (_ : Nat) < _) => ?_ | exact rfl | exact Nat.le_of_ble_eq_true rfl | (change (_ : Nat) ≤ _; omega) | (change (_ : Nat) = _; omega) | (change (_ : Int) = _; omega))); (all_goals try (conv => whnf)))
    rename_i j hj
    refine LeW_upN (fun _ => rfl) (fun e => ?_) (fun e => ?_)
    · subst e
      ((repeat' ((conv => whnf) <;> first | exact trivial | (with_reducible first | refine And.intro ?_ ?_ | refine rows_lt1 ?_ | refine rows_lt2 ?_ ?_ | refine rows_lt3 ?_ ?_ ?_ | refine rows_lt4 ?_ ?_ ?_ ?_ | refine rows_lt5 ?_ ?_ ?_ ?_ ?_ | refine aggs_lt1 ?_ | refine aggs_lt2 ?_ ?_ | refine aggs_lt3 ?_ ?_ ?_ | refine fun (_ : Nat) => ?_) | refine fun (_ : (_ : Nat) < _) => ?_ | exact rfl | exact Nat.le_of_ble_eq_true rfl | (change (_ : Nat) ≤ _; omega) | (change (_ : Nat) = _; omega) | (change (_ : Int) = _; omega))); (all_goals try (conv => whnf)))
      exact (congrFun (paM_y nd a q (Nat.lt_succ_self j)) _).symm
    · ((repeat' ((conv => whnf) <;> first | exact trivial | (with_reducible first | refine And.intro ?_ ?_ | refine rows_lt1 ?_ | refine rows_lt2 ?_ ?_ | refine rows_lt3 ?_ ?_ ?_ | refine rows_lt4 ?_ ?_ ?_ ?_ | refine rows_lt5 ?_ ?_ ?_ ?_ ?_ | refine aggs_lt1 ?_ | refine aggs_lt2 ?_ ?_ | refine aggs_lt3 ?_ ?_ ?_ | refine fun (_ : Nat) => ?_) | refine fun (_ : (_ : Nat) < _) => ?_ | exact rfl | exact Nat.le_of_ble_eq_true rfl | (change (_ : Nat) ≤ _; omega) | (change (_ : Nat) = _; omega) | (change (_ : Int) = _; omega))); (all_goals try (conv => whnf)))
      exact congrFun (paM_s nd a q e) _
  · obtain rfl : k = hgN a := by omega
    repeat ((conv => whnf); first | refine sdO ?_ | refine nlO ?_ | refine goA ?_ | refine goB ?_ | (apply Exists.intro; (repeat apply Exists.intro); refine caO ?_) | (refine Or.inl ?_; (conv => whnf); (repeat apply Exists.intro); refine caO ?_) | (refine Or.inr ?_; (conv => whnf); first | ((repeat apply Exists.intro); refine caO ?_) | (refine Or.inl ?_; (conv => whnf); (repeat apply Exists.intro); refine caO ?_) | (refine Or.inr ?_; (conv => whnf); (repeat apply Exists.intro); refine caO ?_)) | refine And.intro (by assumption) ?_ | refine goT ?_ | refine goF ?_ | refine goL ?_ | refine goR ?_ | refine goRL ?_ | refine goRR ?_)
    all_goals try (conv => whnf)
    ((repeat' ((conv => whnf) <;> first | exact trivial | (with_reducible first | refine And.intro ?_ ?_ | refine rows_lt1 ?_ | refine rows_lt2 ?_ ?_ | refine rows_lt3 ?_ ?_ ?_ | refine rows_lt4 ?_ ?_ ?_ ?_ | refine rows_lt5 ?_ ?_ ?_ ?_ ?_ | refine aggs_lt1 ?_ | refine aggs_lt2 ?_ ?_ | refine aggs_lt3 ?_ ?_ ?_ | refine fun (_ : Nat) => ?_) | refine fun (_ : (_ : Nat) < _) => ?_ | exact rfl | exact Nat.le_of_ble_eq_true rfl | (change (_ : Nat) ≤ _; omega) | (change (_ : Nat) = _; omega) | (change (_ : Int) = _; omega))); (all_goals try (conv => whnf)))
    rename_i j hj x _
    exact congrFun (paM_y nd a q hj) x
end
attribute [local irreducible] hsh rst sha256 press dig valN mash fold digs ch tw tp tlS cf ckN dgT pubE upTo sgV sigB mashD clE mixA clK pubK st1 at8 hgN w4 sib sgS gr2 rtEq pubS clM ndT
theorem nbQ {b : Bool} {p : Prop} (h2 : (!b) = true) (h1 : b = true) : p := by rw [h1] at h2; cases h2
abbrev a2 : BitVec 32 := BitVec.ofInt 32 3758096386
theorem a2_H : hgN a2 = 2 := by unfold hgN; decide
theorem a2_g : hgOK a2 := by unfold hgOK; decide
theorem b3_o : otOK (BitVec.ofInt 32 3) := by unfold otOK; decide
def qW (q : BitVec 8) : BitVec 32 := BitVec.setWidth 32 (q % BitVec.ofInt 8 4)
theorem qW_cases (q : BitVec 8) : qW q = 0#32 ∨ qW q = 1#32 ∨ qW q = 2#32 ∨ qW q = 3#32 := by
  have h : (q % BitVec.ofInt 8 4).toNat < 4 := by rw [BitVec.toNat_umod]; exact Nat.mod_lt _ (by decide)
  have e : ∀ n : Nat, n < 4 → (q % BitVec.ofInt 8 4).toNat = n → qW q = BitVec.ofNat 32 n := fun n hn h => BitVec.eq_of_toNat_eq (by
    unfold qW
    rw [BitVec.toNat_setWidth, h, BitVec.toNat_ofNat])
  rcases (show (q % BitVec.ofInt 8 4).toNat = 0 ∨ (q % BitVec.ofInt 8 4).toNat = 1 ∨ (q % BitVec.ofInt 8 4).toNat = 2 ∨ (q % BitVec.ofInt 8 4).toNat = 3 by omega) with h | h | h | h
  · exact .inl (e 0 (by decide) h)
  · exact .inr (.inl (e 1 (by decide) h))
  · exact .inr (.inr (.inl (e 2 (by decide) h)))
  · exact .inr (.inr (.inr (e 3 (by decide) h)))
theorem qW_sib (q : BitVec 8) : sib a2 (qW q) 1 = sib a2 (qW q ^^^ BitVec.ofInt 32 1) 1 ∧ sib a2 (qW q ^^^ BitVec.ofInt 32 1) 0 = 2 ^ 2 + (qW q).toNat ∧ qW q < 1#32 <<< hgN a2 ∧ qW q ^^^ BitVec.ofInt 32 1 < 1#32 <<< hgN a2 := by
  unfold sib
  rw [a2_H]
  rcases qW_cases q with h | h | h | h <;> rw [h] <;> decide
theorem z0 (f : Nat → BitVec 8) : lw (32 - 0) (fun x => f (0 + x)) = lw 32 f := lw_cong' fun j _ => by rw [Nat.zero_add]
theorem pa_1 (id seed : Nat → BitVec 8) (q : BitVec 8) : gr2 (BitVec.ofInt 32 3) id seed (hgN a2) 0 (sib a2 (qW q ^^^ BitVec.ofInt 32 1) 0) = at8 (leaf id (BitVec.ofInt 32 4 + qW q) (lw 32 (pubK (BitVec.ofInt 32 3) id (qW q) seed))) := by
  obtain ⟨_, e2, l1, _⟩ := qW_sib q
  have hlt : (qW q).toNat < 2 ^ 2 := by
    rcases qW_cases q with h | h | h | h <;> rw [h] <;> decide
  rw [e2, nd_gr (by omega), a2_H, ndT_leaf _ _ _ hlt]
  rw [show BitVec.ofNat 32 (qW q).toNat = qW q by simp, show BitVec.ofNat 32 (2 ^ 2 + (qW q).toNat) = BitVec.ofInt 32 4 + qW q by
    rcases qW_cases q with h | h | h | h <;> rw [h] <;> decide]
theorem pa_2 (id seed : Nat → BitVec 8) (q : BitVec 8) : clb id (qW q + 1#32 <<< hgN a2) (lw 32 (at8 (leaf id (BitVec.ofInt 32 4 + qW q) (lw 32 (pubK (BitVec.ofInt 32 3) id (qW q) seed))))) (fun i => gr2 (BitVec.ofInt 32 3) id seed (hgN a2) 0 (sib a2 (qW q) i)) (hgN a2) = lw 32 (ndT (BitVec.ofInt 32 3) id seed (hgN a2) 1) := by
  obtain ⟨_, e2, l1, _⟩ := qW_sib q
  rw [lw_at8 _ _ (leaf_len _ _ _), ← clb_root a2_g l1, BitVec.add_comm (qW q), show BitVec.ofInt 32 4 + qW q = 1#32 <<< hgN a2 + qW q by rw [a2_H]; rfl]
  exact clb_p _ _ _ fun i hi => by rw [nd_gr (sib_pos a2_g l1 hi)]
def C_l6_LmsPaths : SpecP := fun A K => ∃ id seed q, A [arr8 16 id, arr8 32 seed, .u8 q] ∧ K (.bo true)
end Go.Proofs.YtnfebaialdfffaaDoor
