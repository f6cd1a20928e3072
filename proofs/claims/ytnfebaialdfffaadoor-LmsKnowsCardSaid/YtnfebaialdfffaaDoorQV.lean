/- lms: a signer whose map is known: Sign, Knows. -/
import Derived.Test.YtnfebaialdfffaaDoorQU
namespace Go.Proofs.YtnfebaialdfffaaDoor
open Go.RowKit
set_option maxRecDepth 100000
set_option maxHeartbeats 20000000
theorem mash_K (id : Nat → BitVec 8) (q : BitVec 32) (c : Nat → BitVec 8) (l : Nat) (m : Nat → BitVec 8) : at8 (mash id q (lw 32 c) (lw l m)) = mashD id q c l m := rfl
section
attribute [local irreducible] hsh rst sha256 press dig tw tp tlS cf ckN
def C_ots_DigitsF : SpecP := fun A K => ∃ t d, A [.u32 t, arr8 32 d] ∧ otOK t ∧ K (.imm true (.int .i64) (tp t) (nts (dgT t d)))
theorem g_ots_DigitsF : Gd 24 (pureP ty C_ots_DigitsF) := by
  refine goodP (E := PG [(33, pureP ty C_ots_Params), (45, pureP ty C_ots_cks), (46, pureP ty C_ots_Coef)]) (pgOK ⟨g_ots_Params, g_ots_cks, g_ots_Coef, trivial⟩) mixes Tryd.func24 (by kernel_rfl) (by kernel_rfl) ?_
  rintro A K ⟨t, d, hA, ht, hK⟩
  obtain ⟨hw, hp1, hp2, hl7⟩ := ot_facts t ht
  refine ⟨_, _, loops [(8, L_Digits t d)], hA, hK, by kernel_rfl, ⟨rfl, fun _ _ => trivial⟩, ?_⟩
  repeat ((conv => whnf); first | refine sdO ?_ | refine nlO ?_ | refine goA ?_ | refine goB ?_ | (apply Exists.intro; (repeat apply Exists.intro); refine caO ?_) | (refine Or.inl ?_; (conv => whnf); (repeat apply Exists.intro); refine caO ?_) | (refine Or.inr ?_; (conv => whnf); first | ((repeat apply Exists.intro); refine caO ?_) | (refine Or.inl ?_; (conv => whnf); (repeat apply Exists.intro); refine caO ?_) | (refine Or.inr ?_; (conv => whnf); (repeat apply Exists.intro); refine caO ?_)) | refine And.intro (by assumption) ?_ | refine goT ?_ | refine goF ?_ | refine goL ?_ | refine goR ?_ | refine goRL ?_ | refine goRR ?_)
  all_goals try (conv => whnf)
  refine Exists.intro (fun _ => True) (And.intro (Enter.mk (0 : Nat) (Nat.zero_le _) trivial ?_) (fun (k : Nat) (hk : k ≤ tp t) _ => ?_))
  · ((repeat' ((conv => whnf) <;> first | exact trivial | (with_reducible first | refine And.intro ?_ ?_ | refine rows_lt1 ?_ | refine rows_lt2 ?_ ?_ | refine rows_lt3 ?_ ?_ ?_ | refine rows_lt4 ?_ ?_ ?_ ?_ | refine rows_lt5 ?_ ?_ ?_ ?_ ?_ | refine aggs_lt1 ?_ | refine aggs_lt2 ?_ ?_ | refine aggs_lt3 ?_ ?_ ?_ | refine fun (_ : Nat) => ?_) | refine fun (_ : (_ : Nat) < _) => ?_ | exact rfl | exact Nat.le_of_ble_eq_true rfl | (change (_ : Nat) ≤ _; omega) | (change (_ : Nat) = _; omega) | (change (_ : Int) = _; omega))); (all_goals try (conv => whnf)))
    rename_i x hx
    exact tx_fin d (ckN d (tw t) (256 / tw t) * 2 ^ tlS t) x (fun i => asU8 (litA (.int .u8) [(0, .u8 (BitVec.ofNat 8 (ckN d (tw t) (256 / tw t) * 2 ^ tlS t / 256))), (1, .u8 (BitVec.ofNat 8 (ckN d (tw t) (256 / tw t) * 2 ^ tlS t)))] i)) rfl rfl hx
  rcases Nat.lt_or_ge k (tp t) with h | h
  · have hi := ot_idx t ht k h
    have hk2 : k ≤ 1000000000 := by omega
    repeat ((conv => whnf); first | refine sdO ?_ | refine nlO ?_ | refine goA ?_ | refine goB ?_ | (apply Exists.intro; (repeat apply Exists.intro); refine caO ?_) | (refine Or.inl ?_; (conv => whnf); (repeat apply Exists.intro); refine caO ?_) | (refine Or.inr ?_; (conv => whnf); first | ((repeat apply Exists.intro); refine caO ?_) | (refine Or.inl ?_; (conv => whnf); (repeat apply Exists.intro); refine caO ?_) | (refine Or.inr ?_; (conv => whnf); (repeat apply Exists.intro); refine caO ?_)) | refine And.intro (by assumption) ?_ | refine goT ?_ | refine goF ?_ | refine goL ?_ | refine goR ?_ | refine goRL ?_ | refine goRR ?_)
    all_goals try (conv => whnf)
    refine Again.mk (k + 1 : Nat) (show k + 1 ≤ tp t by omega) trivial (show tp t - (k + 1) < tp t - k by omega) ?_
    ((repeat' ((conv => whnf) <;> first | exact trivial | (with_reducible first | refine And.intro ?_ ?_ | refine rows_lt1 ?_ | refine rows_lt2 ?_ ?_ | refine rows_lt3 ?_ ?_ ?_ | refine rows_lt4 ?_ ?_ ?_ ?_ | refine rows_lt5 ?_ ?_ ?_ ?_ ?_ | refine aggs_lt1 ?_ | refine aggs_lt2 ?_ ?_ | refine aggs_lt3 ?_ ?_ ?_ | refine fun (_ : Nat) => ?_) | refine fun (_ : (_ : Nat) < _) => ?_ | exact rfl | exact Nat.le_of_ble_eq_true rfl | (change (_ : Nat) ≤ _; omega) | (change (_ : Nat) = _; omega) | (change (_ : Int) = _; omega))); (all_goals try (conv => whnf)))
    rename_i j hj
    refine LeW_updN (fun _ => rfl) (fun e => ?_) (fun e => ?_)
    · subst e
      ((repeat' ((conv => whnf) <;> first | exact trivial | (with_reducible first | refine And.intro ?_ ?_ | refine rows_lt1 ?_ | refine rows_lt2 ?_ ?_ | refine rows_lt3 ?_ ?_ ?_ | refine rows_lt4 ?_ ?_ ?_ ?_ | refine rows_lt5 ?_ ?_ ?_ ?_ ?_ | refine aggs_lt1 ?_ | refine aggs_lt2 ?_ ?_ | refine aggs_lt3 ?_ ?_ ?_ | refine fun (_ : Nat) => ?_) | refine fun (_ : (_ : Nat) < _) => ?_ | exact rfl | exact Nat.le_of_ble_eq_true rfl | (change (_ : Nat) ≤ _; omega) | (change (_ : Nat) = _; omega) | (change (_ : Int) = _; omega))); (all_goals try (conv => whnf)))
      exact (if_pos (Nat.lt_succ_self j)).symm
    · ((repeat' ((conv => whnf) <;> first | exact trivial | (with_reducible first | refine And.intro ?_ ?_ | refine rows_lt1 ?_ | refine rows_lt2 ?_ ?_ | refine rows_lt3 ?_ ?_ ?_ | refine rows_lt4 ?_ ?_ ?_ ?_ | refine rows_lt5 ?_ ?_ ?_ ?_ ?_ | refine aggs_lt1 ?_ | refine aggs_lt2 ?_ ?_ | refine aggs_lt3 ?_ ?_ ?_ | refine fun (_ : Nat) => ?_) | refine fun (_ : (_ : Nat) < _) => ?_ | exact rfl | exact Nat.le_of_ble_eq_true rfl | (change (_ : Nat) ≤ _; omega) | (change (_ : Nat) = _; omega) | (change (_ : Int) = _; omega))); (all_goals try (conv => whnf)))
      exact dg_next _ _ _ e
  · obtain rfl : k = tp t := by omega
    repeat ((conv => whnf); first | refine sdO ?_ | refine nlO ?_ | refine goA ?_ | refine goB ?_ | (apply Exists.intro; (repeat apply Exists.intro); refine caO ?_) | (refine Or.inl ?_; (conv => whnf); (repeat apply Exists.intro); refine caO ?_) | (refine Or.inr ?_; (conv => whnf); first | ((repeat apply Exists.intro); refine caO ?_) | (refine Or.inl ?_; (conv => whnf); (repeat apply Exists.intro); refine caO ?_) | (refine Or.inr ?_; (conv => whnf); (repeat apply Exists.intro); refine caO ?_)) | refine And.intro (by assumption) ?_ | refine goT ?_ | refine goF ?_ | refine goL ?_ | refine goR ?_ | refine goRL ?_ | refine goRR ?_)
    all_goals try (conv => whnf)
    ((repeat' ((conv => whnf) <;> first | exact trivial | (with_reducible first | refine And.intro ?_ ?_ | refine rows_lt1 ?_ | refine rows_lt2 ?_ ?_ | refine rows_lt3 ?_ ?_ ?_ | refine rows_lt4 ?_ ?_ ?_ ?_ | refine rows_lt5 ?_ ?_ ?_ ?_ ?_ | refine aggs_lt1 ?_ | refine aggs_lt2 ?_ ?_ | refine aggs_lt3 ?_ ?_ ?_ | refine fun (_ : Nat) => ?_) | refine fun (_ : (_ : Nat) < _) => ?_ | exact rfl | exact Nat.le_of_ble_eq_true rfl | (change (_ : Nat) ≤ _; omega) | (change (_ : Nat) = _; omega) | (change (_ : Int) = _; omega))); (all_goals try (conv => whnf)))
    all_goals (rename_i x hx; exact if_pos hx)
end
attribute [local irreducible] hsh rst sha256 press dig valN mash fold digs ch tw tp tlS cf ckN dgT pubE upTo sgV sigB mashD clE mixA clK pubK st1 at8 hgN w4 sib sgS gr2 ndT gr1
/-- A signer behind a pointer: itself, its nodes, the map of what it has signed. -/
abbrev snV (a b : BitVec 32) (id seed : Nat → BitVec 8) (n : Nat) (nd : Nat → Nat → BitVec 8) (r : Row) : List (Nat × Row) :=
  [(0, snR a b id seed (.gsl 23 1 n) (.vmt 2)), (1, .grow 23 n (dgA nd)), (2, r)]
theorem own_snV (a b : BitVec 32) (id seed : Nat → BitVec 8) (n : Nat) (nd : Nat → Nat → BitVec 8) : OwnRws (snV a b id seed n nd vm0) :=
  ⟨own_sv a b id seed (.gsl 23 1 n) trivial 2, fun _ _ _ _ => trivial, own_v0, trivial⟩
def C_sn_LeftV : SpecM := fun A K => ∃ a b id seed n nd, A [.ptr TSn 0 []] (snV a b id seed n nd vm0) ∧ (0 < n ∧ hgOK a) ∧ K (.int ((2 ^ hgN a : Nat) : Int)) (snV a b id seed n nd vm0)
theorem g_sn_LeftV : Gd 17 (mutD ty [true] C_sn_LeftV) := by
  refine goodD (E := PG [(22, pureP ty C_sn_missing), (36, pureP ty C_lms_leaves)]) (pgOK ⟨g_sn_missing, g_lms_leaves, trivial⟩) mixes Tryd.func17 (by kernel_rfl) (by kernel_rfl) ?_
  rintro A K ⟨a, b, id, seed, n, nd, hA, ⟨hn, ha⟩, hK⟩
  have hl := lf_nat ha
  have hi := i64_lf ha (Nat.zero_le _)
  refine ⟨_, _, _, _, fun _ => none, hA, hK, by kernel_rfl, by kernel_rfl, ⟨trivial, rfl, trivial, trivial⟩, own_snV _ _ _ _ _ _, trivial, ?_⟩
  repeat ((conv => whnf); first | refine sdO ?_ | refine nlO ?_ | refine goA ?_ | refine goB ?_ | (apply Exists.intro; (repeat apply Exists.intro); refine caO ?_) | (refine Or.inl ?_; (conv => whnf); (repeat apply Exists.intro); refine caO ?_) | (refine Or.inr ?_; (conv => whnf); first | ((repeat apply Exists.intro); refine caO ?_) | (refine Or.inl ?_; (conv => whnf); (repeat apply Exists.intro); refine caO ?_) | (refine Or.inr ?_; (conv => whnf); (repeat apply Exists.intro); refine caO ?_)) | refine And.intro (by assumption) ?_ | refine goT ?_ | refine goF ?_ | refine goL ?_ | refine goR ?_ | refine goRL ?_ | refine goRR ?_)
  all_goals try (conv => whnf)
  refine ⟨some, ?_⟩
  ((repeat' ((conv => whnf) <;> first | exact trivial | (with_reducible first | refine And.intro ?_ ?_ | refine rows_lt1 ?_ | refine rows_lt2 ?_ ?_ | refine rows_lt3 ?_ ?_ ?_ | refine rows_lt4 ?_ ?_ ?_ ?_ | refine rows_lt5 ?_ ?_ ?_ ?_ ?_ | refine aggs_lt1 ?_ | refine aggs_lt2 ?_ ?_ | refine aggs_lt3 ?_ ?_ ?_ | refine fun (_ : Nat) => ?_) | refine fun (_ : (_ : Nat) < _) => ?_ | exact rfl | exact Nat.le_of_ble_eq_true rfl | (change (_ : Nat) ≤ _; omega) | (change (_ : Nat) = _; omega) | (change (_ : Int) = _; omega))); (all_goals try (conv => whnf)))
abbrev rcT (b : BitVec 32) (id x : Nat → BitVec 8) (l : Nat) (m : Nat → BitVec 8) : Row := .ob (.vm TRec 1 fun i => bif Nat.beq i 0 then rcA true x l m (tp b) (dgT b (mashD id 0 x l m)) else .junk)
def C_sn_SignV : SpecM := fun A K => ∃ a b id seed n nd x l m, A [.ptr TSn 0 [], arr8 32 x, bsl l m] (snV a b id seed n nd vm0) ∧ (n = 2 * 2 ^ hgN a ∧ hgOK a ∧ otOK b ∧ l ≤ 1000000000) ∧
  K (tupOf [.gsl 5 8 (44 + 32 * tp b + 32 * hgN a), .nat 0]) (snV a b id seed n nd (rcT b id x l m) ++ [(8, .grow 5 (44 + 32 * tp b + 32 * hgN a) (bys (sgS a b id seed nd 0 x l m)))])
theorem g_sn_SignV : Gd 8 (mutD ty [true, false, false] C_sn_SignV) := by
  refine goodD (E := PG [(22, pureP ty C_sn_missing), (17, mutD ty [true] C_sn_LeftV), (23, pureP ty C_bytes_Clone), (26, pureP ty C_lms_site), (25, pureP ty C_ots_Mash), (24, pureP ty C_ots_DigitsF), (27, pureR ty C_sn_sig)]) (pgOK ⟨g_sn_missing, g_sn_LeftV, g_bytes_Clone, g_lms_site, g_ots_Mash, g_ots_DigitsF, g_sn_sig, trivial⟩) mixes Tryd.func8 (by kernel_rfl) (by kernel_rfl) ?_
  rintro A K ⟨a, b, id, seed, n, nd, x, l, m, hA, ⟨hn, ha, hb, hl⟩, hK⟩
  have hp0 : 0 < 2 ^ hgN a := Nat.pow_pos (by decide)
  have hn0 : 0 < n := by omega
  have hq : 0 < n ∧ hgOK a := ⟨hn0, ha⟩
  have hz : ¬ ((2 ^ hgN a : Nat) : Int) = 0 := by omega
  have hlt : BitVec.ofNat 32 0 < 1#32 <<< hgN a := by
    rw [BitVec.lt_def, lf_nat ha]; exact hp0
  have hs : n = 2 * 2 ^ hgN a ∧ hgOK a ∧ BitVec.ofNat 32 0 < 1#32 <<< hgN a ∧ otOK b ∧ l ≤ 1000000000 := ⟨hn, ha, hlt, hb, hl⟩
  refine ⟨_, _, _, _, fun _ => none, hA, hK, by kernel_rfl, by kernel_rfl, ⟨trivial, rfl, trivial, trivial, trivial⟩, ⟨own_sv a b id seed (.gsl 23 1 n) trivial 2, fun _ _ _ _ => trivial, ?_, fun _ _ => trivial, trivial⟩, own_res trivial trivial, ?_⟩
  · intro i hi
    obtain rfl : i = 0 := by omega
    intro j hj
    rcases j with _ | _ | _ | j
    · exact fun _ _ => trivial
    · exact ⟨rfl, fun _ _ => trivial⟩
    · exact ⟨rfl, fun _ _ => trivial⟩
    · exact absurd hj (by show ¬ j + 3 < 3; omega)
  repeat ((conv => whnf); first | refine sdO ?_ | refine nlO ?_ | refine goA ?_ | refine goB ?_ | (apply Exists.intro; (repeat apply Exists.intro); refine caO ?_) | (refine Or.inl ?_; (conv => whnf); (repeat apply Exists.intro); refine caO ?_) | (refine Or.inr ?_; (conv => whnf); first | ((repeat apply Exists.intro); refine caO ?_) | (refine Or.inl ?_; (conv => whnf); (repeat apply Exists.intro); refine caO ?_) | (refine Or.inr ?_; (conv => whnf); (repeat apply Exists.intro); refine caO ?_)) | refine And.intro (by assumption) ?_ | refine goT ?_ | refine goF ?_ | refine goL ?_ | refine goR ?_ | refine goRL ?_ | refine goRR ?_)
  all_goals try (conv => whnf)
  (refine out_fnd ?_; (repeat' ((conv => whnf) <;> first | exact trivial | (with_reducible first | refine And.intro ?_ ?_ | refine rows_lt1 ?_ | refine rows_lt2 ?_ ?_ | refine rows_lt3 ?_ ?_ ?_ | refine rows_lt4 ?_ ?_ ?_ ?_ | refine rows_lt5 ?_ ?_ ?_ ?_ ?_ | refine aggs_lt1 ?_ | refine aggs_lt2 ?_ ?_ | refine aggs_lt3 ?_ ?_ ?_ | refine fun (_ : Nat) => ?_) | refine fun (_ : (_ : Nat) < _) => ?_ | exact rfl | exact Nat.le_of_ble_eq_true rfl | (change (_ : Nat) ≤ _; omega) | (change (_ : Nat) = _; omega) | (change (_ : Int) = _; omega))); (all_goals try (conv => whnf)))
  refine congrArg (Ob.vm TRec 1) (funext fun i => ?_)
  rcases i with _ | i
  · refine congrArg (AV.agg false 3) (funext fun j => ?_)
    rcases j with _ | _ | _ | j
    · exact rfl
    · exact congrArg (AV.imm true (.int .u8) l) (funext fun _ => rfl)
    · exact congrArg (AV.imm true (.int .i64) (tp b)) (funext fun i => congrArg (fun D => AV.nat (dgT b D i)) (mash_K id 0#32 x l m))
    · exact rfl
  · exact rfl
end Go.Proofs.YtnfebaialdfffaaDoor
