/- lms: a signer whose map is known: New, Sign. -/
import Derived.Test.YtnfebaialdfffaaDoorQE
import Derived.Test.YtnfebaialdfffaaDoorOD
namespace Go.Proofs.YtnfebaialdfffaaDoor
open Go.RowKit
set_option maxRecDepth 100000
set_option maxHeartbeats 20000000
attribute [local irreducible] hsh rst sha256 press dig valN mash fold digs ch tw tp tlS cf ckN dgT pubE upTo sgV sigB mashD clE mixA clK pubK st1 at8 hgN w4 sib sgS gr2 ndT gr1
abbrev TRec : Ty := ty 72
/-- What is noted of a signature. -/
abbrev rcA (fr : Bool) (x : Nat → BitVec 8) (l : Nat) (m : Nat → BitVec 8) (n : Nat) (d : Nat → Nat) : AV := .agg false 3 (nth .junk [arr8 32 x, .imm fr (.int .u8) l (bys m), .imm fr (.int .i64) n (nts d)])
abbrev vm0 : Row := .ob (.vm TRec 0 fun _ => .junk)
theorem own_sv (a b : BitVec 32) (id seed : Nat → BitVec 8) (nodes : AV) (h : Own nodes) (q : Nat) : OwnRow (snR a b id seed nodes (.vmt q)) := by
  intro i hi
  rcases i with _ | _ | _ | _ | i
  · exact own_ke a b id
  · exact fun _ _ => trivial
  · exact h
  · exact trivial
  · exact absurd hi (by show ¬ i + 4 < 4; omega)
theorem own_v0 : OwnRow vm0 := fun i hi => absurd hi (Nat.not_lt_zero i)
def C_sn_growV : SpecM := fun A K => ∃ a b id seed, A [.ptr TSn 0 []] [(0, snR a b id seed .nils (.vmt 1)), (1, vm0)] ∧ (hgOK a ∧ otOK b) ∧ K (.tup 0 fun _ => .junk) [(0, snR a b id seed (.gsl 23 8 (2 * 2 ^ hgN a)) (.vmt 1)), (1, vm0), (8, .grow 23 (2 * 2 ^ hgN a) (dgA (gr2 b id seed (hgN a) 0)))]
def L_gv1 (a b : BitVec 32) (id seed : Nat → BitVec 8) : LI := ⟨Nat, (· ≤ 2 ^ hgN a), fun k => [(0, .ptr TSn 0 []), (2, .u32 (1#32 <<< hgN a)), (18, .u32 (1#32 <<< hgN a)), (19, .u32 (BitVec.ofNat 32 k))],
  fun k => [(0, snR a b id seed (.gsl 23 1056 (2 * 2 ^ hgN a)) (.vmt 1)), (1, vm0), (1056, .grow 23 (2 * 2 ^ hgN a) (dgA (gr1 b id seed (hgN a) k)))], fun k => 2 ^ hgN a - k, some, some⟩
def L_gv2 (a b : BitVec 32) (id seed : Nat → BitVec 8) : LI := ⟨Nat, (· < 2 ^ hgN a), fun r => [(0, .ptr TSn 0 []), (6, .u32 (BitVec.ofNat 32 r))],
  fun r => [(0, snR a b id seed (.gsl 23 1056 (2 * 2 ^ hgN a)) (.vmt 1)), (1, vm0), (1056, .grow 23 (2 * 2 ^ hgN a) (dgA (gr2 b id seed (hgN a) r)))], fun r => r, some, some⟩
theorem g_sn_growV : Gd 44 (mutD ty [true] C_sn_growV) := by
  refine goodD (E := PG [(36, pureP ty C_lms_leaves), (26, pureP ty C_lms_site), (56, pureP ty C_ots_Public), (57, pureP ty C_lms_Leaf), (58, pureP ty C_lms_Node)]) (pgOK ⟨g_lms_leaves, g_lms_site, g_ots_Public, g_lms_Leaf, g_lms_Node, trivial⟩) mixes Tryd.func44 (by kernel_rfl) (by kernel_rfl) ?_
  rintro A K ⟨a, b, id, seed, hA, ⟨ha, hb⟩, hK⟩
  obtain ⟨h1, h2⟩ := hg_facts ha
  have hp : 2 ^ hgN a ≤ 2 ^ 25 := Nat.pow_le_pow_right (by decide) h2
  have hp' : (2 : Nat) ^ 25 = 33554432 := by decide
  have hn := two_lf ha
  refine ⟨_, _, _, _, loops [(3, L_gv1 a b id seed), (9, L_gv2 a b id seed)], hA, hK, by kernel_rfl, by kernel_rfl, ⟨trivial, trivial, trivial, trivial⟩, ⟨?_, own_v0, fun _ _ _ _ => trivial, trivial⟩, fun _ h => absurd h (Nat.not_lt_zero _), ?_⟩
  · exact own_sv a b id seed (.gsl 23 8 (2 * 2 ^ hgN a)) trivial 1
  repeat ((conv => whnf); first | refine sdO ?_ | refine nlO ?_ | refine goA ?_ | refine goB ?_ | (apply Exists.intro; (repeat apply Exists.intro); refine caO ?_) | (refine Or.inl ?_; (conv => whnf); (repeat apply Exists.intro); refine caO ?_) | (refine Or.inr ?_; (conv => whnf); first | ((repeat apply Exists.intro); refine caO ?_) | (refine Or.inl ?_; (conv => whnf); (repeat apply Exists.intro); refine caO ?_) | (refine Or.inr ?_; (conv => whnf); (repeat apply Exists.intro); refine caO ?_)) | refine And.intro (by assumption) ?_ | refine goT ?_ | refine goF ?_ | refine goL ?_ | refine goR ?_ | refine goRL ?_ | refine goRR ?_)
  all_goals try (conv => whnf)
  refine Exists.intro (fun _ => True) (And.intro (Enter.mk (0 : Nat) (Nat.zero_le _) trivial ?_) (fun (k : Nat) (hk : k ≤ 2 ^ hgN a) _ => ?_))
  · ((repeat' ((conv => whnf) <;> first | exact trivial | (with_reducible first | refine And.intro ?_ ?_ | refine rows_lt1 ?_ | refine rows_lt2 ?_ ?_ | refine rows_lt3 ?_ ?_ ?_ | refine rows_lt4 ?_ ?_ ?_ ?_ | refine rows_lt5 ?_ ?_ ?_ ?_ ?_ | refine aggs_lt1 ?_ | refine aggs_lt2 ?_ ?_ | refine aggs_lt3 ?_ ?_ ?_ | refine fun (_ : Nat) => ?_) | refine fun (_ : (_ : Nat) < _) => ?_ | exact rfl | exact Nat.le_of_ble_eq_true rfl | (change (_ : Nat) ≤ _; omega) | (change (_ : Nat) = _; omega) | (change (_ : Int) = _; omega))); (all_goals try (conv => whnf)))
    · rw [gr1_0]
  have hl := lf_nat ha
  rcases Nat.lt_or_ge k (2 ^ hgN a) with h | h
  · have hk2 : BitVec.ofNat 32 k < 1#32 <<< hgN a := by
      rw [BitVec.lt_def, hl, BitVec.toNat_ofNat, Nat.mod_eq_of_lt (by omega)]
      exact h
    have hi : (1#32 <<< hgN a + BitVec.ofNat 32 k).toNat = 2 ^ hgN a + k := by
      rw [BitVec.toNat_add, hl, BitVec.toNat_ofNat, Nat.mod_eq_of_lt (a := k) (by omega), Nat.mod_eq_of_lt (by omega)]
    have hi2 : (1#32 <<< hgN a + BitVec.ofNat 32 k).toNat < 2 * 2 ^ hgN a := by omega
    repeat ((conv => whnf); first | refine sdO ?_ | refine nlO ?_ | refine goA ?_ | refine goB ?_ | (apply Exists.intro; (repeat apply Exists.intro); refine caO ?_) | (refine Or.inl ?_; (conv => whnf); (repeat apply Exists.intro); refine caO ?_) | (refine Or.inr ?_; (conv => whnf); first | ((repeat apply Exists.intro); refine caO ?_) | (refine Or.inl ?_; (conv => whnf); (repeat apply Exists.intro); refine caO ?_) | (refine Or.inr ?_; (conv => whnf); (repeat apply Exists.intro); refine caO ?_)) | refine And.intro (by assumption) ?_ | refine goT ?_ | refine goF ?_ | refine goL ?_ | refine goR ?_ | refine goRL ?_ | refine goRR ?_)
    all_goals try (conv => whnf)
    refine Again.mk (k + 1 : Nat) h trivial (show 2 ^ hgN a - (k + 1) < 2 ^ hgN a - k by omega) ?_
    ((repeat' ((conv => whnf) <;> first | exact trivial | (with_reducible first | refine And.intro ?_ ?_ | refine rows_lt1 ?_ | refine rows_lt2 ?_ ?_ | refine rows_lt3 ?_ ?_ ?_ | refine rows_lt4 ?_ ?_ ?_ ?_ | refine rows_lt5 ?_ ?_ ?_ ?_ ?_ | refine aggs_lt1 ?_ | refine aggs_lt2 ?_ ?_ | refine aggs_lt3 ?_ ?_ ?_ | refine fun (_ : Nat) => ?_) | refine fun (_ : (_ : Nat) < _) => ?_ | exact rfl | exact Nat.le_of_ble_eq_true rfl | (change (_ : Nat) ≤ _; omega) | (change (_ : Nat) = _; omega) | (change (_ : Int) = _; omega))); (all_goals try (conv => whnf)))
    · rename_i j hj
      refine LeW_upN (fun _ => rfl) (fun e => ?_) (fun e => ?_)
      · rw [hi] at e
        subst e
        have e2 : 1#32 <<< hgN a + BitVec.ofNat 32 k = BitVec.ofNat 32 (2 ^ hgN a + k) := BitVec.eq_of_toNat_eq (by rw [hi, BitVec.toNat_ofNat, Nat.mod_eq_of_lt (by omega)])
        ((repeat' ((conv => whnf) <;> first | exact trivial | (with_reducible first | refine And.intro ?_ ?_ | refine rows_lt1 ?_ | refine rows_lt2 ?_ ?_ | refine rows_lt3 ?_ ?_ ?_ | refine rows_lt4 ?_ ?_ ?_ ?_ | refine rows_lt5 ?_ ?_ ?_ ?_ ?_ | refine aggs_lt1 ?_ | refine aggs_lt2 ?_ ?_ | refine aggs_lt3 ?_ ?_ ?_ | refine fun (_ : Nat) => ?_) | refine fun (_ : (_ : Nat) < _) => ?_ | exact rfl | exact Nat.le_of_ble_eq_true rfl | (change (_ : Nat) ≤ _; omega) | (change (_ : Nat) = _; omega) | (change (_ : Int) = _; omega))); (all_goals try (conv => whnf)))
        rw [gr1_y b id seed ⟨Nat.le_add_right _ _, Nat.lt_succ_self _⟩, ndT_leaf b id seed h, e2]
      · rw [hi] at e
        ((repeat' ((conv => whnf) <;> first | exact trivial | (with_reducible first | refine And.intro ?_ ?_ | refine rows_lt1 ?_ | refine rows_lt2 ?_ ?_ | refine rows_lt3 ?_ ?_ ?_ | refine rows_lt4 ?_ ?_ ?_ ?_ | refine rows_lt5 ?_ ?_ ?_ ?_ ?_ | refine aggs_lt1 ?_ | refine aggs_lt2 ?_ ?_ | refine aggs_lt3 ?_ ?_ ?_ | refine fun (_ : Nat) => ?_) | refine fun (_ : (_ : Nat) < _) => ?_ | exact rfl | exact Nat.le_of_ble_eq_true rfl | (change (_ : Nat) ≤ _; omega) | (change (_ : Nat) = _; omega) | (change (_ : Int) = _; omega))); (all_goals try (conv => whnf)))
        exact congrFun (gr1_s b id seed e) _
    · exact BitVec.eq_of_toNat_eq (by rw [BitVec.toNat_add, BitVec.toNat_ofNat, BitVec.toNat_ofNat, Nat.mod_eq_of_lt (a := k) (by omega), Nat.mod_eq_of_lt (a := k + 1) (by omega)]; exact Nat.mod_eq_of_lt (by show k + 1 < _; omega))
  · obtain rfl : k = 2 ^ hgN a := by omega
    have hk2 : ¬ BitVec.ofNat 32 (2 ^ hgN a) < 1#32 <<< hgN a := by
      rw [BitVec.lt_def, hl, BitVec.toNat_ofNat, Nat.mod_eq_of_lt (by omega)]
      omega
    have hp0 := Nat.two_pow_pos (hgN a)
    repeat ((conv => whnf); first | refine sdO ?_ | refine nlO ?_ | refine goA ?_ | refine goB ?_ | (apply Exists.intro; (repeat apply Exists.intro); refine caO ?_) | (refine Or.inl ?_; (conv => whnf); (repeat apply Exists.intro); refine caO ?_) | (refine Or.inr ?_; (conv => whnf); first | ((repeat apply Exists.intro); refine caO ?_) | (refine Or.inl ?_; (conv => whnf); (repeat apply Exists.intro); refine caO ?_) | (refine Or.inr ?_; (conv => whnf); (repeat apply Exists.intro); refine caO ?_)) | refine And.intro (by assumption) ?_ | refine goT ?_ | refine goF ?_ | refine goL ?_ | refine goR ?_ | refine goRL ?_ | refine goRR ?_)
    all_goals try (conv => whnf)
    refine Exists.intro (fun _ => True) (And.intro (Enter.mk (2 ^ hgN a - 1 : Nat) (show 2 ^ hgN a - 1 < 2 ^ hgN a by omega) trivial ?_) (fun (r : Nat) (hr : r < 2 ^ hgN a) _ => ?_))
    · ((repeat' ((conv => whnf) <;> first | exact trivial | (with_reducible first | refine And.intro ?_ ?_ | refine rows_lt1 ?_ | refine rows_lt2 ?_ ?_ | refine rows_lt3 ?_ ?_ ?_ | refine rows_lt4 ?_ ?_ ?_ ?_ | refine rows_lt5 ?_ ?_ ?_ ?_ ?_ | refine aggs_lt1 ?_ | refine aggs_lt2 ?_ ?_ | refine aggs_lt3 ?_ ?_ ?_ | refine fun (_ : Nat) => ?_) | refine fun (_ : (_ : Nat) < _) => ?_ | exact rfl | exact Nat.le_of_ble_eq_true rfl | (change (_ : Nat) ≤ _; omega) | (change (_ : Nat) = _; omega) | (change (_ : Int) = _; omega))); (all_goals try (conv => whnf)))
      · rename_i j hj x _
        exact congrFun (gr12 b id seed hj) x
      · refine BitVec.eq_of_toNat_eq ?_
        rw [BitVec.toNat_sub, hl, BitVec.toNat_ofNat, show (BitVec.ofInt 32 1).toNat = 1 from rfl, Nat.mod_eq_of_lt (a := 2 ^ hgN a - 1) (by omega)]
        omega
    rcases Nat.eq_zero_or_pos r with h0 | h0
    · subst h0
      repeat ((conv => whnf); first | refine sdO ?_ | refine nlO ?_ | refine goA ?_ | refine goB ?_ | (apply Exists.intro; (repeat apply Exists.intro); refine caO ?_) | (refine Or.inl ?_; (conv => whnf); (repeat apply Exists.intro); refine caO ?_) | (refine Or.inr ?_; (conv => whnf); first | ((repeat apply Exists.intro); refine caO ?_) | (refine Or.inl ?_; (conv => whnf); (repeat apply Exists.intro); refine caO ?_) | (refine Or.inr ?_; (conv => whnf); (repeat apply Exists.intro); refine caO ?_)) | refine And.intro (by assumption) ?_ | refine goT ?_ | refine goF ?_ | refine goL ?_ | refine goR ?_ | refine goRL ?_ | refine goRR ?_)
      all_goals try (conv => whnf)
      refine ⟨fun k => bif Nat.beq k 0 then some 0 else bif Nat.beq k 1 then some 1 else some 1056, ?_⟩
      ((repeat' ((conv => whnf) <;> first | exact trivial | (with_reducible first | refine And.intro ?_ ?_ | refine rows_lt1 ?_ | refine rows_lt2 ?_ ?_ | refine rows_lt3 ?_ ?_ ?_ | refine rows_lt4 ?_ ?_ ?_ ?_ | refine rows_lt5 ?_ ?_ ?_ ?_ ?_ | refine aggs_lt1 ?_ | refine aggs_lt2 ?_ ?_ | refine aggs_lt3 ?_ ?_ ?_ | refine fun (_ : Nat) => ?_) | refine fun (_ : (_ : Nat) < _) => ?_ | exact rfl | exact Nat.le_of_ble_eq_true rfl | (change (_ : Nat) ≤ _; omega) | (change (_ : Nat) = _; omega) | (change (_ : Int) = _; omega))); (all_goals try (conv => whnf)))
    · obtain ⟨r, rfl⟩ : ∃ s, r = s + 1 := ⟨r - 1, by omega⟩
      have hg : BitVec.ofInt 32 0 < BitVec.ofNat 32 (r + 1) := by
        rw [BitVec.lt_def, BitVec.toNat_ofNat, Nat.mod_eq_of_lt (by omega)]
        exact Nat.succ_pos r
      have q2 : (BitVec.ofNat 32 (r + 1)).toNat = r + 1 := by rw [BitVec.toNat_ofNat, Nat.mod_eq_of_lt (by omega)]
      have q0 : (BitVec.ofInt 32 2 * BitVec.ofNat 32 (r + 1)).toNat = 2 * (r + 1) := by
        rw [BitVec.toNat_mul, q2, show (BitVec.ofInt 32 2).toNat = 2 from rfl, Nat.mod_eq_of_lt (by omega)]
      have q1 : (BitVec.ofInt 32 2 * BitVec.ofNat 32 (r + 1) + BitVec.ofInt 32 1).toNat = 2 * (r + 1) + 1 := by
        rw [BitVec.toNat_add, q0, show (BitVec.ofInt 32 1).toNat = 1 from rfl, Nat.mod_eq_of_lt (by omega)]
      have q0' : (BitVec.ofInt 32 2 * BitVec.ofNat 32 (r + 1)).toNat < 2 * 2 ^ hgN a := by omega
      have q1' : (BitVec.ofInt 32 2 * BitVec.ofNat 32 (r + 1) + BitVec.ofInt 32 1).toNat < 2 * 2 ^ hgN a := by omega
      have q2' : (BitVec.ofNat 32 (r + 1)).toNat < 2 * 2 ^ hgN a := by omega
      repeat ((conv => whnf); first | refine sdO ?_ | refine nlO ?_ | refine goA ?_ | refine goB ?_ | (apply Exists.intro; (repeat apply Exists.intro); refine caO ?_) | (refine Or.inl ?_; (conv => whnf); (repeat apply Exists.intro); refine caO ?_) | (refine Or.inr ?_; (conv => whnf); first | ((repeat apply Exists.intro); refine caO ?_) | (refine Or.inl ?_; (conv => whnf); (repeat apply Exists.intro); refine caO ?_) | (refine Or.inr ?_; (conv => whnf); (repeat apply Exists.intro); refine caO ?_)) | refine And.intro (by assumption) ?_ | refine goT ?_ | refine goF ?_ | refine goL ?_ | refine goR ?_ | refine goRL ?_ | refine goRR ?_)
      all_goals try (conv => whnf)
      refine Again.mk (r : Nat) (show r < 2 ^ hgN a by omega) trivial (show r < r + 1 by omega) ?_
      ((repeat' ((conv => whnf) <;> first | exact trivial | (with_reducible first | refine And.intro ?_ ?_ | refine rows_lt1 ?_ | refine rows_lt2 ?_ ?_ | refine rows_lt3 ?_ ?_ ?_ | refine rows_lt4 ?_ ?_ ?_ ?_ | refine rows_lt5 ?_ ?_ ?_ ?_ ?_ | refine aggs_lt1 ?_ | refine aggs_lt2 ?_ ?_ | refine aggs_lt3 ?_ ?_ ?_ | refine fun (_ : Nat) => ?_) | refine fun (_ : (_ : Nat) < _) => ?_ | exact rfl | exact Nat.le_of_ble_eq_true rfl | (change (_ : Nat) ≤ _; omega) | (change (_ : Nat) = _; omega) | (change (_ : Int) = _; omega))); (all_goals try (conv => whnf)))
      · rename_i j hj
        refine LeW_upN (fun _ => rfl) (fun e => ?_) (fun e => ?_)
        · rw [q2] at e
          subst e
          ((repeat' ((conv => whnf) <;> first | exact trivial | (with_reducible first | refine And.intro ?_ ?_ | refine rows_lt1 ?_ | refine rows_lt2 ?_ ?_ | refine rows_lt3 ?_ ?_ ?_ | refine rows_lt4 ?_ ?_ ?_ ?_ | refine rows_lt5 ?_ ?_ ?_ ?_ ?_ | refine aggs_lt1 ?_ | refine aggs_lt2 ?_ ?_ | refine aggs_lt3 ?_ ?_ ?_ | refine fun (_ : Nat) => ?_) | refine fun (_ : (_ : Nat) < _) => ?_ | exact rfl | exact Nat.le_of_ble_eq_true rfl | (change (_ : Nat) ≤ _; omega) | (change (_ : Nat) = _; omega) | (change (_ : Int) = _; omega))); (all_goals try (conv => whnf)))
          rw [q0, q1, gr2_y b id seed (show r + 1 < 2 * (r + 1) by omega), gr2_y b id seed (show r + 1 < 2 * (r + 1) + 1 by omega), gr2_y b id seed (Nat.lt_succ_self r), ndT_node b id seed (Nat.succ_pos r) hr]
        · rw [q2] at e
          ((repeat' ((conv => whnf) <;> first | exact trivial | (with_reducible first | refine And.intro ?_ ?_ | refine rows_lt1 ?_ | refine rows_lt2 ?_ ?_ | refine rows_lt3 ?_ ?_ ?_ | refine rows_lt4 ?_ ?_ ?_ ?_ | refine rows_lt5 ?_ ?_ ?_ ?_ ?_ | refine aggs_lt1 ?_ | refine aggs_lt2 ?_ ?_ | refine aggs_lt3 ?_ ?_ ?_ | refine fun (_ : Nat) => ?_) | refine fun (_ : (_ : Nat) < _) => ?_ | exact rfl | exact Nat.le_of_ble_eq_true rfl | (change (_ : Nat) ≤ _; omega) | (change (_ : Nat) = _; omega) | (change (_ : Int) = _; omega))); (all_goals try (conv => whnf)))
          exact congrFun (gr2_s b id seed e) _
      · refine BitVec.eq_of_toNat_eq ?_
        rw [BitVec.toNat_sub, q2, BitVec.toNat_ofNat, show (BitVec.ofInt 32 1).toNat = 1 from rfl, Nat.mod_eq_of_lt (a := r) (by omega)]
        omega

def C_sn_NewV : SpecR := fun A K => ∃ a b id seed, A [.u32 a, .u32 b, arr8 16 id, arr8 32 seed] ∧ snOK a b ∧ K (tupOf [.ptr TSn 8 [], .nat 0]) [(8, snR a b id seed (.gsl 23 9 (2 * 2 ^ hgN a)) (.vmt 10)), (9, .grow 23 (2 * 2 ^ hgN a) (dgA (gr2 b id seed (hgN a) 0))), (10, vm0)]
theorem g_sn_NewV : Gd 21 (pureR ty C_sn_NewV) := by
  refine goodR (E := PG [(43, pureP ty C_lms_check), (35, pureP ty C_lms_HeightV), (44, mutD ty [true] C_sn_growV)]) (pgOK ⟨g_lms_check, g_lms_HeightV, g_sn_growV, trivial⟩) mixes Tryd.func21 (by kernel_rfl) (by kernel_rfl) ?_
  rintro A K ⟨a, b, id, seed, hA, hs, hK⟩
  obtain ⟨hb, ha, h10⟩ := hs
  have hc : otOK b ∧ hgOK a := ⟨hb, ha⟩
  have hd : hgOK a ∧ otOK b := ⟨ha, hb⟩
  refine ⟨_, _, _, fun _ => none, hA, hK, by kernel_rfl, by kernel_rfl, ⟨own_sv a b id seed (.gsl 23 9 (2 * 2 ^ hgN a)) trivial 10, fun _ _ _ _ => trivial, own_v0, trivial⟩, own_res trivial trivial, ?_⟩
  repeat ((conv => whnf); first | refine sdO ?_ | refine nlO ?_ | refine goA ?_ | refine goB ?_ | (apply Exists.intro; (repeat apply Exists.intro); refine caO ?_) | refine And.intro (by assumption) ?_ | refine goT ?_ | refine goF ?_)
  all_goals try (conv => whnf)
  refine Or.inr (Or.inr ⟨rfl, ?_⟩)
  repeat ((conv => whnf); first | refine sdO ?_ | refine nlO ?_ | refine goA ?_ | refine goB ?_ | (apply Exists.intro; (repeat apply Exists.intro); refine caO ?_) | (refine Or.inl ?_; (conv => whnf); (repeat apply Exists.intro); refine caO ?_) | (refine Or.inr ?_; (conv => whnf); first | ((repeat apply Exists.intro); refine caO ?_) | (refine Or.inl ?_; (conv => whnf); (repeat apply Exists.intro); refine caO ?_) | (refine Or.inr ?_; (conv => whnf); (repeat apply Exists.intro); refine caO ?_)) | refine And.intro (by assumption) ?_ | refine goT ?_ | refine goF ?_ | refine goL ?_ | refine goR ?_ | refine goRL ?_ | refine goRR ?_)
  all_goals try (conv => whnf)
  refine ⟨fun k => bif Nat.beq k 8 then some 1088 else bif Nat.beq k 9 then some 6160 else some 1072, ?_⟩
  ((repeat' ((conv => whnf) <;> first | exact trivial | (with_reducible first | refine And.intro ?_ ?_ | refine rows_lt1 ?_ | refine rows_lt2 ?_ ?_ | refine rows_lt3 ?_ ?_ ?_ | refine rows_lt4 ?_ ?_ ?_ ?_ | refine rows_lt5 ?_ ?_ ?_ ?_ ?_ | refine aggs_lt1 ?_ | refine aggs_lt2 ?_ ?_ | refine aggs_lt3 ?_ ?_ ?_ | refine fun (_ : Nat) => ?_) | refine fun (_ : (_ : Nat) < _) => ?_ | exact rfl | exact Nat.le_of_ble_eq_true rfl | (change (_ : Nat) ≤ _; omega) | (change (_ : Nat) = _; omega) | (change (_ : Int) = _; omega))); (all_goals try (conv => whnf)))
end Go.Proofs.YtnfebaialdfffaaDoor
