/- lms: the tree. -/
import Derived.Test.YtnfebaialdfffaaDoorQA
namespace Go.Proofs.YtnfebaialdfffaaDoor
open Go.RowKit
set_option maxRecDepth 100000
set_option maxHeartbeats 20000000
attribute [local irreducible] hsh rst sha256 press dig valN mash fold digs ch tw tp tlS cf ckN dgT pubE upTo sgV sigB mashD clE mixA clK pubK st1 at8 hgN w4 sib sgS
/-- The tree: at each level, by the nodes' numbers. -/
def trN (b : BitVec 32) (id seed : Nat → BitVec 8) (H : Nat) : Nat → Nat → Msg
  | 0, i => leaf id (BitVec.ofNat 32 i) (lw 32 (pubK b id (BitVec.ofNat 32 (i - 2 ^ H)) seed))
  | l + 1, i => node id (BitVec.ofNat 32 i) (trN b id seed H l (2 * i)) (trN b id seed H l (2 * i + 1))
def ndT (b : BitVec 32) (id seed : Nat → BitVec 8) (H : Nat) (i : Nat) : Nat → BitVec 8 := at8 (trN b id seed H (H - Nat.log2 i) i)
def gr1 (b : BitVec 32) (id seed : Nat → BitVec 8) (H k i : Nat) : Nat → BitVec 8 := if 2 ^ H ≤ i ∧ i < 2 ^ H + k then ndT b id seed H i else fun _ => 0
def gr2 (b : BitVec 32) (id seed : Nat → BitVec 8) (H r i : Nat) : Nat → BitVec 8 := if r < i then ndT b id seed H i else fun _ => 0
theorem lg_top {H i : Nat} (h1 : 2 ^ H ≤ i) (h2 : i < 2 * 2 ^ H) : Nat.log2 i = H := by
  have h0 : i ≠ 0 := by have := Nat.two_pow_pos H; omega
  have a := (Nat.log2_lt h0 (k := H + 1)).2 (by rw [Nat.pow_succ]; omega)
  have b := mt (Nat.log2_lt h0 (k := H)).1 (by omega)
  omega
theorem lg_two {r : Nat} (h : 0 < r) : Nat.log2 (2 * r) = Nat.log2 r + 1 ∧ Nat.log2 (2 * r + 1) = Nat.log2 r + 1 := by
  constructor
  · rw [Nat.log2_def (2 * r), if_pos (by omega), show 2 * r / 2 = r by omega]
  · rw [Nat.log2_def (2 * r + 1), if_pos (by omega), show (2 * r + 1) / 2 = r by omega]
theorem lg_le {H r : Nat} (h : 0 < r) (h2 : r < 2 ^ H) : Nat.log2 r + 1 ≤ H := (Nat.log2_lt (by omega)).2 h2
theorem trN_len (b : BitVec 32) (id seed : Nat → BitVec 8) (H l i : Nat) : (trN b id seed H l i).length = 32 := by
  cases l with
  | zero => exact leaf_len _ _ _
  | succ l => exact node_len _ _ _ _
theorem ndT_leaf (b : BitVec 32) (id seed : Nat → BitVec 8) {H k : Nat} (h : k < 2 ^ H) : ndT b id seed H (2 ^ H + k) = at8 (leaf id (BitVec.ofNat 32 (2 ^ H + k)) (lw 32 (pubK b id (BitVec.ofNat 32 k) seed))) := by
  unfold ndT
  rw [lg_top (H := H) (i := 2 ^ H + k) (by omega) (by omega), Nat.sub_self]
  show at8 (leaf id _ (lw 32 (pubK b id (BitVec.ofNat 32 (2 ^ H + k - 2 ^ H)) seed))) = _
  rw [show 2 ^ H + k - 2 ^ H = k by omega]
theorem ndT_node (b : BitVec 32) (id seed : Nat → BitVec 8) {H r : Nat} (h : 0 < r) (h2 : r < 2 ^ H) : ndT b id seed H r = at8 (node id (BitVec.ofNat 32 r) (lw 32 (ndT b id seed H (2 * r))) (lw 32 (ndT b id seed H (2 * r + 1)))) := by
  have e := lg_le h h2
  unfold ndT
  rw [lw_at8 _ _ (trN_len _ _ _ _ _ _), lw_at8 _ _ (trN_len _ _ _ _ _ _), (lg_two h).1, (lg_two h).2, show H - Nat.log2 r = (H - (Nat.log2 r + 1)) + 1 by omega]
  rfl
theorem gr1_y (b : BitVec 32) (id seed : Nat → BitVec 8) {H k i : Nat} (h : 2 ^ H ≤ i ∧ i < 2 ^ H + k) : gr1 b id seed H k i = ndT b id seed H i := if_pos h
theorem gr1_s (b : BitVec 32) (id seed : Nat → BitVec 8) {H k i : Nat} (h : ¬ i = 2 ^ H + k) : gr1 b id seed H k i = gr1 b id seed H (k + 1) i := by
  unfold gr1
  by_cases h2 : 2 ^ H ≤ i ∧ i < 2 ^ H + k
  · rw [if_pos h2, if_pos (by omega)]
  · rw [if_neg h2, if_neg (by omega)]
theorem gr2_y (b : BitVec 32) (id seed : Nat → BitVec 8) {H r i : Nat} (h : r < i) : gr2 b id seed H r i = ndT b id seed H i := if_pos h
theorem gr2_s (b : BitVec 32) (id seed : Nat → BitVec 8) {H r i : Nat} (h : ¬ i = r + 1) : gr2 b id seed H (r + 1) i = gr2 b id seed H r i := by
  unfold gr2
  by_cases h2 : r + 1 < i
  · rw [if_pos h2, if_pos (by omega)]
  · rw [if_neg h2, if_neg (by omega)]
theorem gr12 (b : BitVec 32) (id seed : Nat → BitVec 8) {H i : Nat} (h : i < 2 * 2 ^ H) : gr1 b id seed H (2 ^ H) i = gr2 b id seed H (2 ^ H - 1) i := by
  have := Nat.two_pow_pos H
  unfold gr1 gr2
  by_cases h2 : 2 ^ H ≤ i
  · rw [if_pos (by omega), if_pos (by omega)]
  · rw [if_neg (by omega), if_neg (by omega)]
theorem gr1_0 (b : BitVec 32) (id seed : Nat → BitVec 8) (H i : Nat) : gr1 b id seed H 0 i = fun _ => 0 := if_neg (by omega)
abbrev snR (a b : BitVec 32) (id seed : Nat → BitVec 8) (nodes mp : AV) : Row := .var TSn (.agg false 4 (nth .junk [keA a b id, arr8 32 seed, nodes, mp]))
theorem own_sn (a b : BitVec 32) (id seed : Nat → BitVec 8) (nodes : AV) (h : Own nodes) (q : Nat) : OwnRow (snR a b id seed nodes (.cmt q)) := by
  intro i hi
  rcases i with _ | _ | _ | _ | i
  · exact own_ke a b id
  · exact fun _ _ => trivial
  · exact h
  · exact trivial
  · exact absurd hi (by show ¬ i + 4 < 4; omega)
def C_sn_grow : SpecM := fun A K => ∃ a b id seed c, A [.ptr TSn 0 []] [(0, snR a b id seed .nils (.cmt 1)), (1, .ob (.cnt c))] ∧ (hgOK a ∧ otOK b) ∧ K (.tup 0 fun _ => .junk) [(0, snR a b id seed (.gsl 23 8 (2 * 2 ^ hgN a)) (.cmt 1)), (1, .ob (.cnt c)), (8, .grow 23 (2 * 2 ^ hgN a) (dgA (gr2 b id seed (hgN a) 0)))]
def L_gr1 (a b : BitVec 32) (id seed : Nat → BitVec 8) (c : Nat) : LI := ⟨Nat, (· ≤ 2 ^ hgN a), fun k => [(0, .ptr TSn 0 []), (2, .u32 (1#32 <<< hgN a)), (18, .u32 (1#32 <<< hgN a)), (19, .u32 (BitVec.ofNat 32 k))],
  fun k => [(0, snR a b id seed (.gsl 23 1056 (2 * 2 ^ hgN a)) (.cmt 1)), (1, .ob (.cnt c)), (1056, .grow 23 (2 * 2 ^ hgN a) (dgA (gr1 b id seed (hgN a) k)))], fun k => 2 ^ hgN a - k, some, some⟩
def L_gr2 (a b : BitVec 32) (id seed : Nat → BitVec 8) (c : Nat) : LI := ⟨Nat, (· < 2 ^ hgN a), fun r => [(0, .ptr TSn 0 []), (6, .u32 (BitVec.ofNat 32 r))],
  fun r => [(0, snR a b id seed (.gsl 23 1056 (2 * 2 ^ hgN a)) (.cmt 1)), (1, .ob (.cnt c)), (1056, .grow 23 (2 * 2 ^ hgN a) (dgA (gr2 b id seed (hgN a) r)))], fun r => r, some, some⟩
theorem two_lf {a : BitVec 32} (ha : hgOK a) : (BitVec.ofInt 32 2 * 1#32 <<< hgN a).toNat = 2 * 2 ^ hgN a := by
  obtain ⟨h1, h2⟩ := hg_facts ha
  have hp : 2 ^ hgN a ≤ 2 ^ 25 := Nat.pow_le_pow_right (by decide) h2
  rw [BitVec.toNat_mul, lf_nat ha, show (BitVec.ofInt 32 2).toNat = 2 from rfl, Nat.mod_eq_of_lt (by omega)]
theorem g_sn_grow : Gd 44 (mutD ty [true] C_sn_grow) := by
  refine goodD (E := PG [(36, pureP ty C_lms_leaves), (26, pureP ty C_lms_site), (56, pureP ty C_ots_Public), (57, pureP ty C_lms_Leaf), (58, pureP ty C_lms_Node)]) (pgOK ⟨g_lms_leaves, g_lms_site, g_ots_Public, g_lms_Leaf, g_lms_Node, trivial⟩) mixes Tryd.func44 (by kernel_rfl) (by kernel_rfl) ?_
  rintro A K ⟨a, b, id, seed, c, hA, ⟨ha, hb⟩, hK⟩
  obtain ⟨h1, h2⟩ := hg_facts ha
  have hp : 2 ^ hgN a ≤ 2 ^ 25 := Nat.pow_le_pow_right (by decide) h2
  have hp' : (2 : Nat) ^ 25 = 33554432 := by decide
  have hn := two_lf ha
  refine ⟨_, _, _, _, loops [(3, L_gr1 a b id seed c), (9, L_gr2 a b id seed c)], hA, hK, by kernel_rfl, by kernel_rfl, ⟨trivial, trivial, trivial, trivial⟩, ⟨?_, rfl, fun _ _ _ _ => trivial, trivial⟩, fun _ h => absurd h (Nat.not_lt_zero _), ?_⟩
  · exact own_sn a b id seed (.gsl 23 8 (2 * 2 ^ hgN a)) trivial 1
  repeat ((conv => whnf); first | refine sdO ?_ | refine nlO ?_ | refine goA ?_ | refine goB ?_ | (apply Exists.intro; (repeat apply Exists.intro); refine caO ?_) | (refine Or.inl ?_; (conv => whnf); (repeat apply Exists.intro); refine caO ?_) | (refine Or.inr ?_; (conv => whnf); first | ((repeat apply Exists.intro); refine caO ?_) | (refine Or.inl ?_; (conv => whnf); (repeat apply Exists.intro); refine caO ?_) | (refine Or.inr ?_; (conv => whnf); (repeat apply Exists.intro); refine caO ?_)) | refine And.intro (by assumption) ?_ | refine goT ?_ | refine goF ?_ | refine goL ?_ | refine goR ?_ | refine goRL ?_ | refine goRR ?_)
  all_goals try (conv => whnf)
  refine Exists.intro (fun _ => True) (And.intro (Enter.mk (0 : Nat) (Nat.zero_le _) trivial ?_) (fun (k : Nat) (hk : k ≤ 2 ^ hgN a) _ => ?_))
  · ((repeat' ((conv => whnf) <;> first | exact trivial | (with_reducible first | refine And.intro ?_ ?_ | refine rows_lt1 ?_ | refine rows_lt2 ?_ ?_ | refine rows_lt3 ?_ ?_ ?_ | refine rows_lt4 ?_ ?_ ?_ ?_ | refine rows_lt5 ?_ ?_ ?_ ?_ ?_ | refine aggs_lt1 ?_ | refine aggs_lt2 ?_ ?_ | refine aggs_lt3 ?_ ?_ ?_ | refine fun (_ : Nat) => ?_) | refine fun (_ : (_ : Nat) < _) => ?_ | exact rfl | exact Nat.le_of_ble_eq_true rfl | (change (_ : Nat) ≤ _; omega) | (change (_ : Nat) = _; omega) | (change (_ : Int) = _; omega))); (all_goals try (conv => whnf)))
    · rw [gr1_0]
  have hl := lf_nat ha
  rcases Nat.lt_or_ge k (2 ^ hgN a) with h | h
  · have hk2 : BitVec.ofNat 32 k < 1#32 <<< hgN a := by
      rw [BitVec.lt_def, hl, BitVec.toNat_ofNat, Nat.mod_eq_of_lt (by omega)]
      exact h
    have hi : (1#32 <<< hgN a + BitVec.ofNat 32 k).toNat = 2 ^ hgN a + k := by
      rw [BitVec.toNat_add, hl, BitVec.toNat_ofNat, Nat.mod_eq_of_lt (a := k) (by omega), Nat.mod_eq_of_lt (by omega)]
    have hi2 : (1#32 <<< hgN a + BitVec.ofNat 32 k).toNat < 2 * 2 ^ hgN a := by omega
    repeat ((conv => whnf); first | refine sdO ?_ | refine nlO ?_ | refine goA ?_ | refine goB ?_ | (apply Exists.intro; (repeat apply Exists.intro); refine caO ?_) | (refine Or.inl ?_; (conv => whnf); (repeat apply Exists.intro); refine caO ?_) | (refine Or.inr ?_; (conv => whnf); first | ((repeat apply Exists.intro); refine caO ?_) | (refine Or.inl ?_; (conv => whnf); (repeat apply Exists.intro); refine caO ?_) | (refine Or.inr ?_; (conv => whnf); (repeat apply Exists.intro); refine caO ?_)) | refine And.intro (by assumption) ?_ | refine goT ?_ | refine goF ?_ | refine goL ?_ | refine goR ?_ | refine goRL ?_ | refine goRR ?_)
    all_goals try (conv => whnf)
    refine Again.mk (k + 1 : Nat) h trivial (show 2 ^ hgN a - (k + 1) < 2 ^ hgN a - k by omega) ?_
    ((repeat' ((conv => whnf) <;> first | exact trivial | (with_reducible first | refine And.intro ?_ ?_ | refine rows_lt1 ?_ | refine rows_lt2 ?_ ?_ | refine rows_lt3 ?_ ?_ ?_ | refine rows_lt4 ?_ ?_ ?_ ?_ | refine rows_lt5 ?_ ?_ ?_ ?_ ?_ | refine aggs_lt1 ?_ | refine aggs_lt2 ?_ ?_ | refine aggs_lt3 ?_ ?_ ?_ | refine fun (_ : Nat) => ?_) | refine fun (_ : (_ : Nat) < _) => ?_ | exact rfl | exact Nat.le_of_ble_eq_true rfl | (change (_ : Nat) ≤ _; omega) | (change (_ : Nat) = _; omega) | (change (_ : Int) = _; omega))); (all_goals try (conv => whnf)))
    · rename_i j hj
      refine LeW_upN (fun _ => rfl) (fun e => ?_) (fun e => ?_)
      · rw [hi] at e
        subst e
        have e2 : 1#32 <<< hgN a + BitVec.ofNat 32 k = BitVec.ofNat 32 (2 ^ hgN a + k) := BitVec.eq_of_toNat_eq (by rw [hi, BitVec.toNat_ofNat, Nat.mod_eq_of_lt (by omega)])
        ((repeat' ((conv => whnf) <;> first | exact trivial | (with_reducible first | refine And.intro ?_ ?_ | refine rows_lt1 ?_ | refine rows_lt2 ?_ ?_ | refine rows_lt3 ?_ ?_ ?_ | refine rows_lt4 ?_ ?_ ?_ ?_ | refine rows_lt5 ?_ ?_ ?_ ?_ ?_ | refine aggs_lt1 ?_ | refine aggs_lt2 ?_ ?_ | refine aggs_lt3 ?_ ?_ ?_ | refine fun (_ : Nat) => ?_) | refine fun (_ : (_ : Nat) < _) => ?_ | exact rfl | exact Nat.le_of_ble_eq_true rfl | (change (_ : Nat) ≤ _; omega) | (change (_ : Nat) = _; omega) | (change (_ : Int) = _; omega))); (all_goals try (conv => whnf)))
        rw [gr1_y b id seed ⟨Nat.le_add_right _ _, Nat.lt_succ_self _⟩, ndT_leaf b id seed h, e2]
      · rw [hi] at e
        ((repeat' ((conv => whnf) <;> first | exact trivial | (with_reducible first | refine And.intro ?_ ?_ | refine rows_lt1 ?_ | refine rows_lt2 ?_ ?_ | refine rows_lt3 ?_ ?_ ?_ | refine rows_lt4 ?_ ?_ ?_ ?_ | refine rows_lt5 ?_ ?_ ?_ ?_ ?_ | refine aggs_lt1 ?_ | refine aggs_lt2 ?_ ?_ | refine aggs_lt3 ?_ ?_ ?_ | refine fun (_ : Nat) => ?_) | refine fun (_ : (_ : Nat) < _) => ?_ | exact rfl | exact Nat.le_of_ble_eq_true rfl | (change (_ : Nat) ≤ _; omega) | (change (_ : Nat) = _; omega) | (change (_ : Int) = _; omega))); (all_goals try (conv => whnf)))
        exact congrFun (gr1_s b id seed e) _
    · exact BitVec.eq_of_toNat_eq (by rw [BitVec.toNat_add, BitVec.toNat_ofNat, BitVec.toNat_ofNat, Nat.mod_eq_of_lt (a := k) (by omega), Nat.mod_eq_of_lt (a := k + 1) (by omega)]; exact Nat.mod_eq_of_lt (by show k + 1 < _; omega))
  · obtain rfl : k = 2 ^ hgN a := by omega
    have hk2 : ¬ BitVec.ofNat 32 (2 ^ hgN a) < 1#32 <<< hgN a := by
      rw [BitVec.lt_def, hl, BitVec.toNat_ofNat, Nat.mod_eq_of_lt (by omega)]
      omega
    have hp0 := Nat.two_pow_pos (hgN a)
    repeat ((conv => whnf); first | refine sdO ?_ | refine nlO ?_ | refine goA ?_ | refine goB ?_ | (apply Exists.intro; (repeat apply Exists.intro); refine caO ?_) | (refine Or.inl ?_; (conv => whnf); (repeat apply Exists.intro); refine caO ?_) | (refine Or.inr ?_; (conv => whnf); first | ((repeat apply Exists.intro); refine caO ?_) | (refine Or.inl ?_; (conv => whnf); (repeat apply Exists.intro); refine caO ?_) | (refine Or.inr ?_; (conv => whnf); (repeat apply Exists.intro); refine caO ?_)) | refine And.intro (by assumption) ?_ | refine goT ?_ | refine goF ?_ | refine goL ?_ | refine goR ?_ | refine goRL ?_ | refine goRR ?_)
    all_goals try (conv => whnf)
    refine Exists.intro (fun _ => True) (And.intro (Enter.mk (2 ^ hgN a - 1 : Nat) (show 2 ^ hgN a - 1 < 2 ^ hgN a by omega) trivial ?_) (fun (r : Nat) (hr : r < 2 ^ hgN a) _ => ?_))
    · ((repeat' ((conv => whnf) <;> first | exact trivial | (with_reducible first | refine And.intro ?_ ?_ | refine rows_lt1 ?_ | refine rows_lt2 ?_ ?_ | refine rows_lt3 ?_ ?_ ?_ | refine rows_lt4 ?_ ?_ ?_ ?_ | refine rows_lt5 ?_ ?_ ?_ ?_ ?_ | refine aggs_lt1 ?_ | refine aggs_lt2 ?_ ?_ | refine aggs_lt3 ?_ ?_ ?_ | refine fun (_ : Nat) => ?_) | refine fun (_ : (_ : Nat) < _) => ?_ | exact rfl | exact Nat.le_of_ble_eq_true rfl | (change (_ : Nat) ≤ _; omega) | (change (_ : Nat) = _; omega) | (change (_ : Int) = _; omega))); (all_goals try (conv => whnf)))
      · rename_i j hj x _
        exact congrFun (gr12 b id seed hj) x
      · refine BitVec.eq_of_toNat_eq ?_
        rw [BitVec.toNat_sub, hl, BitVec.toNat_ofNat, show (BitVec.ofInt 32 1).toNat = 1 from rfl, Nat.mod_eq_of_lt (a := 2 ^ hgN a - 1) (by omega)]
        omega
    rcases Nat.eq_zero_or_pos r with h0 | h0
    · subst h0
      repeat ((conv => whnf); first | refine sdO ?_ | refine nlO ?_ | refine goA ?_ | refine goB ?_ | (apply Exists.intro; (repeat apply Exists.intro); refine caO ?_) | (refine Or.inl ?_; (conv => whnf); (repeat apply Exists.intro); refine caO ?_) | (refine Or.inr ?_; (conv => whnf); first | ((repeat apply Exists.intro); refine caO ?_) | (refine Or.inl ?_; (conv => whnf); (repeat apply Exists.intro); refine caO ?_) | (refine Or.inr ?_; (conv => whnf); (repeat apply Exists.intro); refine caO ?_)) | refine And.intro (by assumption) ?_ | refine goT ?_ | refine goF ?_ | refine goL ?_ | refine goR ?_ | refine goRL ?_ | refine goRR ?_)
      all_goals try (conv => whnf)
      refine ⟨fun k => bif Nat.beq k 0 then some 0 else bif Nat.beq k 1 then some 1 else some 1056, ?_⟩
      ((repeat' ((conv => whnf) <;> first | exact trivial | (with_reducible first | refine And.intro ?_ ?_ | refine rows_lt1 ?_ | refine rows_lt2 ?_ ?_ | refine rows_lt3 ?_ ?_ ?_ | refine rows_lt4 ?_ ?_ ?_ ?_ | refine rows_lt5 ?_ ?_ ?_ ?_ ?_ | refine aggs_lt1 ?_ | refine aggs_lt2 ?_ ?_ | refine aggs_lt3 ?_ ?_ ?_ | refine fun (_ : Nat) => ?_) | refine fun (_ : (_ : Nat) < _) => ?_ | exact rfl | exact Nat.le_of_ble_eq_true rfl | (change (_ : Nat) ≤ _; omega) | (change (_ : Nat) = _; omega) | (change (_ : Int) = _; omega))); (all_goals try (conv => whnf)))
    · obtain ⟨r, rfl⟩ : ∃ s, r = s + 1 := ⟨r - 1, by omega⟩
      have hg : BitVec.ofInt 32 0 < BitVec.ofNat 32 (r + 1) := by
        rw [BitVec.lt_def, BitVec.toNat_ofNat, Nat.mod_eq_of_lt (by omega)]
        exact Nat.succ_pos r
      have q2 : (BitVec.ofNat 32 (r + 1)).toNat = r + 1 := by rw [BitVec.toNat_ofNat, Nat.mod_eq_of_lt (by omega)]
      have q0 : (BitVec.ofInt 32 2 * BitVec.ofNat 32 (r + 1)).toNat = 2 * (r + 1) := by
        rw [BitVec.toNat_mul, q2, show (BitVec.ofInt 32 2).toNat = 2 from rfl, Nat.mod_eq_of_lt (by omega)]
      have q1 : (BitVec.ofInt 32 2 * BitVec.ofNat 32 (r + 1) + BitVec.ofInt 32 1).toNat = 2 * (r + 1) + 1 := by
        rw [BitVec.toNat_add, q0, show (BitVec.ofInt 32 1).toNat = 1 from rfl, Nat.mod_eq_of_lt (by omega)]
      have q0' : (BitVec.ofInt 32 2 * BitVec.ofNat 32 (r + 1)).toNat < 2 * 2 ^ hgN a := by omega
      have q1' : (BitVec.ofInt 32 2 * BitVec.ofNat 32 (r + 1) + BitVec.ofInt 32 1).toNat < 2 * 2 ^ hgN a := by omega
      have q2' : (BitVec.ofNat 32 (r + 1)).toNat < 2 * 2 ^ hgN a := by omega
      repeat ((conv => whnf); first | refine sdO ?_ | refine nlO ?_ | refine goA ?_ | refine goB ?_ | (apply Exists.intro; (repeat apply Exists.intro); refine caO ?_) | (refine Or.inl ?_; (conv => whnf); (repeat apply Exists.intro); refine caO ?_) | (refine Or.inr ?_; (conv => whnf); first | ((repeat apply Exists.intro); refine caO ?_) | (refine Or.inl ?_; (conv => whnf); (repeat apply Exists.intro); refine caO ?_) | (refine Or.inr ?_; (conv => whnf); (repeat apply Exists.intro); refine caO ?_)) | refine And.intro (by assumption) ?_ | refine goT ?_ | refine goF ?_ | refine goL ?_ | refine goR ?_ | refine goRL ?_ | refine goRR ?_)
      all_goals try (conv => whnf)
      refine Again.mk (r : Nat) (show r < 2 ^ hgN a by omega) trivial (show r < r + 1 by omega) ?_
      ((repeat' ((conv => whnf) <;> first | exact trivial | (with_reducible first | refine And.intro ?_ ?_ | refine rows_lt1 ?_ | refine rows_lt2 ?_ ?_ | refine rows_lt3 ?_ ?_ ?_ | refine rows_lt4 ?_ ?_ ?_ ?_ | refine rows_lt5 ?_ ?_ ?_ ?_ ?_ | refine aggs_lt1 ?_ | refine aggs_lt2 ?_ ?_ | refine aggs_lt3 ?_ ?_ ?_ | refine fun (_ : Nat) => ?_) | refine fun (_ : (_ : Nat) < _) => ?_ | exact rfl | exact Nat.le_of_ble_eq_true rfl | (change (_ : Nat) ≤ _; omega) | (change (_ : Nat) = _; omega) | (change (_ : Int) = _; omega))); (all_goals try (conv => whnf)))
      · rename_i j hj
        refine LeW_upN (fun _ => rfl) (fun e => ?_) (fun e => ?_)
        · rw [q2] at e
          subst e
          ((repeat' ((conv => whnf) <;> first | exact trivial | (with_reducible first | refine And.intro ?_ ?_ | refine rows_lt1 ?_ | refine rows_lt2 ?_ ?_ | refine rows_lt3 ?_ ?_ ?_ | refine rows_lt4 ?_ ?_ ?_ ?_ | refine rows_lt5 ?_ ?_ ?_ ?_ ?_ | refine aggs_lt1 ?_ | refine aggs_lt2 ?_ ?_ | refine aggs_lt3 ?_ ?_ ?_ | refine fun (_ : Nat) => ?_) | refine fun (_ : (_ : Nat) < _) => ?_ | exact rfl | exact Nat.le_of_ble_eq_true rfl | (change (_ : Nat) ≤ _; omega) | (change (_ : Nat) = _; omega) | (change (_ : Int) = _; omega))); (all_goals try (conv => whnf)))
          rw [q0, q1, gr2_y b id seed (show r + 1 < 2 * (r + 1) by omega), gr2_y b id seed (show r + 1 < 2 * (r + 1) + 1 by omega), gr2_y b id seed (Nat.lt_succ_self r), ndT_node b id seed (Nat.succ_pos r) hr]
        · rw [q2] at e
          ((repeat' ((conv => whnf) <;> first | exact trivial | (with_reducible first | refine And.intro ?_ ?_ | refine rows_lt1 ?_ | refine rows_lt2 ?_ ?_ | refine rows_lt3 ?_ ?_ ?_ | refine rows_lt4 ?_ ?_ ?_ ?_ | refine rows_lt5 ?_ ?_ ?_ ?_ ?_ | refine aggs_lt1 ?_ | refine aggs_lt2 ?_ ?_ | refine aggs_lt3 ?_ ?_ ?_ | refine fun (_ : Nat) => ?_) | refine fun (_ : (_ : Nat) < _) => ?_ | exact rfl | exact Nat.le_of_ble_eq_true rfl | (change (_ : Nat) ≤ _; omega) | (change (_ : Nat) = _; omega) | (change (_ : Int) = _; omega))); (all_goals try (conv => whnf)))
          exact congrFun (gr2_s b id seed e) _
      · refine BitVec.eq_of_toNat_eq ?_
        rw [BitVec.toNat_sub, q2, BitVec.toNat_ofNat, show (BitVec.ofInt 32 1).toNat = 1 from rfl, Nat.mod_eq_of_lt (a := r) (by omega)]
        omega
end Go.Proofs.YtnfebaialdfffaaDoor
/- lms: New. -/
namespace Go.Proofs.YtnfebaialdfffaaDoor
open Go.RowKit
set_option maxRecDepth 100000
set_option maxHeartbeats 20000000
attribute [local irreducible] hsh rst sha256 press dig valN mash fold digs ch tw tp tlS cf ckN dgT pubE upTo sgV sigB mashD clE mixA clK pubK st1 at8 hgN w4 sib sgS gr2
/-- The types that a signer may have. -/
def snOK (a b : BitVec 32) : Prop := otOK b ∧ hgOK a ∧ hgN a ≤ 10
def C_sn_New : SpecR := fun A K => ∃ a b id seed, A [.u32 a, .u32 b, arr8 16 id, arr8 32 seed] ∧ ((¬ snOK a b ∧ K (tupOf [.nilp, .nat 6]) []) ∨
  (snOK a b ∧ K (tupOf [.ptr TSn 8 [], .nat 0]) [(8, snR a b id seed (.gsl 23 9 (2 * 2 ^ hgN a)) (.cmt 10)), (9, .grow 23 (2 * 2 ^ hgN a) (dgA (gr2 b id seed (hgN a) 0))), (10, .ob (.cnt 0))]))
theorem g_sn_New : Gd 21 (pureR ty C_sn_New) := by
  refine goodR (E := PG [(43, pureP ty C_lms_check), (35, pureP ty C_lms_HeightV), (44, mutD ty [true] C_sn_grow)]) (pgOK ⟨g_lms_check, g_lms_HeightV, g_sn_grow, trivial⟩) mixes Tryd.func21 (by kernel_rfl) (by kernel_rfl) ?_
  rintro A K ⟨a, b, id, seed, hA, ⟨hs, hK⟩ | ⟨hs, hK⟩⟩
  · rcases Decidable.em (otOK b ∧ hgOK a) with hc | hc
    · have h10 : ¬ hgN a ≤ 10 := fun q => hs ⟨hc.1, hc.2, q⟩
      have ha := hc.2
      refine ⟨_, _, _, fun _ => none, hA, hK, by kernel_rfl, by kernel_rfl, trivial, own_res trivial trivial, ?_⟩
      repeat ((conv => whnf); first | refine sdO ?_ | refine nlO ?_ | refine goA ?_ | refine goB ?_ | (apply Exists.intro; (repeat apply Exists.intro); refine caO ?_) | (refine Or.inl ?_; (conv => whnf); (repeat apply Exists.intro); refine caO ?_) | (refine Or.inr ?_; (conv => whnf); first | ((repeat apply Exists.intro); refine caO ?_) | (refine Or.inl ?_; (conv => whnf); (repeat apply Exists.intro); refine caO ?_) | (refine Or.inr ?_; (conv => whnf); (repeat apply Exists.intro); refine caO ?_)) | refine And.intro (by assumption) ?_ | refine goT ?_ | refine goF ?_ | refine goL ?_ | refine goR ?_ | refine goRL ?_ | refine goRR ?_)
      all_goals try (conv => whnf)
      · exact rfl
      · exact fun _ => none
    · refine ⟨_, _, _, fun _ => none, hA, hK, by kernel_rfl, by kernel_rfl, trivial, own_res trivial trivial, ?_⟩
      repeat ((conv => whnf); first | refine sdO ?_ | refine nlO ?_ | refine goA ?_ | refine goB ?_ | (apply Exists.intro; (repeat apply Exists.intro); refine caO ?_) | (refine Or.inl ?_; (conv => whnf); (repeat apply Exists.intro); refine caO ?_) | (refine Or.inr ?_; (conv => whnf); first | ((repeat apply Exists.intro); refine caO ?_) | (refine Or.inl ?_; (conv => whnf); (repeat apply Exists.intro); refine caO ?_) | (refine Or.inr ?_; (conv => whnf); (repeat apply Exists.intro); refine caO ?_)) | refine And.intro (by assumption) ?_ | refine goT ?_ | refine goF ?_ | refine goL ?_ | refine goR ?_ | refine goRL ?_ | refine goRR ?_)
      all_goals try (conv => whnf)
      exact fun _ => none
  · obtain ⟨hb, ha, h10⟩ := hs
    have hc : otOK b ∧ hgOK a := ⟨hb, ha⟩
    have hd : hgOK a ∧ otOK b := ⟨ha, hb⟩
    refine ⟨_, _, _, fun _ => none, hA, hK, by kernel_rfl, by kernel_rfl, ⟨own_sn a b id seed (.gsl 23 9 (2 * 2 ^ hgN a)) trivial 10, fun _ _ _ _ => trivial, rfl, trivial⟩, own_res trivial trivial, ?_⟩
    repeat ((conv => whnf); first | refine sdO ?_ | refine nlO ?_ | refine goA ?_ | refine goB ?_ | (apply Exists.intro; (repeat apply Exists.intro); refine caO ?_) | (refine Or.inl ?_; (conv => whnf); (repeat apply Exists.intro); refine caO ?_) | (refine Or.inr ?_; (conv => whnf); first | ((repeat apply Exists.intro); refine caO ?_) | (refine Or.inl ?_; (conv => whnf); (repeat apply Exists.intro); refine caO ?_) | (refine Or.inr ?_; (conv => whnf); (repeat apply Exists.intro); refine caO ?_)) | refine And.intro (by assumption) ?_ | refine goT ?_ | refine goF ?_ | refine goL ?_ | refine goR ?_ | refine goRL ?_ | refine goRR ?_)
    all_goals try (conv => whnf)
    refine ⟨fun k => bif Nat.beq k 8 then some 1088 else bif Nat.beq k 9 then some 6160 else some 1072, ?_⟩
    ((repeat' ((conv => whnf) <;> first | exact trivial | (with_reducible first | refine And.intro ?_ ?_ | refine rows_lt1 ?_ | refine rows_lt2 ?_ ?_ | refine rows_lt3 ?_ ?_ ?_ | refine rows_lt4 ?_ ?_ ?_ ?_ | refine rows_lt5 ?_ ?_ ?_ ?_ ?_ | refine aggs_lt1 ?_ | refine aggs_lt2 ?_ ?_ | refine aggs_lt3 ?_ ?_ ?_ | refine fun (_ : Nat) => ?_) | refine fun (_ : (_ : Nat) < _) => ?_ | exact rfl | exact Nat.le_of_ble_eq_true rfl | (change (_ : Nat) ≤ _; omega) | (change (_ : Nat) = _; omega) | (change (_ : Int) = _; omega))); (all_goals try (conv => whnf)))
end Go.Proofs.YtnfebaialdfffaaDoor
/- lms: the way from a leaf leads to the root. -/
namespace Go.Proofs.YtnfebaialdfffaaDoor
open Go.RowKit
set_option maxRecDepth 100000
set_option maxHeartbeats 20000000
attribute [local irreducible] hsh rst sha256 press dig valN mash fold digs ch tw tp tlS cf ckN dgT pubE upTo sgV sigB mashD clE mixA clK pubK st1 at8 hgN w4 sgS gr2
theorem xor1_even (m : Nat) : (2 * m) ^^^ 1 = 2 * m + 1 := by
  apply Nat.eq_of_testBit_eq
  intro i
  cases i with
  | zero => simp [Nat.testBit_xor]
  | succ i => rw [Nat.testBit_xor, Nat.testBit_succ, Nat.testBit_succ, Nat.testBit_succ, show 2 * m / 2 = m by omega, show (2 * m + 1) / 2 = m by omega]; simp
theorem xor1_odd (m : Nat) : (2 * m + 1) ^^^ 1 = 2 * m := by
  rw [← xor1_even m, Nat.xor_assoc, Nat.xor_self, Nat.xor_zero]
theorem clb_tree {a b : BitVec 32} {id seed : Nat → BitVec 8} {q : BitVec 32} (ha : hgOK a) (hq : q < 1#32 <<< hgN a) : ∀ k, k ≤ hgN a →
    clb id (1#32 <<< hgN a + q) (leaf id (1#32 <<< hgN a + q) (lw 32 (pubK b id q seed))) (fun i => ndT b id seed (hgN a) (sib a q i)) k = trN b id seed (hgN a) k ((2 ^ hgN a + q.toNat) / 2 ^ k) := by
  have hl := lf_nat ha
  have hq' : q.toNat < 2 ^ hgN a := by rw [← hl]; exact hq
  have hp : 2 ^ hgN a ≤ 2 ^ 25 := Nat.pow_le_pow_right (by decide) (hg_facts ha).2
  have hr : (1#32 <<< hgN a + q).toNat = 2 ^ hgN a + q.toNat := by
    rw [BitVec.toNat_add, hl, Nat.mod_eq_of_lt (by omega)]
  intro k
  induction k with
  | zero =>
    intro _
    rw [clb_0, Nat.pow_zero, Nat.div_one]
    show _ = leaf id (BitVec.ofNat 32 (2 ^ hgN a + q.toNat)) (lw 32 (pubK b id (BitVec.ofNat 32 (2 ^ hgN a + q.toNat - 2 ^ hgN a)) seed))
    rw [show 2 ^ hgN a + q.toNat - 2 ^ hgN a = q.toNat by omega, BitVec.ofNat_toNat, BitVec.setWidth_eq, show BitVec.ofNat 32 (2 ^ hgN a + q.toNat) = 1#32 <<< hgN a + q from BitVec.eq_of_toNat_eq (by rw [hr, BitVec.toNat_ofNat, Nat.mod_eq_of_lt (by omega)])]
  | succ k ih =>
    intro hk
    have ih := ih (by omega)
    obtain ⟨i, hi⟩ : ∃ i, i = (2 ^ hgN a + q.toNat) / 2 ^ k := ⟨_, rfl⟩
    rw [← hi] at ih
    have hri : (rr (1#32 <<< hgN a + q) k).toNat = i := by rw [rr_nat, hr, hi]
    have hlt : i < 2 ^ 32 := by rw [← hri]; exact (rr _ k).isLt
    have hi2 : (2 ^ hgN a + q.toNat) / 2 ^ (k + 1) = i / 2 := by rw [hi, Nat.pow_succ, Nat.div_div_eq_div_mul]
    have hs : sib a q k = i ^^^ 1 := by
      unfold sib
      rw [BitVec.toNat_xor, hri]
      rfl
    have hd : rr (1#32 <<< hgN a + q) k / BitVec.ofInt 32 2 = BitVec.ofNat 32 (i / 2) := BitVec.eq_of_toNat_eq (by
      rw [BitVec.toNat_udiv, hri, BitVec.toNat_ofNat, Nat.mod_eq_of_lt (by omega)]
      rfl)
    -- the level of i
    have hge : 2 ^ (hgN a - k) ≤ i := by
      rw [hi, Nat.le_div_iff_mul_le (Nat.two_pow_pos k), ← Nat.pow_add, show hgN a - k + k = hgN a by omega]
      omega
    have hlt2 : i < 2 * 2 ^ (hgN a - k) := by
      rw [hi, Nat.div_lt_iff_lt_mul (Nat.two_pow_pos k), Nat.mul_assoc, ← Nat.pow_add, show hgN a - k + k = hgN a by omega]
      omega
    have hev : 2 ^ (hgN a - k) = 2 * 2 ^ (hgN a - k - 1) := by
      obtain ⟨j, hj⟩ : ∃ j, hgN a - k = j + 1 := ⟨hgN a - k - 1, by omega⟩
      rw [hj, Nat.pow_succ, Nat.add_sub_cancel, Nat.mul_comm]
    have hlen := trN_len b id seed (hgN a) k
    rw [hi2]
    show _ = node id (BitVec.ofNat 32 (i / 2)) (trN b id seed (hgN a) k (2 * (i / 2))) (trN b id seed (hgN a) k (2 * (i / 2) + 1))
    have hnd : ∀ j, 2 ^ (hgN a - k) ≤ j → j < 2 * 2 ^ (hgN a - k) → lw 32 (ndT b id seed (hgN a) j) = trN b id seed (hgN a) k j := fun j h1 h2 => by
      unfold ndT
      rw [lg_top h1 h2, show hgN a - (hgN a - k) = k by omega]
      exact lw_at8 _ _ (hlen j)
    rcases Nat.mod_two_eq_zero_or_one i with h2 | h2
    · have hb : ¬ rr (1#32 <<< hgN a + q) k % BitVec.ofInt 32 2 = BitVec.ofInt 32 1 := fun h => by
        have h := congrArg BitVec.toNat h
        rw [BitVec.toNat_umod, hri] at h
        have : i % 2 = 1 := h
        omega
      have e : i = 2 * (i / 2) := by omega
      rw [clb_b _ _ _ _ _ hb, hd, ih, hs, show i ^^^ 1 = 2 * (i / 2) + 1 by rw [← xor1_even, ← e], hnd _ (by omega) (by omega), ← e]
    · have hb : rr (1#32 <<< hgN a + q) k % BitVec.ofInt 32 2 = BitVec.ofInt 32 1 := BitVec.eq_of_toNat_eq (by
        rw [BitVec.toNat_umod, hri]
        exact h2)
      have e : i = 2 * (i / 2) + 1 := by omega
      rw [clb_a _ _ _ _ _ hb, hd, ih, hs, show i ^^^ 1 = 2 * (i / 2) by rw [← xor1_odd, ← e], hnd _ (by omega) (by omega), ← e]
/-- The way from a leaf, by the nodes beside it, leads to the root. -/
theorem clb_root {a b : BitVec 32} {id seed : Nat → BitVec 8} {q : BitVec 32} (ha : hgOK a) (hq : q < 1#32 <<< hgN a) :
    clb id (1#32 <<< hgN a + q) (leaf id (1#32 <<< hgN a + q) (lw 32 (pubK b id q seed))) (fun i => ndT b id seed (hgN a) (sib a q i)) (hgN a) = lw 32 (ndT b id seed (hgN a) 1) := by
  have hq' : q.toNat < 2 ^ hgN a := by rw [← lf_nat ha]; exact hq
  rw [clb_tree ha hq _ (Nat.le_refl _), show (2 ^ hgN a + q.toNat) / 2 ^ hgN a = 1 by rw [Nat.add_div_left _ (Nat.two_pow_pos _), Nat.div_eq_of_lt hq']]
  unfold ndT
  rw [show Nat.log2 1 = 0 by decide, Nat.sub_zero]
  exact (lw_at8 _ _ (trN_len _ _ _ _ _ _)).symm
end Go.Proofs.YtnfebaialdfffaaDoor
