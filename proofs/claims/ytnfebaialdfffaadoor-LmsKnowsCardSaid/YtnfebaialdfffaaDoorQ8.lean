/- lms: what reads a signer. -/
import Derived.Test.YtnfebaialdfffaaDoorQ5
namespace Go.Proofs.YtnfebaialdfffaaDoor
open Go.RowKit
set_option maxRecDepth 100000
set_option maxHeartbeats 20000000
attribute [local irreducible] hsh rst sha256 press dig valN mash fold digs ch tw tp tlS cf ckN dgT pubE upTo sgV sigB mashD clE mixA clK pubK st1 at8 hgN w4
abbrev TSn : Ty := ty 65
abbrev snI (a b : BitVec 32) (id seed : Nat → BitVec 8) (n : Nat) (nd : Nat → Nat → BitVec 8) : AV := .ipt TSn (.agg false 4 (nth .junk [keA a b id, arr8 32 seed, dgs n nd, .anym]))
def C_sn_missing : SpecP := fun A K => ∃ a b id seed n nd, A [snI a b id seed n nd] ∧ 0 < n ∧ K (.bo false)
theorem g_sn_missing : Gd 22 (pureP ty C_sn_missing) := by
  refine goodP (E := PG []) (pgOK trivial) mixes Tryd.func22 (by kernel_rfl) (by kernel_rfl) ?_
  rintro A K ⟨a, b, id, seed, n, nd, hA, hn, hK⟩
  refine ⟨_, _, fun _ => none, hA, hK, by kernel_rfl, trivial, ?_⟩
  repeat ((conv => whnf); first | refine sdO ?_ | refine nlO ?_ | refine goA ?_ | refine goB ?_ | (apply Exists.intro; (repeat apply Exists.intro); refine caO ?_) | (refine Or.inl ?_; (conv => whnf); (repeat apply Exists.intro); refine caO ?_) | (refine Or.inr ?_; (conv => whnf); first | ((repeat apply Exists.intro); refine caO ?_) | (refine Or.inl ?_; (conv => whnf); (repeat apply Exists.intro); refine caO ?_) | (refine Or.inr ?_; (conv => whnf); (repeat apply Exists.intro); refine caO ?_)) | refine And.intro (by assumption) ?_ | refine goT ?_ | refine goF ?_ | refine goL ?_ | refine goR ?_ | refine goRL ?_ | refine goRR ?_)
  all_goals try (conv => whnf)
  ((repeat' ((conv => whnf) <;> first | exact trivial | (with_reducible first | refine And.intro ?_ ?_ | refine rows_lt1 ?_ | refine rows_lt2 ?_ ?_ | refine rows_lt3 ?_ ?_ ?_ | refine rows_lt4 ?_ ?_ ?_ ?_ | refine rows_lt5 ?_ ?_ ?_ ?_ ?_ | refine aggs_lt1 ?_ | refine aggs_lt2 ?_ ?_ | refine aggs_lt3 ?_ ?_ ?_ | refine fun (_ : Nat) => ?_) | refine fun (_ : (_ : Nat) < _) => ?_ | exact rfl | exact Nat.le_of_ble_eq_true rfl | (change (_ : Nat) ≤ _; omega) | (change (_ : Nat) = _; omega) | (change (_ : Int) = _; omega))); (all_goals try (conv => whnf)))
def C_sn_has : SpecP := fun A K => ∃ a b id seed n nd q, A [snI a b id seed n nd, .u32 q] ∧ (0 < n ∧ hgOK a) ∧ ((q < 1#32 <<< hgN a ∧ K (.bo true)) ∨ (¬ q < 1#32 <<< hgN a ∧ K (.bo false)))
theorem g_sn_has : Gd 34 (pureP ty C_sn_has) := by
  refine goodP (E := PG [(22, pureP ty C_sn_missing), (36, pureP ty C_lms_leaves)]) (pgOK ⟨g_sn_missing, g_lms_leaves, trivial⟩) mixes Tryd.func34 (by kernel_rfl) (by kernel_rfl) ?_
  rintro A K ⟨a, b, id, seed, n, nd, q, hA, ⟨hn, ha⟩, ⟨hq, hK⟩ | ⟨hq, hK⟩⟩
  · refine ⟨_, _, fun _ => none, hA, hK, by kernel_rfl, trivial, ?_⟩
    repeat ((conv => whnf); first | refine sdO ?_ | refine nlO ?_ | refine goA ?_ | refine goB ?_ | (apply Exists.intro; (repeat apply Exists.intro); refine caO ?_) | (refine Or.inl ?_; (conv => whnf); (repeat apply Exists.intro); refine caO ?_) | (refine Or.inr ?_; (conv => whnf); first | ((repeat apply Exists.intro); refine caO ?_) | (refine Or.inl ?_; (conv => whnf); (repeat apply Exists.intro); refine caO ?_) | (refine Or.inr ?_; (conv => whnf); (repeat apply Exists.intro); refine caO ?_)) | refine And.intro (by assumption) ?_ | refine goT ?_ | refine goF ?_ | refine goL ?_ | refine goR ?_ | refine goRL ?_ | refine goRR ?_)
    all_goals try (conv => whnf)
    exact decide_eq_true hq
  · refine ⟨_, _, fun _ => none, hA, hK, by kernel_rfl, trivial, ?_⟩
    repeat ((conv => whnf); first | refine sdO ?_ | refine nlO ?_ | refine goA ?_ | refine goB ?_ | (apply Exists.intro; (repeat apply Exists.intro); refine caO ?_) | (refine Or.inl ?_; (conv => whnf); (repeat apply Exists.intro); refine caO ?_) | (refine Or.inr ?_; (conv => whnf); first | ((repeat apply Exists.intro); refine caO ?_) | (refine Or.inl ?_; (conv => whnf); (repeat apply Exists.intro); refine caO ?_) | (refine Or.inr ?_; (conv => whnf); (repeat apply Exists.intro); refine caO ?_)) | refine And.intro (by assumption) ?_ | refine goT ?_ | refine goF ?_ | refine goL ?_ | refine goR ?_ | refine goRL ?_ | refine goRR ?_)
    all_goals try (conv => whnf)
    exact decide_eq_false hq
theorem rr_nat (r : BitVec 32) : ∀ i, (rr r i).toNat = r.toNat / 2 ^ i
  | 0 => by rw [rr, Nat.pow_zero, Nat.div_one]
  | i + 1 => by
    rw [rr, BitVec.toNat_udiv, rr_nat r i]
    show r.toNat / 2 ^ i / 2 = _
    rw [Nat.div_div_eq_div_mul, Nat.pow_succ]
theorem xor1_lt {x m : Nat} (h : x < 2 * m) : x ^^^ 1 < 2 * m := by
  have e : (x ^^^ 1) / 2 = x / 2 := by
    have := Nat.shiftRight_xor_distrib (a := x) (b := 1) (i := 1)
    simpa [Nat.shiftRight_eq_div_pow] using this
  omega
theorem lf_nat {a : BitVec 32} (ha : hgOK a) : (1#32 <<< hgN a).toNat = 2 ^ hgN a := by
  obtain ⟨h1, h2⟩ := hg_facts ha
  rw [BitVec.toNat_shiftLeft, Nat.shiftLeft_eq, Nat.mod_eq_of_lt]
  · simp
  · have : 2 ^ hgN a ≤ 2 ^ 25 := Nat.pow_le_pow_right (by decide) h2
    simp; omega
/-- Which node stands beside the way. -/
def sib (a : BitVec 32) (q : BitVec 32) (i : Nat) : Nat := (rr (1#32 <<< hgN a + q) i ^^^ 1#32).toNat
theorem sib_lt {a q : BitVec 32} (ha : hgOK a) (hq : q < 1#32 <<< hgN a) {i : Nat} (hi : i < hgN a) : sib a q i < 2 * 2 ^ hgN a := by
  obtain ⟨h1, h2⟩ := hg_facts ha
  have hl := lf_nat ha
  have hq : q.toNat < 2 ^ hgN a := by rw [← hl]; exact hq
  have hp : 2 ^ hgN a ≤ 2 ^ 25 := Nat.pow_le_pow_right (by decide) h2
  have hr : (1#32 <<< hgN a + q).toNat = 2 ^ hgN a + q.toNat := by
    rw [BitVec.toNat_add, hl, Nat.mod_eq_of_lt (by omega)]
  unfold sib
  rw [BitVec.toNat_xor, rr_nat, hr]
  exact xor1_lt (Nat.lt_of_le_of_lt (Nat.div_le_self _ _) (by omega))
theorem LeW_upN {m : Nat → Option Row} {ty : TypeId → Ty} {rw : List (Nat × Row)} {ρ : Nat → Option Nat} {k j : Nat} {f : Nat → AV} {v b : AV} (hv : ∀ j, updA f k v j = if j = k then v else f j) (h1 : j = k → LeW m ty rw ρ v b) (h2 : ¬ j = k → LeW m ty rw ρ (f j) b) : LeW m ty rw ρ (updA f k v j) b := by
  rw [hv]
  by_cases h : j = k
  · rw [if_pos h]; exact h1 h
  · rw [if_neg h]; exact h2 h
def paM (nd : Nat → Nat → BitVec 8) (a q : BitVec 32) (k i : Nat) : Nat → BitVec 8 := if i < k then nd (sib a q i) else fun _ => 0
theorem paM_y (nd : Nat → Nat → BitVec 8) (a q : BitVec 32) {k i : Nat} (h : i < k) : paM nd a q k i = nd (sib a q i) := if_pos h
theorem paM_s (nd : Nat → Nat → BitVec 8) (a q : BitVec 32) {k i : Nat} (h : ¬ i = k) : paM nd a q k i = paM nd a q (k + 1) i := by
  unfold paM
  by_cases h2 : i < k
  · rw [if_pos h2, if_pos (by omega)]
  · rw [if_neg h2, if_neg (by omega)]
def L_Path (a b : BitVec 32) (id seed : Nat → BitVec 8) (n : Nat) (nd : Nat → Nat → BitVec 8) (q : BitVec 32) : LI := ⟨Nat, (· ≤ hgN a), fun k => [(0, snI a b id seed n nd), (7, .gsl 23 3088 (hgN a)), (8, .u32 (rr (1#32 <<< hgN a + q) k)), (32, .gsl 23 3088 (hgN a)), (33, .nat (hgN a)), (34, .nat k)],
  fun k => [(3088, .grow 23 (hgN a) (dgA (paM nd a q k)))], fun k => hgN a - k, some, some⟩
def C_sn_Path : SpecR := fun A K => ∃ a b id seed n nd q, A [snI a b id seed n nd, .u32 q] ∧ (n = 2 * 2 ^ hgN a ∧ hgOK a ∧ q < 1#32 <<< hgN a) ∧ K (.gsl 23 8 (hgN a)) [(8, .grow 23 (hgN a) (dgA fun i => nd (sib a q i)))]
theorem g_sn_Path : Gd 14 (pureR ty C_sn_Path) := by
  refine goodR (E := PG [(34, pureP ty C_sn_has), (35, pureP ty C_lms_HeightV), (36, pureP ty C_lms_leaves)]) (pgOK ⟨g_sn_has, g_lms_HeightV, g_lms_leaves, trivial⟩) mixes Tryd.func14 (by kernel_rfl) (by kernel_rfl) ?_
  rintro A K ⟨a, b, id, seed, n, nd, q, hA, ⟨hn, ha, hq⟩, hK⟩
  obtain ⟨h1, h2⟩ := hg_facts ha
  have hn0 : 0 < n := by have : 0 < 2 ^ hgN a := Nat.pow_pos (by decide); omega
  have hc : 0 < n ∧ hgOK a := ⟨hn0, ha⟩
  refine ⟨_, _, _, loops [(7, L_Path a b id seed n nd q)], hA, hK, by kernel_rfl, by kernel_rfl, ⟨fun _ _ _ _ => trivial, trivial⟩, trivial, ?_⟩
  repeat ((conv => whnf); first | refine sdO ?_ | refine nlO ?_ | refine goA ?_ | refine goB ?_ | (apply Exists.intro; (repeat apply Exists.intro); refine caO ?_) | (refine Or.inl ?_; (conv => whnf); (repeat apply Exists.intro); refine caO ?_) | (refine Or.inr ?_; (conv => whnf); first | ((repeat apply Exists.intro); refine caO ?_) | (refine Or.inl ?_; (conv => whnf); (repeat apply Exists.intro); refine caO ?_) | (refine Or.inr ?_; (conv => whnf); (repeat apply Exists.intro); refine caO ?_)) | refine And.intro (by assumption) ?_ | refine goT ?_ | refine goF ?_ | refine goL ?_ | refine goR ?_ | refine goRL ?_ | refine goRR ?_)
  all_goals try (conv => whnf)
  refine Exists.intro (fun _ => True) (And.intro (Enter.mk (0 : Nat) (Nat.zero_le _) trivial ?_) (fun (k : Nat) (hk : k ≤ hgN a) _ => ?_))
  · ((repeat' ((conv => whnf) <;> first | exact trivial | (with_reducible first | refine And.intro ?_ ?_ | refine rows_lt1 ?_ | refine rows_lt2 ?_ ?_ | refine rows_lt3 ?_ ?_ ?_ | refine rows_lt4 ?_ ?_ ?_ ?_ | refine rows_lt5 ?_ ?_ ?_ ?_ ?_ | refine aggs_lt1 ?_ | refine aggs_lt2 ?_ ?_ | refine aggs_lt3 ?_ ?_ ?_ | refine fun (_ : Nat) => ?_) | refine fun (_ : (_ : Nat) < _) => ?_ | exact rfl | exact Nat.le_of_ble_eq_true rfl | (change (_ : Nat) ≤ _; omega) | (change (_ : Nat) = _; omega) | (change (_ : Int) = _; omega))); (all_goals try (conv => whnf)))
  rcases Nat.lt_or_ge k (hgN a) with h | h
  · have hs : (rr (1#32 <<< hgN a + q) k ^^^ BitVec.ofInt 32 1).toNat < n := by rw [hn]; exact sib_lt ha hq h
    repeat ((conv => whnf); first | refine sdO ?_ | refine nlO ?_ | refine goA ?_ | refine goB ?_ | (apply Exists.intro; (repeat apply Exists.intro); refine caO ?_) | (refine Or.inl ?_; (conv => whnf); (repeat apply Exists.intro); refine caO ?_) | (refine Or.inr ?_; (conv => whnf); first | ((repeat apply Exists.intro); refine caO ?_) | (refine Or.inl ?_; (conv => whnf); (repeat apply Exists.intro); refine caO ?_) | (refine Or.inr ?_; (conv => whnf); (repeat apply Exists.intro); refine caO ?_)) | refine And.intro (by assumption) ?_ | refine goT ?_ | refine goF ?_ | refine goL ?_ | refine goR ?_ | refine goRL ?_ | refine goRR ?_)
    all_goals try (conv => whnf)
    refine Again.mk (k + 1 : Nat) h trivial (show hgN a - (k + 1) < hgN a - k by omega) ?_
    ((repeat' ((conv => whnf) <;> first | exact trivial | (with_reducible first | refine And.intro ?_ ?_ | refine rows_lt1 ?_ | refine rows_lt2 ?_ ?_ | refine rows_lt3 ?_ ?_ ?_ | refine rows_lt4 ?_ ?_ ?_ ?_ | refine rows_lt5 ?_ ?_ ?_ ?_ ?_ | refine aggs_lt1 ?_ | refine aggs_lt2 ?_ ?_ | refine aggs_lt3 ?_ ?_ ?_ | refine fun (_ : Nat) => ?_) | refine fun (_ : (_ : Nat) < _) => ?_ | exact rfl | exact Nat.le_of_ble_eq_true rfl | (change (_ : Nat) ≤ _; omega) | (change (_ : Nat) = _; omega) | (change (_ : Int) = _; omega))); (all_goals try (conv => whnf)))
    rename_i j hj
    refine LeW_upN (fun _ => rfl) (fun e => ?_) (fun e => ?_)
    · subst e
      ((repeat' ((conv => whnf) <;> first | exact trivial | (with_reducible first | refine And.intro ?_ ?_ | refine rows_lt1 ?_ | refine rows_lt2 ?_ ?_ | refine rows_lt3 ?_ ?_ ?_ | refine rows_lt4 ?_ ?_ ?_ ?_ | refine rows_lt5 ?_ ?_ ?_ ?_ ?_ | refine aggs_lt1 ?_ | refine aggs_lt2 ?_ ?_ | refine aggs_lt3 ?_ ?_ ?_ | refine fun (_ : Nat) => ?_) | refine fun (_ : (_ : Nat) < _) => ?_ | exact rfl | exact Nat.le_of_ble_eq_true rfl | (change (_ : Nat) ≤ _; omega) | (change (_ : Nat) = _; omega) | (change (_ : Int) = _; omega))); (all_goals try (conv => whnf)))
      exact (congrFun (paM_y nd a q (Nat.lt_succ_self j)) _).symm
    · ((repeat' ((conv => whnf) <;> first | exact trivial | (with_reducible first | refine And.intro ?_ ?_ | refine rows_lt1 ?_ | refine rows_lt2 ?_ ?_ | refine rows_lt3 ?_ ?_ ?_ | refine rows_lt4 ?_ ?_ ?_ ?_ | refine rows_lt5 ?_ ?_ ?_ ?_ ?_ | refine aggs_lt1 ?_ | refine aggs_lt2 ?_ ?_ | refine aggs_lt3 ?_ ?_ ?_ | refine fun (_ : Nat) => ?_) | refine fun (_ : (_ : Nat) < _) => ?_ | exact rfl | exact Nat.le_of_ble_eq_true rfl | (change (_ : Nat) ≤ _; omega) | (change (_ : Nat) = _; omega) | (change (_ : Int) = _; omega))); (all_goals try (conv => whnf)))
      exact congrFun (paM_s nd a q e) _
  · obtain rfl : k = hgN a := by omega
    repeat ((conv => whnf); first | refine sdO ?_ | refine nlO ?_ | refine goA ?_ | refine goB ?_ | (apply Exists.intro; (repeat apply Exists.intro); refine caO ?_) | (refine Or.inl ?_; (conv => whnf); (repeat apply Exists.intro); refine caO ?_) | (refine Or.inr ?_; (conv => whnf); first | ((repeat apply Exists.intro); refine caO ?_) | (refine Or.inl ?_; (conv => whnf); (repeat apply Exists.intro); refine caO ?_) | (refine Or.inr ?_; (conv => whnf); (repeat apply Exists.intro); refine caO ?_)) | refine And.intro (by assumption) ?_ | refine goT ?_ | refine goF ?_ | refine goL ?_ | refine goR ?_ | refine goRL ?_ | refine goRR ?_)
    all_goals try (conv => whnf)
    refine ⟨fun _ => some 3088, ?_⟩
    ((repeat' ((conv => whnf) <;> first | exact trivial | (with_reducible first | refine And.intro ?_ ?_ | refine rows_lt1 ?_ | refine rows_lt2 ?_ ?_ | refine rows_lt3 ?_ ?_ ?_ | refine rows_lt4 ?_ ?_ ?_ ?_ | refine rows_lt5 ?_ ?_ ?_ ?_ ?_ | refine aggs_lt1 ?_ | refine aggs_lt2 ?_ ?_ | refine aggs_lt3 ?_ ?_ ?_ | refine fun (_ : Nat) => ?_) | refine fun (_ : (_ : Nat) < _) => ?_ | exact rfl | exact Nat.le_of_ble_eq_true rfl | (change (_ : Nat) ≤ _; omega) | (change (_ : Nat) = _; omega) | (change (_ : Int) = _; omega))); (all_goals try (conv => whnf)))
    rename_i j hj x _
    exact congrFun (paM_y nd a q hj) x
theorem g_lms_putG : Gd 42 (mutF ty [true, false] C_tok_put) := by
  refine goodM (E := PG []) (pgOK trivial) mixes Tryd.func42 (by kernel_rfl) (by kernel_rfl) ?_
  rintro A K ⟨n, o, l, f, v, hA, hol, hn, h4, hK⟩
  refine ⟨_, _, _, _, fun _ => none, hA, hK, by kernel_rfl, by kernel_rfl, ⟨rfl, trivial⟩, ⟨fun _ _ => trivial, trivial⟩, fun _ h => by omega, ?_⟩
  repeat ((conv => whnf); first | refine sdO ?_ | refine nlO ?_ | refine goA ?_ | refine goB ?_ | (apply Exists.intro; (repeat apply Exists.intro); refine caO ?_) | (refine Or.inl ?_; (conv => whnf); (repeat apply Exists.intro); refine caO ?_) | (refine Or.inr ?_; (conv => whnf); first | ((repeat apply Exists.intro); refine caO ?_) | (refine Or.inl ?_; (conv => whnf); (repeat apply Exists.intro); refine caO ?_) | (refine Or.inr ?_; (conv => whnf); (repeat apply Exists.intro); refine caO ?_)))
  all_goals try (conv => whnf)
  refine ⟨some, ?_⟩
  ((repeat' ((conv => whnf) <;> first | exact trivial | (with_reducible first | refine And.intro ?_ ?_ | refine rows_lt1 ?_ | refine rows_lt2 ?_ ?_ | refine rows_lt3 ?_ ?_ ?_ | refine rows_lt4 ?_ ?_ ?_ ?_ | refine rows_lt5 ?_ ?_ ?_ ?_ ?_ | refine aggs_lt1 ?_ | refine aggs_lt2 ?_ ?_ | refine aggs_lt3 ?_ ?_ ?_ | refine fun (_ : Nat) => ?_) | refine fun (_ : (_ : Nat) < _) => ?_ | exact rfl | exact Nat.le_of_ble_eq_true rfl | (change (_ : Nat) ≤ _; omega) | (change (_ : Nat) = _; omega) | (change (_ : Int) = _; omega))); (all_goals try (conv => whnf)))
/-- The public key's bytes. -/
def pubS (a b : BitVec 32) (id x : Nat → BitVec 8) (j : Nat) : BitVec 8 := if j < 8 then put4 (put4 (fun _ => 0) 0 a) 4 b j else if j < 24 then id (j - 8) else x (j - 24)
def C_sn_Public : SpecR := fun A K => ∃ a b id seed n nd, A [snI a b id seed n nd] ∧ 2 ≤ n ∧ K (.gsl 5 8 56) [(8, .grow 5 56 (bys (pubS a b id (nd 1))))]
theorem g_sn_Public : Gd 20 (pureR ty C_sn_Public) := by
  refine goodR (E := PG [(22, pureP ty C_sn_missing), (42, mutF ty [true, false] C_tok_put)]) (pgOK ⟨g_sn_missing, g_lms_putG, trivial⟩) mixes Tryd.func20 (by kernel_rfl) (by kernel_rfl) ?_
  rintro A K ⟨a, b, id, seed, n, nd, hA, hn, hK⟩
  refine ⟨_, _, _, fun _ => none, hA, hK, by kernel_rfl, by kernel_rfl, ⟨fun _ _ => trivial, trivial⟩, trivial, ?_⟩
  repeat ((conv => whnf); first | refine sdO ?_ | refine nlO ?_ | refine goA ?_ | refine goB ?_ | (apply Exists.intro; (repeat apply Exists.intro); refine caO ?_) | (refine Or.inl ?_; (conv => whnf); (repeat apply Exists.intro); refine caO ?_) | (refine Or.inr ?_; (conv => whnf); first | ((repeat apply Exists.intro); refine caO ?_) | (refine Or.inl ?_; (conv => whnf); (repeat apply Exists.intro); refine caO ?_) | (refine Or.inr ?_; (conv => whnf); (repeat apply Exists.intro); refine caO ?_)) | refine And.intro (by assumption) ?_ | refine goT ?_ | refine goF ?_ | refine goL ?_ | refine goR ?_ | refine goRL ?_ | refine goRR ?_)
  all_goals try (conv => whnf)
  refine ⟨fun _ => some 2056, ?_⟩
  ((repeat' ((conv => whnf) <;> first | exact trivial | (with_reducible first | refine And.intro ?_ ?_ | refine rows_lt1 ?_ | refine rows_lt2 ?_ ?_ | refine rows_lt3 ?_ ?_ ?_ | refine rows_lt4 ?_ ?_ ?_ ?_ | refine rows_lt5 ?_ ?_ ?_ ?_ ?_ | refine aggs_lt1 ?_ | refine aggs_lt2 ?_ ?_ | refine aggs_lt3 ?_ ?_ ?_ | refine fun (_ : Nat) => ?_) | refine fun (_ : (_ : Nat) < _) => ?_ | exact rfl | exact Nat.le_of_ble_eq_true rfl | (change (_ : Nat) ≤ _; omega) | (change (_ : Nat) = _; omega) | (change (_ : Int) = _; omega))); (all_goals try (conv => whnf)))
  rename_i x hx
  show (if 24 ≤ x ∧ x < 24 + 32 then nd 1 (0 + (x - 24)) else if 8 ≤ x ∧ x < 8 + 16 then id (0 + (x - 8)) else put4 (put4 (fun _ => 0) 0 a) 4 b x) = pubS a b id (nd 1) x
  unfold pubS
  have hx : x < 56 := hx
  by_cases h8 : x < 8
  · rw [if_neg (by omega), if_neg (by omega), if_pos h8]
  · by_cases h24 : x < 24
    · rw [if_neg (by omega), if_pos (by omega), if_neg h8, if_pos h24, Nat.zero_add]
    · rw [if_pos (by omega), if_neg h8, if_neg h24, Nat.zero_add]
end Go.Proofs.YtnfebaialdfffaaDoor
