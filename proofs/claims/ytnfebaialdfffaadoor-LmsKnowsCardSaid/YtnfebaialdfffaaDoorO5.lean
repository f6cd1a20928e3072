/- One-time signatures: signing. -/
import Derived.Test.YtnfebaialdfffaaDoorO4
namespace Go.Proofs.YtnfebaialdfffaaDoor
open Go.RowKit
set_option maxRecDepth 100000
set_option maxHeartbeats 20000000
attribute [local irreducible] hsh rst sha256 press dig st1 at8 mash fold digs ch tw tp tlS cf ckN dgT pubE upTo
theorem dgT_le (t : BitVec 32) (h : otOK t) (d : Nat → BitVec 8) (i : Nat) : dgT t d i ≤ 2 ^ tw t - 1 ∧ 2 ^ tw t ≤ 256 := by
  have h1 : dgT t d i < 2 ^ tw t := by unfold dgT; exact cf_lt _ _ _
  have h2 := (pow_le _ (ot_facts t h).1).1
  omega
def C_ots_ChainZ : SpecP := fun A K => ∃ id q i a b x Z, A [siA id q, .nat i, .nat a, .nat b, arr8 32 x] ∧ i ≤ 1000000 ∧ at8 (ch id q i a (lw 32 x) (min b 256 - a)) = Z ∧ K (arr8 32 Z)
theorem g_ots_ChainZ : Gd 65 (pureP ty C_ots_ChainZ) := good_imp g_ots_Chain fun args m key K ⟨id, q, i, a, b, x, Z, hA, hn, hZ, hK⟩ => ⟨id, q, i, a, b, x, hA, hn, by rw [hZ]; exact hK⟩
def C_ots_MashZ : SpecP := fun A K => ∃ id q c l m Z, A [siA id q, arr8 32 c, bsl l m] ∧ l ≤ 1000000000 ∧ at8 (mash id q (lw 32 c) (lw l m)) = Z ∧ K (arr8 32 Z)
theorem g_ots_MashZ : Gd 25 (pureP ty C_ots_MashZ) := good_imp g_ots_Mash fun args m key K ⟨id, q, c, l, ms, Z, hA, hn, hZ, hK⟩ => ⟨id, q, c, l, ms, hA, hn, by rw [hZ]; exact hK⟩
/-- A chain's value in a signature. -/
def sgV (t : BitVec 32) (id : Nat → BitVec 8) (q : BitVec 32) (seed D : Nat → BitVec 8) (i : Nat) : Nat → BitVec 8 := at8 (ch id q i 0 (st1 id q i 255 (lw 32 seed)) (dgT t D i))
theorem sgV_step (t : BitVec 32) (id : Nat → BitVec 8) (q : BitVec 32) (seed D : Nat → BitVec 8) (i : Nat) (h : otOK t) : at8 (ch id q i (Int.toNat 0) (lw 32 (at8 (st1 id q i 255 (lw 32 seed)))) (min (dgT t D i) 256 - Int.toNat 0)) = sgV t id q seed D i := by
  have ⟨h1, h2⟩ := dgT_le t h D i
  have e : min (dgT t D i) 256 - Int.toNat 0 = dgT t D i := by
    show min (dgT t D i) 256 - 0 = dgT t D i
    omega
  rw [lw_at8 _ _ (st1_len _ _ _ _ _), e]
  unfold sgV
  rfl
/-- A signature's bytes. -/
def sigB (t : BitVec 32) (c : Nat → BitVec 8) (v : Nat → Nat → BitVec 8) (j : Nat) : BitVec 8 := if j < 4 then put4 (fun _ => 0) 0 t j else if j < 36 then c (j - 4) else v ((j - 36) / 32) ((j - 36) % 32)
theorem sig_next (t : BitVec 32) (c : Nat → BitVec 8) (v : Nat → Nat → BitVec 8) (k x : Nat) (hx : x < 36 + 32 * k + (32 - 0)) : (if x < 36 + 32 * k then sigB t c v x else v k (0 + (x - (36 + 32 * k)))) = sigB t c v x := by
  by_cases h : x < 36 + 32 * k
  · rw [if_pos h]
  · rw [if_neg h]
    have hx : x < 36 + 32 * k + 32 := hx
    unfold sigB
    rw [if_neg (by omega), if_neg (by omega), show (x - 36) / 32 = k by omega, show (x - 36) % 32 = 0 + (x - (36 + 32 * k)) by omega]
theorem sig_first (t : BitVec 32) (c : Nat → BitVec 8) (v : Nat → Nat → BitVec 8) (x : Nat) (hx : x < 36) : (if x < Int.toNat 4 then put4 (fun _ => 0) 0 t x else c (0 + (x - Int.toNat 4))) = sigB t c v x := by
  show (if x < 4 then _ else c (0 + (x - 4))) = _
  unfold sigB
  by_cases h : x < 4
  · rw [if_pos h, if_pos h]
  · rw [if_neg h, if_neg h, if_pos hx, Nat.zero_add]
attribute [local irreducible] sgV sigB
def mashD (id : Nat → BitVec 8) (q : BitVec 32) (c : Nat → BitVec 8) (l : Nat) (m : Nat → BitVec 8) : Nat → BitVec 8 := at8 (mash id q (lw 32 c) (lw l m))
attribute [local irreducible] mashD
abbrev sigA (t : BitVec 32) (id : Nat → BitVec 8) (q : BitVec 32) (seed c : Nat → BitVec 8) (l : Nat) (m : Nat → BitVec 8) : Nat → BitVec 8 := sigB t c (sgV t id q seed (mashD id q c l m))
def C_ots_Sign : SpecR := fun A K => ∃ t id q seed c l m, A [.u32 t, siA id q, arr8 32 seed, arr8 32 c, bsl l m] ∧ l ≤ 1000000000 ∧ ((¬ otOK t ∧ K (tupOf [.nils, .nat 6]) []) ∨ (otOK t ∧ K (tupOf [.gsl 5 8 (36 + 32 * tp t), .nat 0]) [(8, .grow 5 (36 + 32 * tp t) (bys (sigA t id q seed c l m)))]))
def L_Sign (t : BitVec 32) (id : Nat → BitVec 8) (q : BitVec 32) (seed c : Nat → BitVec 8) (l : Nat) (m : Nat → BitVec 8) : LI := ⟨Nat, (· ≤ tp t), fun k => [(6, .ptr TSi 8 []), (7, .ptr TD 16 []), (14, .gsl 5 3096 (36 + 32 * k)), (39, .gsl 3 6192 (tp t)), (40, .nat (tp t)), (41, .nat k)],
  fun k => [(8, .var TSi (siA id q)), (16, .var TD (arr8 32 seed)), (3096, .grow 5 (36 + 32 * k) (bys (sigA t id q seed c l m))), (6192, .grow 3 (tp t) (nts (dgT t (mashD id q c l m))))], fun k => tp t - k, some, some⟩
theorem g_ots_Sign : Gd 49 (pureR ty C_ots_Sign) := by
  refine goodR (E := PG [(33, pureP ty C_ots_Params), (64, pureP ty C_ots_length), (60, mutF ty [true, false] C_ots_putg), (25, pureP ty C_ots_MashZ), (24, pureR ty C_ots_Digits), (66, pureP ty C_ots_Secret), (65, pureP ty C_ots_ChainZ)]) (pgOK ⟨g_ots_Params, g_ots_length, g_ots_putg, g_ots_MashZ, g_ots_Digits, g_ots_Secret, g_ots_ChainZ, trivial⟩) mixes Tryd.func49 (by kernel_rfl) (by kernel_rfl) ?_
  rintro A K ⟨t, id, q, seed, c, l, m, hA, hl, ⟨ht, hK⟩ | ⟨ht, hK⟩⟩
  · refine ⟨_, _, _, fun _ => none, hA, hK, by kernel_rfl, by kernel_rfl, trivial, own_res trivial trivial, ?_⟩
    repeat ((conv => whnf); first | refine sdO ?_ | refine nlO ?_ | refine goA ?_ | refine goB ?_ | (apply Exists.intro; (repeat apply Exists.intro); refine caO ?_) | (refine Or.inl ?_; (conv => whnf); (repeat apply Exists.intro); refine caO ?_) | (refine Or.inr ?_; (conv => whnf); first | ((repeat apply Exists.intro); refine caO ?_) | (refine Or.inl ?_; (conv => whnf); (repeat apply Exists.intro); refine caO ?_) | (refine Or.inr ?_; (conv => whnf); (repeat apply Exists.intro); refine caO ?_)) | refine And.intro (by assumption) ?_ | refine goT ?_ | refine goF ?_ | refine goL ?_ | refine goR ?_ | refine goRL ?_ | refine goRR ?_)
    all_goals try (conv => whnf)
    ((repeat' ((conv => whnf) <;> first | exact trivial | (with_reducible first | refine And.intro ?_ ?_ | refine rows_lt1 ?_ | refine rows_lt2 ?_ ?_ | refine rows_lt3 ?_ ?_ ?_ | refine rows_lt4 ?_ ?_ ?_ ?_ | refine rows_lt5 ?_ ?_ ?_ ?_ ?_ | refine aggs_lt1 ?_ | refine aggs_lt2 ?_ ?_ | refine aggs_lt3 ?_ ?_ ?_ | refine fun (_ : Nat) => ?_) | refine fun (_ : (_ : Nat) < _) => ?_ | exact rfl | exact Nat.le_of_ble_eq_true rfl | (change (_ : Nat) ≤ _; omega) | (change (_ : Nat) = _; omega) | (change (_ : Int) = _; omega))); (all_goals try (conv => whnf)))
    exact none
  · obtain ⟨hw, hp1, hp2, hl7⟩ := ot_facts t ht
    have hD : at8 (mash id q (lw 32 c) (lw l m)) = mashD id q c l m := by unfold mashD; rfl
    refine ⟨_, _, _, loops [(8, L_Sign t id q seed c l m)], hA, hK, by kernel_rfl, by kernel_rfl, ⟨fun _ _ => trivial, trivial⟩, own_res trivial trivial, ?_⟩
    repeat ((conv => whnf); first | refine sdO ?_ | refine nlO ?_ | refine goA ?_ | refine goB ?_ | (apply Exists.intro; (repeat apply Exists.intro); refine caO ?_) | (refine Or.inl ?_; (conv => whnf); (repeat apply Exists.intro); refine caO ?_) | (refine Or.inr ?_; (conv => whnf); first | ((repeat apply Exists.intro); refine caO ?_) | (refine Or.inl ?_; (conv => whnf); (repeat apply Exists.intro); refine caO ?_) | (refine Or.inr ?_; (conv => whnf); (repeat apply Exists.intro); refine caO ?_)) | refine And.intro (by assumption) ?_ | refine goT ?_ | refine goF ?_ | refine goL ?_ | refine goR ?_ | refine goRL ?_ | refine goRR ?_)
    all_goals try (conv => whnf)
    refine Exists.intro (fun _ => True) (And.intro (Enter.mk (0 : Nat) (Nat.zero_le _) trivial ?_) (fun (k : Nat) (hk : k ≤ tp t) _ => ?_))
    · ((repeat' ((conv => whnf) <;> first | exact trivial | (with_reducible first | refine And.intro ?_ ?_ | refine rows_lt1 ?_ | refine rows_lt2 ?_ ?_ | refine rows_lt3 ?_ ?_ ?_ | refine rows_lt4 ?_ ?_ ?_ ?_ | refine rows_lt5 ?_ ?_ ?_ ?_ ?_ | refine aggs_lt1 ?_ | refine aggs_lt2 ?_ ?_ | refine aggs_lt3 ?_ ?_ ?_ | refine fun (_ : Nat) => ?_) | refine fun (_ : (_ : Nat) < _) => ?_ | exact rfl | exact Nat.le_of_ble_eq_true rfl | (change (_ : Nat) ≤ _; omega) | (change (_ : Nat) = _; omega) | (change (_ : Int) = _; omega))); (all_goals try (conv => whnf)))
      rename_i x hx
      exact sig_first t c (sgV t id q seed (mashD id q c l m)) x hx
    rcases Nat.lt_or_ge k (tp t) with h | h
    · have hs := sgV_step t id q seed (mashD id q c l m) k ht
      have hk6 : k ≤ 1000000 := by omega
      repeat ((conv => whnf); first | refine sdO ?_ | refine nlO ?_ | refine goA ?_ | refine goB ?_ | (apply Exists.intro; (repeat apply Exists.intro); refine caO ?_) | (refine Or.inl ?_; (conv => whnf); (repeat apply Exists.intro); refine caO ?_) | (refine Or.inr ?_; (conv => whnf); first | ((repeat apply Exists.intro); refine caO ?_) | (refine Or.inl ?_; (conv => whnf); (repeat apply Exists.intro); refine caO ?_) | (refine Or.inr ?_; (conv => whnf); (repeat apply Exists.intro); refine caO ?_)) | refine And.intro (by assumption) ?_ | refine goT ?_ | refine goF ?_ | refine goL ?_ | refine goR ?_ | refine goRL ?_ | refine goRR ?_)
      all_goals try (conv => whnf)
      refine Again.mk (k + 1 : Nat) (show k + 1 ≤ tp t by omega) trivial (show tp t - (k + 1) < tp t - k by omega) ?_
      ((repeat' ((conv => whnf) <;> first | exact trivial | (with_reducible first | refine And.intro ?_ ?_ | refine rows_lt1 ?_ | refine rows_lt2 ?_ ?_ | refine rows_lt3 ?_ ?_ ?_ | refine rows_lt4 ?_ ?_ ?_ ?_ | refine rows_lt5 ?_ ?_ ?_ ?_ ?_ | refine aggs_lt1 ?_ | refine aggs_lt2 ?_ ?_ | refine aggs_lt3 ?_ ?_ ?_ | refine fun (_ : Nat) => ?_) | refine fun (_ : (_ : Nat) < _) => ?_ | exact rfl | exact Nat.le_of_ble_eq_true rfl | (change (_ : Nat) ≤ _; omega) | (change (_ : Nat) = _; omega) | (change (_ : Int) = _; omega))); (all_goals try (conv => whnf)))
      rename_i x hx
      exact sig_next t c (sgV t id q seed (mashD id q c l m)) k x hx
    · obtain rfl : k = tp t := by omega
      repeat ((conv => whnf); first | refine sdO ?_ | refine nlO ?_ | refine goA ?_ | refine goB ?_ | (apply Exists.intro; (repeat apply Exists.intro); refine caO ?_) | (refine Or.inl ?_; (conv => whnf); (repeat apply Exists.intro); refine caO ?_) | (refine Or.inr ?_; (conv => whnf); first | ((repeat apply Exists.intro); refine caO ?_) | (refine Or.inl ?_; (conv => whnf); (repeat apply Exists.intro); refine caO ?_) | (refine Or.inr ?_; (conv => whnf); (repeat apply Exists.intro); refine caO ?_)) | refine And.intro (by assumption) ?_ | refine goT ?_ | refine goF ?_ | refine goL ?_ | refine goR ?_ | refine goRL ?_ | refine goRR ?_)
      all_goals try (conv => whnf)
      (refine out_fnd ?_; (repeat' ((conv => whnf) <;> first | exact trivial | (with_reducible first | refine And.intro ?_ ?_ | refine rows_lt1 ?_ | refine rows_lt2 ?_ ?_ | refine rows_lt3 ?_ ?_ ?_ | refine rows_lt4 ?_ ?_ ?_ ?_ | refine rows_lt5 ?_ ?_ ?_ ?_ ?_ | refine aggs_lt1 ?_ | refine aggs_lt2 ?_ ?_ | refine aggs_lt3 ?_ ?_ ?_ | refine fun (_ : Nat) => ?_) | refine fun (_ : (_ : Nat) < _) => ?_ | exact rfl | exact Nat.le_of_ble_eq_true rfl | (change (_ : Nat) ≤ _; omega) | (change (_ : Nat) = _; omega) | (change (_ : Int) = _; omega))); (all_goals try (conv => whnf)))
/-! ### A signature's parts -/
abbrev splO (b : Nat → BitVec 8) : Nat → Nat → BitVec 8 := fun i j => b (36 + 32 * i + j)
theorem own_spl (t : BitVec 32) (c : Nat → BitVec 8) (v : AV) (hv : Own v) (e : Nat) : Own (tupOf [.u32 t, arr8 32 c, v, .nat e]) := fun i hi => by
  rcases i with _ | _ | _ | _ | i
  · exact trivial
  · exact fun _ _ => trivial
  · exact hv
  · exact trivial
  · exact absurd hi (by show ¬ i + 4 < 4; omega)
def C_ots_Split : SpecR := fun A K => ∃ l b, A [bsl l b] ∧ otOK (w4 (b 0) (b 1) (b 2) (b 3)) ∧ l = 36 + 32 * tp (w4 (b 0) (b 1) (b 2) (b 3)) ∧ K (tupOf [.u32 (w4 (b 0) (b 1) (b 2) (b 3)), arr8 32 (fun j => b (4 + j)), .gsl 23 8 (tp (w4 (b 0) (b 1) (b 2) (b 3))), .nat 0]) [(8, .grow 23 (tp (w4 (b 0) (b 1) (b 2) (b 3))) (dgA (splO b)))]
def L_Split (l : Nat) (b : Nat → BitVec 8) (t : BitVec 32) : LI := ⟨Nat, (· ≤ tp t), fun k => [(0, bsl l b), (3, .ptr TD 16 []), (6, .u32 t), (9, .gsl 23 6168 (tp t)), (35, .nat (tp t)), (36, .nat k)],
  fun k => [(16, .var TD TD.zero), (6168, .grow 23 (tp t) (dgA (upTo k (splO b))))], fun k => tp t - k, some, some⟩
theorem g_ots_Split : Gd 73 (pureR ty C_ots_Split) := by
  refine goodR (E := PG [(80, pureP ty C_ots_word), (33, pureP ty C_ots_Params), (64, pureP ty C_ots_length), (81, pureP ty C_ots_hashAt)]) (pgOK ⟨g_ots_word, g_ots_Params, g_ots_length, g_ots_hashAt, trivial⟩) mixes Tryd.func73 (by kernel_rfl) (by kernel_rfl) ?_
  rintro A K ⟨l, b, hA, ht, hl, hK⟩
  obtain ⟨hw, hp1, hp2, hl7⟩ := ot_facts _ ht
  have hp3 : tp (w4 (b 0) (b 1) (b 2) (b 3)) ≤ 1000 := by omega
  have h4 : 4 ≤ l := by omega
  refine ⟨_, _, _, loops [(11, L_Split l b (w4 (b 0) (b 1) (b 2) (b 3)))], hA, hK, by kernel_rfl, by kernel_rfl, ⟨fun _ _ => fun _ _ => trivial, trivial⟩, own_spl _ _ (.gsl _ _ _) trivial _, ?_⟩
  repeat ((conv => whnf); first | refine sdO ?_ | refine nlO ?_ | refine goA ?_ | refine goB ?_ | (apply Exists.intro; (repeat apply Exists.intro); refine caO ?_) | (refine Or.inl ?_; (conv => whnf); (repeat apply Exists.intro); refine caO ?_) | (refine Or.inr ?_; (conv => whnf); first | ((repeat apply Exists.intro); refine caO ?_) | (refine Or.inl ?_; (conv => whnf); (repeat apply Exists.intro); refine caO ?_) | (refine Or.inr ?_; (conv => whnf); (repeat apply Exists.intro); refine caO ?_)) | refine And.intro (by assumption) ?_ | refine goT ?_ | refine goF ?_ | refine goL ?_ | refine goR ?_ | refine goRL ?_ | refine goRR ?_)
  all_goals try (conv => whnf)
  refine Exists.intro (fun _ => True) (And.intro (Enter.mk (0 : Nat) (Nat.zero_le _) trivial ?_) (fun (k : Nat) (hk : k ≤ tp (w4 (b 0) (b 1) (b 2) (b 3))) _ => ?_))
  · ((repeat' ((conv => whnf) <;> first | exact trivial | (with_reducible first | refine And.intro ?_ ?_ | refine rows_lt1 ?_ | refine rows_lt2 ?_ ?_ | refine rows_lt3 ?_ ?_ ?_ | refine rows_lt4 ?_ ?_ ?_ ?_ | refine rows_lt5 ?_ ?_ ?_ ?_ ?_ | refine aggs_lt1 ?_ | refine aggs_lt2 ?_ ?_ | refine aggs_lt3 ?_ ?_ ?_ | refine fun (_ : Nat) => ?_) | refine fun (_ : (_ : Nat) < _) => ?_ | exact rfl | exact Nat.le_of_ble_eq_true rfl | (change (_ : Nat) ≤ _; omega) | (change (_ : Nat) = _; omega) | (change (_ : Int) = _; omega))); (all_goals try (conv => whnf)))
    all_goals exact (upTo_0 _ _ _).symm
  rcases Nat.lt_or_ge k (tp (w4 (b 0) (b 1) (b 2) (b 3))) with h | h
  · have hk6 : 36 + 32 * (k + 1) ≤ l := by omega
    repeat ((conv => whnf); first | refine sdO ?_ | refine nlO ?_ | refine goA ?_ | refine goB ?_ | (apply Exists.intro; (repeat apply Exists.intro); refine caO ?_) | (refine Or.inl ?_; (conv => whnf); (repeat apply Exists.intro); refine caO ?_) | (refine Or.inr ?_; (conv => whnf); first | ((repeat apply Exists.intro); refine caO ?_) | (refine Or.inl ?_; (conv => whnf); (repeat apply Exists.intro); refine caO ?_) | (refine Or.inr ?_; (conv => whnf); (repeat apply Exists.intro); refine caO ?_)) | refine And.intro (by assumption) ?_ | refine goT ?_ | refine goF ?_ | refine goL ?_ | refine goR ?_ | refine goRL ?_ | refine goRR ?_)
    all_goals try (conv => whnf)
    refine Again.mk (k + 1 : Nat) (show k + 1 ≤ tp (w4 (b 0) (b 1) (b 2) (b 3)) by omega) trivial (show tp (w4 (b 0) (b 1) (b 2) (b 3)) - (k + 1) < tp (w4 (b 0) (b 1) (b 2) (b 3)) - k by omega) ?_
    ((repeat' ((conv => whnf) <;> first | exact trivial | (with_reducible first | refine And.intro ?_ ?_ | refine rows_lt1 ?_ | refine rows_lt2 ?_ ?_ | refine rows_lt3 ?_ ?_ ?_ | refine rows_lt4 ?_ ?_ ?_ ?_ | refine rows_lt5 ?_ ?_ ?_ ?_ ?_ | refine aggs_lt1 ?_ | refine aggs_lt2 ?_ ?_ | refine aggs_lt3 ?_ ?_ ?_ | refine fun (_ : Nat) => ?_) | refine fun (_ : (_ : Nat) < _) => ?_ | exact rfl | exact Nat.le_of_ble_eq_true rfl | (change (_ : Nat) ≤ _; omega) | (change (_ : Nat) = _; omega) | (change (_ : Int) = _; omega))); (all_goals try (conv => whnf)))
    rename_i j hj
    refine LeW_updN (fun _ => rfl) (fun e => ?_) (fun e => ?_)
    · subst e
      ((repeat' ((conv => whnf) <;> first | exact trivial | (with_reducible first | refine And.intro ?_ ?_ | refine rows_lt1 ?_ | refine rows_lt2 ?_ ?_ | refine rows_lt3 ?_ ?_ ?_ | refine rows_lt4 ?_ ?_ ?_ ?_ | refine rows_lt5 ?_ ?_ ?_ ?_ ?_ | refine aggs_lt1 ?_ | refine aggs_lt2 ?_ ?_ | refine aggs_lt3 ?_ ?_ ?_ | refine fun (_ : Nat) => ?_) | refine fun (_ : (_ : Nat) < _) => ?_ | exact rfl | exact Nat.le_of_ble_eq_true rfl | (change (_ : Nat) ≤ _; omega) | (change (_ : Nat) = _; omega) | (change (_ : Int) = _; omega))); (all_goals try (conv => whnf)))
      rw [upTo_S]
      exact congrArg b (by simp only [Int.reduceToNat]; omega)
    · ((repeat' ((conv => whnf) <;> first | exact trivial | (with_reducible first | refine And.intro ?_ ?_ | refine rows_lt1 ?_ | refine rows_lt2 ?_ ?_ | refine rows_lt3 ?_ ?_ ?_ | refine rows_lt4 ?_ ?_ ?_ ?_ | refine rows_lt5 ?_ ?_ ?_ ?_ ?_ | refine aggs_lt1 ?_ | refine aggs_lt2 ?_ ?_ | refine aggs_lt3 ?_ ?_ ?_ | refine fun (_ : Nat) => ?_) | refine fun (_ : (_ : Nat) < _) => ?_ | exact rfl | exact Nat.le_of_ble_eq_true rfl | (change (_ : Nat) ≤ _; omega) | (change (_ : Nat) = _; omega) | (change (_ : Int) = _; omega))); (all_goals try (conv => whnf)))
      exact congrFun (upTo_ne _ _ _ e) _
  · have hk0 : k = tp (w4 (b 0) (b 1) (b 2) (b 3)) := by omega
    subst hk0
    repeat ((conv => whnf); first | refine sdO ?_ | refine nlO ?_ | refine goA ?_ | refine goB ?_ | (apply Exists.intro; (repeat apply Exists.intro); refine caO ?_) | (refine Or.inl ?_; (conv => whnf); (repeat apply Exists.intro); refine caO ?_) | (refine Or.inr ?_; (conv => whnf); first | ((repeat apply Exists.intro); refine caO ?_) | (refine Or.inl ?_; (conv => whnf); (repeat apply Exists.intro); refine caO ?_) | (refine Or.inr ?_; (conv => whnf); (repeat apply Exists.intro); refine caO ?_)) | refine And.intro (by assumption) ?_ | refine goT ?_ | refine goF ?_ | refine goL ?_ | refine goR ?_ | refine goRL ?_ | refine goRR ?_)
    all_goals try (conv => whnf)
    (refine out_fnd ?_; (repeat' ((conv => whnf) <;> first | exact trivial | (with_reducible first | refine And.intro ?_ ?_ | refine rows_lt1 ?_ | refine rows_lt2 ?_ ?_ | refine rows_lt3 ?_ ?_ ?_ | refine rows_lt4 ?_ ?_ ?_ ?_ | refine rows_lt5 ?_ ?_ ?_ ?_ ?_ | refine aggs_lt1 ?_ | refine aggs_lt2 ?_ ?_ | refine aggs_lt3 ?_ ?_ ?_ | refine fun (_ : Nat) => ?_) | refine fun (_ : (_ : Nat) < _) => ?_ | exact rfl | exact Nat.le_of_ble_eq_true rfl | (change (_ : Nat) ≤ _; omega) | (change (_ : Nat) = _; omega) | (change (_ : Int) = _; omega))); (all_goals try (conv => whnf)))
    all_goals (exact congrFun (upTo_all _ _ _ (by assumption)) _)
end Go.Proofs.YtnfebaialdfffaaDoor
