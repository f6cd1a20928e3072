/- One-time signatures: public keys, signatures. -/
import Derived.Test.YtnfebaialdfffaaDoorO3
namespace Go.Proofs.YtnfebaialdfffaaDoor
open Go.RowKit
set_option maxRecDepth 100000
set_option maxHeartbeats 20000000
attribute [local irreducible] hsh rst sha256 press dig st1 at8 mash fold digs ch tw tp tlS cf ckN dgT
theorem own_dk (m : List Nat) (n : Nat) (b : Nat → BitVec 8) : Own (tupOf [arr8 32 b, .nat n]) := own_res (show Own (arr8 32 b) from fun _ _ => trivial) (show Own (.nat n) from trivial)
/-- A chain's end. -/
def pubE (id : Nat → BitVec 8) (q : BitVec 32) (w : Nat) (seed : Nat → BitVec 8) (i : Nat) : Nat → BitVec 8 := at8 (ch id q i 0 (st1 id q i 255 (lw 32 seed)) (2 ^ w - 1))
def pubK (t : BitVec 32) (id : Nat → BitVec 8) (q : BitVec 32) (seed : Nat → BitVec 8) : Nat → BitVec 8 := at8 (fold id q (tp t) (pubE id q (tw t) seed))
def upTo (k : Nat) (f : Nat → Nat → BitVec 8) (i : Nat) : Nat → BitVec 8 := if i < k then f i else fun _ => 0
theorem upTo_S (k : Nat) (f : Nat → Nat → BitVec 8) : upTo (k + 1) f k = f k := if_pos (Nat.lt_succ_self k)
theorem upTo_ne (k j : Nat) (f : Nat → Nat → BitVec 8) (h : ¬ j = k) : upTo k f j = upTo (k + 1) f j := by
  unfold upTo
  by_cases e : j < k
  · rw [if_pos e, if_pos (by omega)]
  · rw [if_neg e, if_neg (by omega)]
theorem upTo_all (k j : Nat) (f : Nat → Nat → BitVec 8) (h : j < k) : upTo k f j = f j := if_pos h
theorem upTo_0 (f : Nat → Nat → BitVec 8) (i x : Nat) : upTo 0 f i x = 0 := congrFun (if_neg (Nat.not_lt_zero i)) x
theorem pub_step (id : Nat → BitVec 8) (q : BitVec 32) (w : Nat) (seed : Nat → BitVec 8) (j x : Nat) (hw : wOK w) : at8 (ch id q j (Int.toNat 0) (lw 32 (at8 (st1 id q j 255 (lw 32 seed)))) (min (2 ^ w - 1) 256 - Int.toNat 0)) x = pubE id q w seed j x := by
  have h := (pow_le w hw).1
  have e : min (2 ^ w - 1) 256 - Int.toNat 0 = 2 ^ w - 1 := by
    show min (2 ^ w - 1) 256 - 0 = 2 ^ w - 1
    omega
  rw [lw_at8 _ _ (st1_len _ _ _ _ _), e]
  unfold pubE
  rfl
section
attribute [local semireducible] fold digs
theorem digs_cong (f g : Nat → Nat → BitVec 8) : ∀ n, (∀ i, i < n → f i = g i) → digs n f = digs n g
  | 0, _ => rfl
  | n + 1, h => by rw [digs_succ, digs_succ, digs_cong f g n (fun i hi => h i (by omega)), h n (by omega)]
theorem fold_cong (id : Nat → BitVec 8) (q : BitVec 32) (n : Nat) (f g : Nat → Nat → BitVec 8) (h : ∀ i, i < n → f i = g i) : fold id q n f = fold id q n g := by
  unfold fold
  rw [digs_cong f g n h]
end
attribute [local irreducible] upTo pubE
theorem pub_fin (t : BitVec 32) (id : Nat → BitVec 8) (q : BitVec 32) (seed : Nat → BitVec 8) (x : Nat) : at8 (fold id q (tp t) (upTo (tp t) (pubE id q (tw t) seed))) x = pubK t id q seed x := by
  unfold pubK
  rw [fold_cong id q (tp t) (upTo (tp t) (pubE id q (tw t) seed)) (pubE id q (tw t) seed) fun i hi => upTo_all _ _ _ hi]
def C_ots_FoldZ : SpecP := fun A K => ∃ id q n f Z, A [siA id q, dgs n f] ∧ n ≤ 1000000 ∧ at8 (fold id q n f) = Z ∧ K (arr8 32 Z)
theorem g_ots_FoldZ : Gd 74 (pureP ty C_ots_FoldZ) := good_imp g_ots_Fold fun args m key K ⟨id, q, n, f, Z, hA, hn, hZ, hK⟩ => ⟨id, q, n, f, hA, hn, by rw [hZ]; exact hK⟩
abbrev dgA (f : Nat → Nat → BitVec 8) : Nat → AV := fun i => arr8 32 (f i)
def C_ots_Public : SpecP := fun A K => ∃ t id q seed, A [.u32 t, siA id q, arr8 32 seed] ∧ ((¬ otOK t ∧ K (tupOf [dgZ, .nat 6])) ∨ (otOK t ∧ K (tupOf [arr8 32 (pubK t id q seed), .nat 0])))
def L_Public (t : BitVec 32) (id : Nat → BitVec 8) (q : BitVec 32) (seed : Nat → BitVec 8) : LI := ⟨Nat, (· ≤ tp t), fun k => [(4, .ptr TSi 8 []), (5, .ptr TD 16 []), (6, .ptr TD 24 []), (8, .ptr TPr 1072 []), (10, .gsl 23 3096 (tp t)), (24, .nat (tp t)), (25, .nat k)],
  fun k => [(8, .var TSi (siA id q)), (16, .var TD (arr8 32 seed)), (24, .var TD TD.zero), (1072, .var TPr (prA (tw t) (tp t) (tlS t))), (3096, .grow 23 (tp t) (dgA (upTo k (pubE id q (tw t) seed))))], fun k => tp t - k, some, some⟩
theorem g_ots_Public : Gd 56 (pureP ty C_ots_Public) := by
  refine goodP (E := PG [(33, pureP ty C_ots_Params), (59, pureP ty C_ots_end), (66, pureP ty C_ots_Secret), (65, pureP ty C_ots_Chain), (74, pureP ty C_ots_FoldZ)]) (pgOK ⟨g_ots_Params, g_ots_end, g_ots_Secret, g_ots_Chain, g_ots_FoldZ, trivial⟩) mixes Tryd.func56 (by kernel_rfl) (by kernel_rfl) ?_
  rintro A K ⟨t, id, q, seed, hA, ⟨ht, hK⟩ | ⟨ht, hK⟩⟩
  · refine ⟨_, _, fun _ => none, hA, hK, by kernel_rfl, own_dg _, ?_⟩
    repeat ((conv => whnf); first | refine sdO ?_ | refine nlO ?_ | refine goA ?_ | refine goB ?_ | (apply Exists.intro; (repeat apply Exists.intro); refine caO ?_) | (refine Or.inl ?_; (conv => whnf); (repeat apply Exists.intro); refine caO ?_) | (refine Or.inr ?_; (conv => whnf); first | ((repeat apply Exists.intro); refine caO ?_) | (refine Or.inl ?_; (conv => whnf); (repeat apply Exists.intro); refine caO ?_) | (refine Or.inr ?_; (conv => whnf); (repeat apply Exists.intro); refine caO ?_)) | refine And.intro (by assumption) ?_ | refine goT ?_ | refine goF ?_ | refine goL ?_ | refine goR ?_ | refine goRL ?_ | refine goRR ?_)
    all_goals try (conv => whnf)
    ((repeat' ((conv => whnf) <;> first | exact trivial | (with_reducible first | refine And.intro ?_ ?_ | refine rows_lt1 ?_ | refine rows_lt2 ?_ ?_ | refine rows_lt3 ?_ ?_ ?_ | refine rows_lt4 ?_ ?_ ?_ ?_ | refine rows_lt5 ?_ ?_ ?_ ?_ ?_ | refine aggs_lt1 ?_ | refine aggs_lt2 ?_ ?_ | refine aggs_lt3 ?_ ?_ ?_ | refine fun (_ : Nat) => ?_) | refine fun (_ : (_ : Nat) < _) => ?_ | exact rfl | exact Nat.le_of_ble_eq_true rfl | (change (_ : Nat) ≤ _; omega) | (change (_ : Nat) = _; omega) | (change (_ : Int) = _; omega))); (all_goals try (conv => whnf)))
  · obtain ⟨hw, hp1, hp2, hl7⟩ := ot_facts t ht
    refine ⟨_, _, loops [(6, L_Public t id q seed)], hA, hK, by kernel_rfl, own_dk [] _ _, ?_⟩
    repeat ((conv => whnf); first | refine sdO ?_ | refine nlO ?_ | refine goA ?_ | refine goB ?_ | (apply Exists.intro; (repeat apply Exists.intro); refine caO ?_) | (refine Or.inl ?_; (conv => whnf); (repeat apply Exists.intro); refine caO ?_) | (refine Or.inr ?_; (conv => whnf); first | ((repeat apply Exists.intro); refine caO ?_) | (refine Or.inl ?_; (conv => whnf); (repeat apply Exists.intro); refine caO ?_) | (refine Or.inr ?_; (conv => whnf); (repeat apply Exists.intro); refine caO ?_)) | refine And.intro (by assumption) ?_ | refine goT ?_ | refine goF ?_ | refine goL ?_ | refine goR ?_ | refine goRL ?_ | refine goRR ?_)
    all_goals try (conv => whnf)
    refine Exists.intro (fun _ => True) (And.intro (Enter.mk (0 : Nat) (Nat.zero_le _) trivial ?_) (fun (k : Nat) (hk : k ≤ tp t) _ => ?_))
    · ((repeat' ((conv => whnf) <;> first | exact trivial | (with_reducible first | refine And.intro ?_ ?_ | refine rows_lt1 ?_ | refine rows_lt2 ?_ ?_ | refine rows_lt3 ?_ ?_ ?_ | refine rows_lt4 ?_ ?_ ?_ ?_ | refine rows_lt5 ?_ ?_ ?_ ?_ ?_ | refine aggs_lt1 ?_ | refine aggs_lt2 ?_ ?_ | refine aggs_lt3 ?_ ?_ ?_ | refine fun (_ : Nat) => ?_) | refine fun (_ : (_ : Nat) < _) => ?_ | exact rfl | exact Nat.le_of_ble_eq_true rfl | (change (_ : Nat) ≤ _; omega) | (change (_ : Nat) = _; omega) | (change (_ : Int) = _; omega))); (all_goals try (conv => whnf)))
      exact (upTo_0 _ _ _).symm
    rcases Nat.lt_or_ge k (tp t) with h | h
    · skip
      repeat ((conv => whnf); first | refine sdO ?_ | refine nlO ?_ | refine goA ?_ | refine goB ?_ | (apply Exists.intro; (repeat apply Exists.intro); refine caO ?_) | (refine Or.inl ?_; (conv => whnf); (repeat apply Exists.intro); refine caO ?_) | (refine Or.inr ?_; (conv => whnf); first | ((repeat apply Exists.intro); refine caO ?_) | (refine Or.inl ?_; (conv => whnf); (repeat apply Exists.intro); refine caO ?_) | (refine Or.inr ?_; (conv => whnf); (repeat apply Exists.intro); refine caO ?_)) | refine And.intro (by assumption) ?_ | refine goT ?_ | refine goF ?_ | refine goL ?_ | refine goR ?_ | refine goRL ?_ | refine goRR ?_)
      all_goals try (conv => whnf)
      refine Again.mk (k + 1 : Nat) (show k + 1 ≤ tp t by omega) trivial (show tp t - (k + 1) < tp t - k by omega) ?_
      ((repeat' ((conv => whnf) <;> first | exact trivial | (with_reducible first | refine And.intro ?_ ?_ | refine rows_lt1 ?_ | refine rows_lt2 ?_ ?_ | refine rows_lt3 ?_ ?_ ?_ | refine rows_lt4 ?_ ?_ ?_ ?_ | refine rows_lt5 ?_ ?_ ?_ ?_ ?_ | refine aggs_lt1 ?_ | refine aggs_lt2 ?_ ?_ | refine aggs_lt3 ?_ ?_ ?_ | refine fun (_ : Nat) => ?_) | refine fun (_ : (_ : Nat) < _) => ?_ | exact rfl | exact Nat.le_of_ble_eq_true rfl | (change (_ : Nat) ≤ _; omega) | (change (_ : Nat) = _; omega) | (change (_ : Int) = _; omega))); (all_goals try (conv => whnf)))
      rename_i j hj
      refine LeW_updN (fun _ => rfl) (fun e => ?_) (fun e => ?_)
      · subst e
        ((repeat' ((conv => whnf) <;> first | exact trivial | (with_reducible first | refine And.intro ?_ ?_ | refine rows_lt1 ?_ | refine rows_lt2 ?_ ?_ | refine rows_lt3 ?_ ?_ ?_ | refine rows_lt4 ?_ ?_ ?_ ?_ | refine rows_lt5 ?_ ?_ ?_ ?_ ?_ | refine aggs_lt1 ?_ | refine aggs_lt2 ?_ ?_ | refine aggs_lt3 ?_ ?_ ?_ | refine fun (_ : Nat) => ?_) | refine fun (_ : (_ : Nat) < _) => ?_ | exact rfl | exact Nat.le_of_ble_eq_true rfl | (change (_ : Nat) ≤ _; omega) | (change (_ : Nat) = _; omega) | (change (_ : Int) = _; omega))); (all_goals try (conv => whnf)))
        rw [upTo_S]; exact pub_step id q (tw t) seed j _ hw
      · ((repeat' ((conv => whnf) <;> first | exact trivial | (with_reducible first | refine And.intro ?_ ?_ | refine rows_lt1 ?_ | refine rows_lt2 ?_ ?_ | refine rows_lt3 ?_ ?_ ?_ | refine rows_lt4 ?_ ?_ ?_ ?_ | refine rows_lt5 ?_ ?_ ?_ ?_ ?_ | refine aggs_lt1 ?_ | refine aggs_lt2 ?_ ?_ | refine aggs_lt3 ?_ ?_ ?_ | refine fun (_ : Nat) => ?_) | refine fun (_ : (_ : Nat) < _) => ?_ | exact rfl | exact Nat.le_of_ble_eq_true rfl | (change (_ : Nat) ≤ _; omega) | (change (_ : Nat) = _; omega) | (change (_ : Int) = _; omega))); (all_goals try (conv => whnf)))
        exact congrFun (upTo_ne _ _ _ e) _
    · obtain rfl : k = tp t := by omega
      have hpf := funext (pub_fin t id q seed)
      repeat ((conv => whnf); first | refine sdO ?_ | refine nlO ?_ | refine goA ?_ | refine goB ?_ | (apply Exists.intro; (repeat apply Exists.intro); refine caO ?_) | (refine Or.inl ?_; (conv => whnf); (repeat apply Exists.intro); refine caO ?_) | (refine Or.inr ?_; (conv => whnf); first | ((repeat apply Exists.intro); refine caO ?_) | (refine Or.inl ?_; (conv => whnf); (repeat apply Exists.intro); refine caO ?_) | (refine Or.inr ?_; (conv => whnf); (repeat apply Exists.intro); refine caO ?_)) | refine And.intro (by assumption) ?_ | refine goT ?_ | refine goF ?_ | refine goL ?_ | refine goR ?_ | refine goRL ?_ | refine goRR ?_)
      all_goals try (conv => whnf)
      ((repeat' ((conv => whnf) <;> first | exact trivial | (with_reducible first | refine And.intro ?_ ?_ | refine rows_lt1 ?_ | refine rows_lt2 ?_ ?_ | refine rows_lt3 ?_ ?_ ?_ | refine rows_lt4 ?_ ?_ ?_ ?_ | refine rows_lt5 ?_ ?_ ?_ ?_ ?_ | refine aggs_lt1 ?_ | refine aggs_lt2 ?_ ?_ | refine aggs_lt3 ?_ ?_ ?_ | refine fun (_ : Nat) => ?_) | refine fun (_ : (_ : Nat) < _) => ?_ | exact rfl | exact Nat.le_of_ble_eq_true rfl | (change (_ : Nat) ≤ _; omega) | (change (_ : Nat) = _; omega) | (change (_ : Int) = _; omega))); (all_goals try (conv => whnf)))
/-! ### Signatures -/
def C_ots_putg : SpecM := fun A K => ∃ l f v, A [.gsl 5 0 l, .u32 v] [(0, .grow 5 l (bys f))] ∧ 4 ≤ l ∧ K (.tup 0 fun _ => .junk) [(0, .grow 5 l (bys (put4 f 0 v)))]
theorem g_ots_putg : Gd 60 (mutF ty [true, false] C_ots_putg) := by
  refine goodM (E := PG []) (pgOK trivial) mixes Tryd.func60 (by kernel_rfl) (by kernel_rfl) ?_
  rintro A K ⟨l, f, v, hA, h4, hK⟩
  refine ⟨_, _, _, _, fun _ => none, hA, hK, by kernel_rfl, by kernel_rfl, ⟨rfl, trivial⟩, ⟨fun _ _ => trivial, trivial⟩, fun _ h => by omega, ?_⟩
  repeat ((conv => whnf); first | refine sdO ?_ | refine nlO ?_ | refine goA ?_ | refine goB ?_ | (apply Exists.intro; (repeat apply Exists.intro); refine caO ?_) | (refine Or.inl ?_; (conv => whnf); (repeat apply Exists.intro); refine caO ?_) | (refine Or.inr ?_; (conv => whnf); first | ((repeat apply Exists.intro); refine caO ?_) | (refine Or.inl ?_; (conv => whnf); (repeat apply Exists.intro); refine caO ?_) | (refine Or.inr ?_; (conv => whnf); (repeat apply Exists.intro); refine caO ?_)) | refine And.intro (by assumption) ?_ | refine goT ?_ | refine goF ?_ | refine goL ?_ | refine goR ?_ | refine goRL ?_ | refine goRR ?_)
  all_goals try (conv => whnf)
  refine ⟨some, ?_⟩
  ((repeat' ((conv => whnf) <;> first | exact trivial | (with_reducible first | refine And.intro ?_ ?_ | refine rows_lt1 ?_ | refine rows_lt2 ?_ ?_ | refine rows_lt3 ?_ ?_ ?_ | refine rows_lt4 ?_ ?_ ?_ ?_ | refine rows_lt5 ?_ ?_ ?_ ?_ ?_ | refine aggs_lt1 ?_ | refine aggs_lt2 ?_ ?_ | refine aggs_lt3 ?_ ?_ ?_ | refine fun (_ : Nat) => ?_) | refine fun (_ : (_ : Nat) < _) => ?_ | exact rfl | exact Nat.le_of_ble_eq_true rfl | (change (_ : Nat) ≤ _; omega) | (change (_ : Nat) = _; omega) | (change (_ : Int) = _; omega))); (all_goals try (conv => whnf)))
  all_goals skip
end Go.Proofs.YtnfebaialdfffaaDoor
