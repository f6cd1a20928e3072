/- One-time signatures: a digit of a text, the digits of a digest. -/
import Derived.Test.YtnfebaialdfffaaDoorO2
import Derived.Test.YtnfebaialdfffaaDoorGH
namespace Go.Proofs.YtnfebaialdfffaaDoor
open Go.RowKit
set_option maxRecDepth 100000
set_option maxHeartbeats 20000000
attribute [local irreducible] hsh rst sha256 press dig
/-- A digit. -/
def cf (b : Nat → BitVec 8) (i w : Nat) : Nat := (b (i / (8 / w))).toNat / 2 ^ (8 - w - w * (i % (8 / w))) % 2 ^ w
theorem cf_lt (b : Nat → BitVec 8) (i w : Nat) : cf b i w < 2 ^ w := Nat.mod_lt _ (Nat.pow_pos (by decide))
theorem n63_div (x : BitVec 8) (e : Nat) : N63 (((x.toNat / 2 ^ e : Nat) : Int).toNat) := by
  show x.toNat / 2 ^ e ≤ 9223372036854775807
  have := x.isLt
  exact Nat.le_trans (Nat.div_le_self _ _) (by omega)
theorem cf_fin (b : Nat → BitVec 8) (i w e m : Nat) (he : e = 8 - w - w * (i % (8 / w))) (hm : m = 2 ^ w - 1) : (b (i / (8 / w))).toNat / 2 ^ e &&& m = cf b i w := by
  subst he; subst hm
  exact Nat.and_two_pow_sub_one_eq_mod _ _
def C_ots_Coef : SpecP := fun A K => ∃ l b i w, A [bsl l b, .nat i, .nat w] ∧ wOK w ∧ i / (8 / w) < l ∧ l ≤ 1000000000 ∧ i ≤ 1000000000 ∧ K (.nat (cf b i w))
theorem g_ots_Coef : Gd 46 (pureP ty C_ots_Coef) := by
  refine goodP (E := PG []) (pgOK trivial) mixes Tryd.func46 (by kernel_rfl) (by kernel_rfl) ?_
  rintro A K ⟨l, b, i, w, hA, hw, hi, hl, hi2, hK⟩
  obtain rfl | rfl | rfl | rfl := hw
  · have hi : i / 8 < l := hi
    refine ⟨_, _, fun _ => none, hA, hK, by kernel_rfl, trivial, ?_⟩
    repeat ((conv => whnf); first | refine sdO ?_ | refine nlO ?_ | refine goA ?_ | refine goB ?_ | (apply Exists.intro; (repeat apply Exists.intro); refine caO ?_) | (refine Or.inl ?_; (conv => whnf); (repeat apply Exists.intro); refine caO ?_) | (refine Or.inr ?_; (conv => whnf); first | ((repeat apply Exists.intro); refine caO ?_) | (refine Or.inl ?_; (conv => whnf); (repeat apply Exists.intro); refine caO ?_) | (refine Or.inr ?_; (conv => whnf); (repeat apply Exists.intro); refine caO ?_)) | refine And.intro (by assumption) ?_ | refine goT ?_ | refine goF ?_ | refine goL ?_ | refine goR ?_ | refine goRL ?_ | refine goRR ?_)
    all_goals try (conv => whnf)
    refine ⟨Int.natCast_nonneg _, by decide, n63_div _ _, by unfold N63; decide, ?_⟩
    repeat ((conv => whnf); first | refine sdO ?_ | refine nlO ?_ | refine goA ?_ | refine goB ?_ | (apply Exists.intro; (repeat apply Exists.intro); refine caO ?_) | (refine Or.inl ?_; (conv => whnf); (repeat apply Exists.intro); refine caO ?_) | (refine Or.inr ?_; (conv => whnf); first | ((repeat apply Exists.intro); refine caO ?_) | (refine Or.inl ?_; (conv => whnf); (repeat apply Exists.intro); refine caO ?_) | (refine Or.inr ?_; (conv => whnf); (repeat apply Exists.intro); refine caO ?_)) | refine And.intro (by assumption) ?_ | refine goT ?_ | refine goF ?_ | refine goL ?_ | refine goR ?_ | refine goRL ?_ | refine goRR ?_)
    all_goals try (conv => whnf)
    refine cf_fin _ _ _ _ _ ?_ rfl
    simp only [Int.reduceToNat]; omega
  · have hi : i / 4 < l := hi
    refine ⟨_, _, fun _ => none, hA, hK, by kernel_rfl, trivial, ?_⟩
    repeat ((conv => whnf); first | refine sdO ?_ | refine nlO ?_ | refine goA ?_ | refine goB ?_ | (apply Exists.intro; (repeat apply Exists.intro); refine caO ?_) | (refine Or.inl ?_; (conv => whnf); (repeat apply Exists.intro); refine caO ?_) | (refine Or.inr ?_; (conv => whnf); first | ((repeat apply Exists.intro); refine caO ?_) | (refine Or.inl ?_; (conv => whnf); (repeat apply Exists.intro); refine caO ?_) | (refine Or.inr ?_; (conv => whnf); (repeat apply Exists.intro); refine caO ?_)) | refine And.intro (by assumption) ?_ | refine goT ?_ | refine goF ?_ | refine goL ?_ | refine goR ?_ | refine goRL ?_ | refine goRR ?_)
    all_goals try (conv => whnf)
    refine ⟨Int.natCast_nonneg _, by decide, n63_div _ _, by unfold N63; decide, ?_⟩
    repeat ((conv => whnf); first | refine sdO ?_ | refine nlO ?_ | refine goA ?_ | refine goB ?_ | (apply Exists.intro; (repeat apply Exists.intro); refine caO ?_) | (refine Or.inl ?_; (conv => whnf); (repeat apply Exists.intro); refine caO ?_) | (refine Or.inr ?_; (conv => whnf); first | ((repeat apply Exists.intro); refine caO ?_) | (refine Or.inl ?_; (conv => whnf); (repeat apply Exists.intro); refine caO ?_) | (refine Or.inr ?_; (conv => whnf); (repeat apply Exists.intro); refine caO ?_)) | refine And.intro (by assumption) ?_ | refine goT ?_ | refine goF ?_ | refine goL ?_ | refine goR ?_ | refine goRL ?_ | refine goRR ?_)
    all_goals try (conv => whnf)
    refine cf_fin _ _ _ _ _ ?_ rfl
    simp only [Int.reduceToNat]; omega
  · have hi : i / 2 < l := hi
    refine ⟨_, _, fun _ => none, hA, hK, by kernel_rfl, trivial, ?_⟩
    repeat ((conv => whnf); first | refine sdO ?_ | refine nlO ?_ | refine goA ?_ | refine goB ?_ | (apply Exists.intro; (repeat apply Exists.intro); refine caO ?_) | (refine Or.inl ?_; (conv => whnf); (repeat apply Exists.intro); refine caO ?_) | (refine Or.inr ?_; (conv => whnf); first | ((repeat apply Exists.intro); refine caO ?_) | (refine Or.inl ?_; (conv => whnf); (repeat apply Exists.intro); refine caO ?_) | (refine Or.inr ?_; (conv => whnf); (repeat apply Exists.intro); refine caO ?_)) | refine And.intro (by assumption) ?_ | refine goT ?_ | refine goF ?_ | refine goL ?_ | refine goR ?_ | refine goRL ?_ | refine goRR ?_)
    all_goals try (conv => whnf)
    refine ⟨Int.natCast_nonneg _, by decide, n63_div _ _, by unfold N63; decide, ?_⟩
    repeat ((conv => whnf); first | refine sdO ?_ | refine nlO ?_ | refine goA ?_ | refine goB ?_ | (apply Exists.intro; (repeat apply Exists.intro); refine caO ?_) | (refine Or.inl ?_; (conv => whnf); (repeat apply Exists.intro); refine caO ?_) | (refine Or.inr ?_; (conv => whnf); first | ((repeat apply Exists.intro); refine caO ?_) | (refine Or.inl ?_; (conv => whnf); (repeat apply Exists.intro); refine caO ?_) | (refine Or.inr ?_; (conv => whnf); (repeat apply Exists.intro); refine caO ?_)) | refine And.intro (by assumption) ?_ | refine goT ?_ | refine goF ?_ | refine goL ?_ | refine goR ?_ | refine goRL ?_ | refine goRR ?_)
    all_goals try (conv => whnf)
    refine cf_fin _ _ _ _ _ ?_ rfl
    simp only [Int.reduceToNat]; omega
  · have hi : i / 1 < l := hi
    refine ⟨_, _, fun _ => none, hA, hK, by kernel_rfl, trivial, ?_⟩
    repeat ((conv => whnf); first | refine sdO ?_ | refine nlO ?_ | refine goA ?_ | refine goB ?_ | (apply Exists.intro; (repeat apply Exists.intro); refine caO ?_) | (refine Or.inl ?_; (conv => whnf); (repeat apply Exists.intro); refine caO ?_) | (refine Or.inr ?_; (conv => whnf); first | ((repeat apply Exists.intro); refine caO ?_) | (refine Or.inl ?_; (conv => whnf); (repeat apply Exists.intro); refine caO ?_) | (refine Or.inr ?_; (conv => whnf); (repeat apply Exists.intro); refine caO ?_)) | refine And.intro (by assumption) ?_ | refine goT ?_ | refine goF ?_ | refine goL ?_ | refine goR ?_ | refine goRL ?_ | refine goRR ?_)
    all_goals try (conv => whnf)
    refine ⟨Int.natCast_nonneg _, by decide, n63_div _ _, by unfold N63; decide, ?_⟩
    repeat ((conv => whnf); first | refine sdO ?_ | refine nlO ?_ | refine goA ?_ | refine goB ?_ | (apply Exists.intro; (repeat apply Exists.intro); refine caO ?_) | (refine Or.inl ?_; (conv => whnf); (repeat apply Exists.intro); refine caO ?_) | (refine Or.inr ?_; (conv => whnf); first | ((repeat apply Exists.intro); refine caO ?_) | (refine Or.inl ?_; (conv => whnf); (repeat apply Exists.intro); refine caO ?_) | (refine Or.inr ?_; (conv => whnf); (repeat apply Exists.intro); refine caO ?_)) | refine And.intro (by assumption) ?_ | refine goT ?_ | refine goF ?_ | refine goL ?_ | refine goR ?_ | refine goRL ?_ | refine goRR ?_)
    all_goals try (conv => whnf)
    refine cf_fin _ _ _ _ _ ?_ rfl
    simp only [Int.reduceToNat]; omega
/-- The checksum of a digest's first digits. -/
def ckN (d : Nat → BitVec 8) (w : Nat) : Nat → Nat
  | 0 => 0
  | k + 1 => ckN d w k + (2 ^ w - 1 - cf d k w)
theorem ckN_le (d : Nat → BitVec 8) (w : Nat) : ∀ k, ckN d w k ≤ k * (2 ^ w - 1)
  | 0 => Nat.zero_le _
  | k + 1 => by
    have := ckN_le d w k
    unfold ckN
    rw [Nat.succ_mul]; omega
theorem pow_le (w : Nat) (h : wOK w) : 2 ^ w ≤ 256 ∧ 1 ≤ w ∧ w ≤ 8 ∧ 256 / w * w = 256 ∧ (8 / w) * w = 8 := by
  rcases h with rfl | rfl | rfl | rfl <;> decide
theorem idx_lt (w k : Nat) (h : wOK w) (hk : k < 256 / w) : k / (8 / w) < 32 := by
  rcases h with rfl | rfl | rfl | rfl <;> simp at * <;> omega
theorem ck_shl (c l : Nat) (hc : c ≤ 65280) (hl : l ≤ 7) : N63 (c * 2 ^ l) := by
  unfold N63
  exact Nat.le_trans (Nat.mul_le_mul hc (Nat.pow_le_pow_right (by decide) hl)) (by decide)
def C_ots_cks : SpecP := fun A K => ∃ w p l d, A [prA w p l, arr8 32 d] ∧ wOK w ∧ l ≤ 7 ∧ K (.nat (ckN d w (256 / w) * 2 ^ l))
def L_cks (w p l : Nat) (d : Nat → BitVec 8) : LI := ⟨Nat, (· ≤ 256 / w), fun k => [(2, .ptr (ty 81) 8 []), (3, .ptr TD 16 []), (5, .nat (ckN d w k)), (9, .nat (256 / w)), (10, .nat k)], fun _ => [(8, .var (ty 81) (prA w p l)), (16, .var TD (arr8 32 d))], fun k => 256 / w - k, some, some⟩
theorem g_ots_cks : Gd 45 (pureP ty C_ots_cks) := by
  refine goodP (E := PG [(59, pureP ty C_ots_end), (46, pureP ty C_ots_Coef)]) (pgOK ⟨g_ots_end, g_ots_Coef, trivial⟩) mixes Tryd.func45 (by kernel_rfl) (by kernel_rfl) ?_
  rintro A K ⟨w, p, l, d, hA, hw, hl, hK⟩
  obtain ⟨hp, h1, h8, _, _⟩ := pow_le w hw
  refine ⟨_, _, loops [(3, L_cks w p l d)], hA, hK, by kernel_rfl, trivial, ?_⟩
  repeat ((conv => whnf); first | refine sdO ?_ | refine nlO ?_ | refine goA ?_ | refine goB ?_ | (apply Exists.intro; (repeat apply Exists.intro); refine caO ?_) | (refine Or.inl ?_; (conv => whnf); (repeat apply Exists.intro); refine caO ?_) | (refine Or.inr ?_; (conv => whnf); first | ((repeat apply Exists.intro); refine caO ?_) | (refine Or.inl ?_; (conv => whnf); (repeat apply Exists.intro); refine caO ?_) | (refine Or.inr ?_; (conv => whnf); (repeat apply Exists.intro); refine caO ?_)) | refine And.intro (by assumption) ?_ | refine goT ?_ | refine goF ?_ | refine goL ?_ | refine goR ?_ | refine goRL ?_ | refine goRR ?_)
  all_goals try (conv => whnf)
  refine Exists.intro (fun _ => True) (And.intro (Enter.mk (0 : Nat) (Nat.zero_le _) trivial ?_) (fun (k : Nat) (hk : k ≤ 256 / w) _ => ?_))
  · ((repeat' ((conv => whnf) <;> first | exact trivial | (with_reducible first | refine And.intro ?_ ?_ | refine rows_lt1 ?_ | refine rows_lt2 ?_ ?_ | refine rows_lt3 ?_ ?_ ?_ | refine rows_lt4 ?_ ?_ ?_ ?_ | refine rows_lt5 ?_ ?_ ?_ ?_ ?_ | refine aggs_lt1 ?_ | refine aggs_lt2 ?_ ?_ | refine aggs_lt3 ?_ ?_ ?_ | refine fun (_ : Nat) => ?_) | refine fun (_ : (_ : Nat) < _) => ?_ | exact rfl | exact Nat.le_of_ble_eq_true rfl | (change (_ : Nat) ≤ _; omega) | (change (_ : Nat) = _; omega) | (change (_ : Int) = _; omega))); (all_goals try (conv => whnf)))
    all_goals skip
  have h256 : 256 / w ≤ 256 := Nat.div_le_self _ _
  have hck : ckN d w k ≤ 65280 := Nat.le_trans (ckN_le d w k) (Nat.mul_le_mul (show k ≤ 256 by omega) (show 2 ^ w - 1 ≤ 255 by omega))
  have d0 : (fun x => d (0 + x)) = d := funext fun x => by rw [Nat.zero_add]
  have hcf : cf (fun x => d (0 + x)) k w < 2 ^ w := cf_lt _ k w
  rcases Nat.lt_or_ge k (256 / w) with h | h
  · have hi := idx_lt w k hw h
    have hk2 : k ≤ 1000000000 := by omega
    repeat ((conv => whnf); first | refine sdO ?_ | refine nlO ?_ | refine goA ?_ | refine goB ?_ | (apply Exists.intro; (repeat apply Exists.intro); refine caO ?_) | (refine Or.inl ?_; (conv => whnf); (repeat apply Exists.intro); refine caO ?_) | (refine Or.inr ?_; (conv => whnf); first | ((repeat apply Exists.intro); refine caO ?_) | (refine Or.inl ?_; (conv => whnf); (repeat apply Exists.intro); refine caO ?_) | (refine Or.inr ?_; (conv => whnf); (repeat apply Exists.intro); refine caO ?_)) | refine And.intro (by assumption) ?_ | refine goT ?_ | refine goF ?_ | refine goL ?_ | refine goR ?_ | refine goRL ?_ | refine goRR ?_)
    all_goals try (conv => whnf)
    refine Again.mk (k + 1 : Nat) (show k + 1 ≤ 256 / w by omega) trivial (show 256 / w - (k + 1) < 256 / w - k by omega) ?_
    ((repeat' ((conv => whnf) <;> first | exact trivial | (with_reducible first | refine And.intro ?_ ?_ | refine rows_lt1 ?_ | refine rows_lt2 ?_ ?_ | refine rows_lt3 ?_ ?_ ?_ | refine rows_lt4 ?_ ?_ ?_ ?_ | refine rows_lt5 ?_ ?_ ?_ ?_ ?_ | refine aggs_lt1 ?_ | refine aggs_lt2 ?_ ?_ | refine aggs_lt3 ?_ ?_ ?_ | refine fun (_ : Nat) => ?_) | refine fun (_ : (_ : Nat) < _) => ?_ | exact rfl | exact Nat.le_of_ble_eq_true rfl | (change (_ : Nat) ≤ _; omega) | (change (_ : Nat) = _; omega) | (change (_ : Int) = _; omega))); (all_goals try (conv => whnf)))
    rw [d0] at hcf ⊢
    show _ = ((ckN d w k + (2 ^ w - 1 - cf d k w) : Nat) : Int)
    omega
  · obtain rfl : k = 256 / w := by omega
    have hb := ck_shl _ l hck hl
    repeat ((conv => whnf); first | refine sdO ?_ | refine nlO ?_ | refine goA ?_ | refine goB ?_ | (apply Exists.intro; (repeat apply Exists.intro); refine caO ?_) | (refine Or.inl ?_; (conv => whnf); (repeat apply Exists.intro); refine caO ?_) | (refine Or.inr ?_; (conv => whnf); first | ((repeat apply Exists.intro); refine caO ?_) | (refine Or.inl ?_; (conv => whnf); (repeat apply Exists.intro); refine caO ?_) | (refine Or.inr ?_; (conv => whnf); (repeat apply Exists.intro); refine caO ?_)) | refine And.intro (by assumption) ?_ | refine goT ?_ | refine goF ?_ | refine goL ?_ | refine goR ?_ | refine goRL ?_ | refine goRR ?_)
    all_goals try (conv => whnf)
/-- A digest with its checksum. -/
def tx (d : Nat → BitVec 8) (c j : Nat) : BitVec 8 := if j < 32 then d j else if j = 32 then BitVec.ofNat 8 (c / 256) else BitVec.ofNat 8 c
def dgT (t : BitVec 32) (d : Nat → BitVec 8) (i : Nat) : Nat := cf (tx d (ckN d (tw t) (256 / tw t) * 2 ^ tlS t)) i (tw t)
theorem ot_facts (t : BitVec 32) (h : otOK t) : wOK (tw t) ∧ tp t ≤ 265 ∧ 34 ≤ tp t ∧ tlS t ≤ 7 := by
  obtain rfl | rfl | rfl | rfl := ot_cases h
  · exact ⟨.inl rfl, by decide, by decide, by decide⟩
  · exact ⟨.inr (.inl rfl), by decide, by decide, by decide⟩
  · exact ⟨.inr (.inr (.inl rfl)), by decide, by decide, by decide⟩
  · exact ⟨.inr (.inr (.inr rfl)), by decide, by decide, by decide⟩
theorem ot_idx (t : BitVec 32) (h : otOK t) (i : Nat) (hi : i < tp t) : i / (8 / tw t) < 34 := by
  obtain rfl | rfl | rfl | rfl := ot_cases h
  · have hi : i < 265 := hi
    show i / 8 < 34; omega
  · have hi : i < 133 := hi
    show i / 4 < 34; omega
  · have hi : i < 67 := hi
    show i / 2 < 34; omega
  · have hi : i < 34 := hi
    show i / 1 < 34; omega
attribute [local irreducible] tw tp tlS cf ckN
abbrev nts (f : Nat → Nat) : Nat → AV := fun i => .nat (f i)
abbrev TPr : Ty := ty 81
theorem LeW_updN {m : Nat → Option Row} {ty : TypeId → Ty} {rw : List (Nat × Row)} {ρ : Nat → Option Nat} {k j : Nat} {f : Nat → AV} {v b : AV} (hv : ∀ j, updA f k v j = if j = k then v else f j) (h1 : j = k → LeW m ty rw ρ v b) (h2 : ¬ j = k → LeW m ty rw ρ (f j) b) : LeW m ty rw ρ (updA f k v j) b := by
  rw [hv]
  by_cases h : j = k
  · rw [if_pos h]; exact h1 h
  · rw [if_neg h]; exact h2 h
theorem dg_next (f : Nat → Nat) (k j : Nat) (e : ¬ j = k) : (if j < k then f j else 0) = if j < k + 1 then f j else 0 := by
  by_cases h : j < k
  · rw [if_pos h, if_pos (by omega)]
  · rw [if_neg h, if_neg (by omega)]
theorem tx_fin (d : Nat → BitVec 8) (c x : Nat) (g : Nat → BitVec 8) (h0 : g 0 = BitVec.ofNat 8 (c / 256)) (h1 : g 1 = BitVec.ofNat 8 c) (hx : x < 34) : (if x < 32 - 0 then d (0 + x) else g (x - (32 - 0))) = tx d c x := by
  unfold tx
  by_cases h : x < 32
  · rw [if_pos (show x < 32 - 0 from h), if_pos h, Nat.zero_add]
  · rw [if_neg (show ¬ x < 32 - 0 from h), if_neg h]
    by_cases e : x = 32
    · subst e; rw [if_pos rfl]; exact h0
    · obtain rfl : x = 33 := by omega
      rw [if_neg e]; exact h1
def C_ots_Digits : SpecR := fun A K => ∃ t d, A [.u32 t, arr8 32 d] ∧ otOK t ∧ K (.gsl 3 8 (tp t)) [(8, .grow 3 (tp t) (nts (dgT t d)))]
def L_Digits (t : BitVec 32) (d : Nat → BitVec 8) : LI := ⟨Nat, (· ≤ tp t), fun k => [(5, .ptr TPr 1072 []), (8, .gsl 5 4160 34), (9, .gsl 3 5144 (tp t)), (33, .nat (tp t)), (34, .nat k)],
  fun k => [(1072, .var TPr (prA (tw t) (tp t) (tlS t))), (4160, .grow 5 34 (bys (tx d (ckN d (tw t) (256 / tw t) * 2 ^ tlS t)))), (5144, .grow 3 (tp t) (nts fun i => if i < k then dgT t d i else 0))], fun k => tp t - k, some, some⟩
theorem g_ots_Digits : Gd 24 (pureR ty C_ots_Digits) := by
  refine goodR (E := PG [(33, pureP ty C_ots_Params), (45, pureP ty C_ots_cks), (46, pureP ty C_ots_Coef)]) (pgOK ⟨g_ots_Params, g_ots_cks, g_ots_Coef, trivial⟩) mixes Tryd.func24 (by kernel_rfl) (by kernel_rfl) ?_
  rintro A K ⟨t, d, hA, ht, hK⟩
  obtain ⟨hw, hp1, hp2, hl7⟩ := ot_facts t ht
  refine ⟨_, _, _, loops [(8, L_Digits t d)], hA, hK, by kernel_rfl, by kernel_rfl, ⟨fun _ _ => trivial, trivial⟩, trivial, ?_⟩
  repeat ((conv => whnf); first | refine sdO ?_ | refine nlO ?_ | refine goA ?_ | refine goB ?_ | (apply Exists.intro; (repeat apply Exists.intro); refine caO ?_) | (refine Or.inl ?_; (conv => whnf); (repeat apply Exists.intro); refine caO ?_) | (refine Or.inr ?_; (conv => whnf); first | ((repeat apply Exists.intro); refine caO ?_) | (refine Or.inl ?_; (conv => whnf); (repeat apply Exists.intro); refine caO ?_) | (refine Or.inr ?_; (conv => whnf); (repeat apply Exists.intro); refine caO ?_)) | refine And.intro (by assumption) ?_ | refine goT ?_ | refine goF ?_ | refine goL ?_ | refine goR ?_ | refine goRL ?_ | refine goRR ?_)
  all_goals try (conv => whnf)
  refine Exists.intro (fun _ => True) (And.intro (Enter.mk (0 : Nat) (Nat.zero_le _) trivial ?_) (fun (k : Nat) (hk : k ≤ tp t) _ => ?_))
  · ((repeat' ((conv => whnf) <;> first | exact trivial | (with_reducible first | refine And.intro ?_ ?_ | refine rows_lt1 ?_ | refine rows_lt2 ?_ ?_ | refine rows_lt3 ?_ ?_ ?_ | refine rows_lt4 ?_ ?_ ?_ ?_ | refine rows_lt5 ?_ ?_ ?_ ?_ ?_ | refine aggs_lt1 ?_ | refine aggs_lt2 ?_ ?_ | refine aggs_lt3 ?_ ?_ ?_ | refine fun (_ : Nat) => ?_) | refine fun (_ : (_ : Nat) < _) => ?_ | exact rfl | exact Nat.le_of_ble_eq_true rfl | (change (_ : Nat) ≤ _; omega) | (change (_ : Nat) = _; omega) | (change (_ : Int) = _; omega))); (all_goals try (conv => whnf)))
    rename_i x hx
    exact tx_fin d (ckN d (tw t) (256 / tw t) * 2 ^ tlS t) x (fun i => asU8 (litA (.int .u8) [(0, .u8 (BitVec.ofNat 8 (ckN d (tw t) (256 / tw t) * 2 ^ tlS t / 256))), (1, .u8 (BitVec.ofNat 8 (ckN d (tw t) (256 / tw t) * 2 ^ tlS t)))] i)) rfl rfl hx
  rcases Nat.lt_or_ge k (tp t) with h | h
  · have hi := ot_idx t ht k h
    have hk2 : k ≤ 1000000000 := by omega
    repeat ((conv => whnf); first | refine sdO ?_ | refine nlO ?_ | refine goA ?_ | refine goB ?_ | (apply Exists.intro; (repeat apply Exists.intro); refine caO ?_) | (refine Or.inl ?_; (conv => whnf); (repeat apply Exists.intro); refine caO ?_) | (refine Or.inr ?_; (conv => whnf); first | ((repeat apply Exists.intro); refine caO ?_) | (refine Or.inl ?_; (conv => whnf); (repeat apply Exists.intro); refine caO ?_) | (refine Or.inr ?_; (conv => whnf); (repeat apply Exists.intro); refine caO ?_)) | refine And.intro (by assumption) ?_ | refine goT ?_ | refine goF ?_ | refine goL ?_ | refine goR ?_ | refine goRL ?_ | refine goRR ?_)
    all_goals try (conv => whnf)
    refine Again.mk (k + 1 : Nat) (show k + 1 ≤ tp t by omega) trivial (show tp t - (k + 1) < tp t - k by omega) ?_
    ((repeat' ((conv => whnf) <;> first | exact trivial | (with_reducible first | refine And.intro ?_ ?_ | refine rows_lt1 ?_ | refine rows_lt2 ?_ ?_ | refine rows_lt3 ?_ ?_ ?_ | refine rows_lt4 ?_ ?_ ?_ ?_ | refine rows_lt5 ?_ ?_ ?_ ?_ ?_ | refine aggs_lt1 ?_ | refine aggs_lt2 ?_ ?_ | refine aggs_lt3 ?_ ?_ ?_ | refine fun (_ : Nat) => ?_) | refine fun (_ : (_ : Nat) < _) => ?_ | exact rfl | exact Nat.le_of_ble_eq_true rfl | (change (_ : Nat) ≤ _; omega) | (change (_ : Nat) = _; omega) | (change (_ : Int) = _; omega))); (all_goals try (conv => whnf)))
    rename_i j hj
    refine LeW_updN (fun _ => rfl) (fun e => ?_) (fun e => ?_)
    · subst e
      ((repeat' ((conv => whnf) <;> first | exact trivial | (with_reducible first | refine And.intro ?_ ?_ | refine rows_lt1 ?_ | refine rows_lt2 ?_ ?_ | refine rows_lt3 ?_ ?_ ?_ | refine rows_lt4 ?_ ?_ ?_ ?_ | refine rows_lt5 ?_ ?_ ?_ ?_ ?_ | refine aggs_lt1 ?_ | refine aggs_lt2 ?_ ?_ | refine aggs_lt3 ?_ ?_ ?_ | refine fun (_ : Nat) => ?_) | refine fun (_ : (_ : Nat) < _) => ?_ | exact rfl | exact Nat.le_of_ble_eq_true rfl | (change (_ : Nat) ≤ _; omega) | (change (_ : Nat) = _; omega) | (change (_ : Int) = _; omega))); (all_goals try (conv => whnf)))
      exact (if_pos (Nat.lt_succ_self j)).symm
    · ((repeat' ((conv => whnf) <;> first | exact trivial | (with_reducible first | refine And.intro ?_ ?_ | refine rows_lt1 ?_ | refine rows_lt2 ?_ ?_ | refine rows_lt3 ?_ ?_ ?_ | refine rows_lt4 ?_ ?_ ?_ ?_ | refine rows_lt5 ?_ ?_ ?_ ?_ ?_ | refine aggs_lt1 ?_ | refine aggs_lt2 ?_ ?_ | refine aggs_lt3 ?_ ?_ ?_ | refine fun (_ : Nat) => ?_) | refine fun (_ : (_ : Nat) < _) => ?_ | exact rfl | exact Nat.le_of_ble_eq_true rfl | (change (_ : Nat) ≤ _; omega) | (change (_ : Nat) = _; omega) | (change (_ : Int) = _; omega))); (all_goals try (conv => whnf)))
      exact dg_next _ _ _ e
  · obtain rfl : k = tp t := by omega
    repeat ((conv => whnf); first | refine sdO ?_ | refine nlO ?_ | refine goA ?_ | refine goB ?_ | (apply Exists.intro; (repeat apply Exists.intro); refine caO ?_) | (refine Or.inl ?_; (conv => whnf); (repeat apply Exists.intro); refine caO ?_) | (refine Or.inr ?_; (conv => whnf); first | ((repeat apply Exists.intro); refine caO ?_) | (refine Or.inl ?_; (conv => whnf); (repeat apply Exists.intro); refine caO ?_) | (refine Or.inr ?_; (conv => whnf); (repeat apply Exists.intro); refine caO ?_)) | refine And.intro (by assumption) ?_ | refine goT ?_ | refine goF ?_ | refine goL ?_ | refine goR ?_ | refine goRL ?_ | refine goRR ?_)
    all_goals try (conv => whnf)
    (refine out_fnd ?_; (repeat' ((conv => whnf) <;> first | exact trivial | (with_reducible first | refine And.intro ?_ ?_ | refine rows_lt1 ?_ | refine rows_lt2 ?_ ?_ | refine rows_lt3 ?_ ?_ ?_ | refine rows_lt4 ?_ ?_ ?_ ?_ | refine rows_lt5 ?_ ?_ ?_ ?_ ?_ | refine aggs_lt1 ?_ | refine aggs_lt2 ?_ ?_ | refine aggs_lt3 ?_ ?_ ?_ | refine fun (_ : Nat) => ?_) | refine fun (_ : (_ : Nat) < _) => ?_ | exact rfl | exact Nat.le_of_ble_eq_true rfl | (change (_ : Nat) ≤ _; omega) | (change (_ : Nat) = _; omega) | (change (_ : Int) = _; omega))); (all_goals try (conv => whnf)))
    all_goals (rename_i x hx; exact if_pos hx)
end Go.Proofs.YtnfebaialdfffaaDoor
