/- One-time signatures: of two digests a digit rises and a digit falls. -/
import Derived.Test.YtfdigpmkjhjdhaaDoorOD
namespace Go.Proofs.YtfdigpmkjhjdhaaDoor
open Go.RowKit
set_option maxRecDepth 100000
set_option maxHeartbeats 4000000
/-- Whether one of the first digits rises. -/
def rb (f g : Nat → Nat) : Nat → Bool
  | 0 => false
  | k + 1 => rb f g k || decide (f k < g k)
theorem rb_no {f g : Nat → Nat} : ∀ {n : Nat}, rb f g n = false → ∀ i, i < n → g i ≤ f i
  | 0, _, i, hi => absurd hi (Nat.not_lt_zero i)
  | n + 1, h, i, hi => by
    have h : (rb f g n || decide (f n < g n)) = false := h
    rw [Bool.or_eq_false_iff] at h
    rcases Nat.lt_or_ge i n with h2 | h2
    · exact rb_no h.1 i h2
    · obtain rfl : i = n := by omega
      exact Nat.not_lt.1 (of_decide_eq_false h.2)
theorem rb_none {f g : Nat → Nat} : ∀ {n : Nat}, (∀ i, i < n → f i = g i) → rb f g n = false
  | 0, _ => rfl
  | n + 1, h => by
    show (rb f g n || decide (f n < g n)) = false
    rw [rb_none (fun i hi => h i (by omega)), h n (by omega)]
    simp
theorem cf_at (d : Nat → BitVec 8) (w q j m : Nat) (hq : 8 / w = q) (hm : m < q) : cf d (q * j + m) w = (d j).toNat / 2 ^ (8 - w - w * m) % 2 ^ w := by
  unfold cf
  rw [hq, Nat.mul_add_div (by omega), Nat.mul_add_mod, Nat.div_eq_of_lt hm, Nat.mod_eq_of_lt hm, Nat.add_zero]
theorem byte_eq (x y : BitVec 8) (h : x.toNat = y.toNat) : x = y := BitVec.eq_of_toNat_eq h
theorem pow_dec (x y w : Nat) : ∀ q, (∀ k, k < q → x / 2 ^ (w * k) % 2 ^ w = y / 2 ^ (w * k) % 2 ^ w) → x % 2 ^ (w * q) = y % 2 ^ (w * q)
  | 0, _ => by rw [Nat.mul_zero, Nat.pow_zero, Nat.mod_one, Nat.mod_one]
  | q + 1, h => by
    rw [Nat.mul_succ, Nat.pow_add, Nat.mod_mul, Nat.mod_mul, pow_dec x y w q (fun k hk => h k (by omega)), h q (by omega)]
theorem wq {w : Nat} (hw : wOK w) : w * (8 / w) = 8 ∧ 256 / w = 8 / w * 32 ∧ 1 ≤ 8 / w ∧ 1 ≤ w ∧ w ≤ 8 := by
  rcases hw with rfl | rfl | rfl | rfl <;> decide
theorem dig_inj (d e : Nat → BitVec 8) (w : Nat) (hw : wOK w) (h : ∀ k, k < 256 / w → cf d k w = cf e k w) (j : Nat) (hj : j < 32) : d j = e j := by
  apply byte_eq
  have l1 := (d j).isLt
  have l2 := (e j).isLt
  obtain ⟨hq, hN, _, _, _⟩ := wq hw
  have key := pow_dec (d j).toNat (e j).toNat w (8 / w) fun k hk => by
    have hm : 8 / w - 1 - k < 8 / w := by omega
    have hlt : 8 / w * j + (8 / w - 1 - k) < 256 / w := by
      rw [hN]
      have : 8 / w * (j + 1) ≤ 8 / w * 32 := Nat.mul_le_mul_left _ (by omega)
      rw [Nat.mul_succ] at this
      omega
    have := h _ hlt
    rw [cf_at d w _ j _ rfl hm, cf_at e w _ j _ rfl hm] at this
    have hx : 8 - w - w * (8 / w - 1 - k) = w * k := by
      have e2 : (8 / w - 1 - k).succ + k = 8 / w := by omega
      have e1 : w * (8 / w - 1 - k) + w + w * k = w * (8 / w) := by
        rw [← Nat.mul_succ, ← Nat.mul_add, e2]
      rw [hq] at e1
      omega
    rwa [hx] at this
  rw [hq] at key
  change (d j).toNat % 256 = (e j).toNat % 256 at key
  omega
theorem ck_mono (d e : Nat → BitVec 8) (w : Nat) : ∀ n, (∀ k, k < n → cf e k w ≤ cf d k w) → ckN d w n ≤ ckN e w n
  | 0, _ => Nat.le_refl _
  | n + 1, h => by
    have := ck_mono d e w n (fun k hk => h k (by omega))
    have h2 := h n (by omega)
    rw [ckN_succ, ckN_succ]; omega
theorem ck_strict (d e : Nat → BitVec 8) (w i : Nat) : ∀ n, i < n → cf e i w < cf d i w → (∀ k, k < n → cf e k w ≤ cf d k w) → ckN d w n < ckN e w n
  | 0, hi, _, _ => absurd hi (Nat.not_lt_zero i)
  | n + 1, hi, hs, h => by
    have h2 := h n (by omega)
    have hm := ck_mono d e w n (fun k hk => h k (by omega))
    have l1 := cf_lt d n w
    rw [ckN_succ, ckN_succ]
    rcases Nat.lt_or_ge i n with h3 | h3
    · have := ck_strict d e w i n h3 hs (fun k hk => h k (by omega))
      omega
    · obtain rfl : i = n := by omega
      omega
theorem ck_cong (d e : Nat → BitVec 8) (w : Nat) : ∀ n, (∀ k, k < n → cf d k w = cf e k w) → ckN d w n = ckN e w n
  | 0, _ => rfl
  | n + 1, h => by rw [ckN_succ, ckN_succ, ck_cong d e w n (fun k hk => h k (by omega)), h n (by omega)]
theorem tx_in (d : Nat → BitVec 8) (c w k : Nat) (hw : wOK w) (hk : k < 256 / w) : cf (tx d c) k w = cf d k w := by
  have hi := idx_lt w k hw hk
  exact cf_cong (l := 32) (fun j hj => by unfold tx; rw [if_pos hj]) w k hi
theorem tx32 (d : Nat → BitVec 8) (c : Nat) : (tx d c 32).toNat = c / 256 % 256 := by
  unfold tx; rw [if_neg (by decide), if_pos rfl, BitVec.toNat_ofNat]
theorem tx33 (d : Nat → BitVec 8) (c : Nat) : (tx d c 33).toNat = c % 256 := by
  unfold tx; rw [if_neg (by decide), if_neg (by decide), BitVec.toNat_ofNat]
theorem nb16 (Z a w : Nat) (h : a + w ≤ 8) : Z / 256 % 256 / 2 ^ a % 2 ^ w = Z / 2 ^ (a + 8) % 2 ^ w := by
  have e : 256 = 2 ^ a * 2 ^ (8 - a) := by rw [← Nat.pow_add, show a + (8 - a) = 8 by omega]
  have e2 : Z / 256 % 256 / 2 ^ a = Z / 256 / 2 ^ a % 2 ^ (8 - a) := by
    conv => lhs; arg 1; arg 2; rw [e]
    exact Nat.mod_mul_right_div_self _ _ _
  rw [e2, Nat.mod_mod_of_dvd _ (Nat.pow_dvd_pow 2 (show w ≤ 8 - a by omega)), Nat.div_div_eq_div_mul, Nat.mul_comm, Nat.pow_add]
theorem nl16 (Z a w : Nat) (h : a + w ≤ 8) : Z % 256 / 2 ^ a % 2 ^ w = Z / 2 ^ a % 2 ^ w := by
  have e : 256 = 2 ^ a * 2 ^ (8 - a) := by rw [← Nat.pow_add, show a + (8 - a) = 8 by omega]
  have e2 : Z % 256 / 2 ^ a = Z / 2 ^ a % 2 ^ (8 - a) := by
    conv => lhs; arg 1; arg 2; rw [e]
    exact Nat.mod_mul_right_div_self _ _ _
  rw [e2, Nat.mod_mod_of_dvd _ (Nat.pow_dvd_pow 2 (show w ≤ 8 - a by omega))]
theorem stepd (X Y a w : Nat) (h : Y / 2 ^ (a + w) ≤ X / 2 ^ (a + w)) (hd : Y / 2 ^ a % 2 ^ w ≤ X / 2 ^ a % 2 ^ w) : Y / 2 ^ a ≤ X / 2 ^ a := by
  have e1 := Nat.div_add_mod (X / 2 ^ a) (2 ^ w)
  have e2 := Nat.div_add_mod (Y / 2 ^ a) (2 ^ w)
  rw [Nat.div_div_eq_div_mul, ← Nat.pow_add] at e1 e2
  have := Nat.mul_le_mul_left (2 ^ w) h
  omega
theorem chain_le (X Y w q : Nat) (hq : w * q = 8) (h0 : Y / 2 ^ 16 ≤ X / 2 ^ 16) (h : ∀ m, m < q → Y / 2 ^ (16 - w - w * m) % 2 ^ w ≤ X / 2 ^ (16 - w - w * m) % 2 ^ w) : ∀ m, m ≤ q → Y / 2 ^ (16 - w * m) ≤ X / 2 ^ (16 - w * m)
  | 0, _ => h0
  | m + 1, hm => by
    have hi := chain_le X Y w q hq h0 h m (by omega)
    have hwm : w * (m + 1) ≤ 8 := by rw [← hq]; exact Nat.mul_le_mul_left _ hm
    rw [Nat.mul_succ] at hwm
    have e : 16 - w * (m + 1) = 16 - w - w * m := by rw [Nat.mul_succ]; omega
    rw [e]
    refine stepd X Y _ w ?_ (h m (by omega))
    rw [show 16 - w - w * m + w = 16 - w * m by omega]
    exact hi
theorem tail_gen (w : Nat) (hw : wOK w) (d e : Nat → BitVec 8) (x y : Nat) (hx : x * 2 ^ (8 - w) < 65536) (hy : y * 2 ^ (8 - w) < 65536) (h : ∀ i, 256 / w ≤ i → i < 33 * (8 / w) + 1 → cf (tx e (y * 2 ^ (8 - w))) i w ≤ cf (tx d (x * 2 ^ (8 - w))) i w) : y ≤ x := by
  obtain ⟨hq, hN, hq1, hw1, hw8⟩ := wq hw
  rw [hN] at h
  generalize 8 / w = q at *
  generalize hX : x * 2 ^ (8 - w) = X at *
  generalize hY : y * 2 ^ (8 - w) = Y at *
  have hwq : 8 / w = q := by rw [← hq, Nat.mul_div_cancel_left _ (by omega)]
  have c8 := chain_le X Y w q hq (by rw [Nat.div_eq_of_lt hy]; exact Nat.zero_le _) (fun m hm => by
    have hwm : w * (m + 1) ≤ 8 := by rw [← hq]; exact Nat.mul_le_mul_left _ hm
    rw [Nat.mul_succ] at hwm
    have := h (q * 32 + m) (by omega) (by omega)
    rw [cf_at _ w q 32 m hwq hm, cf_at _ w q 32 m hwq hm, tx32, tx32, nb16 _ _ _ (by omega), nb16 _ _ _ (by omega)] at this
    rwa [show 8 - w - w * m + 8 = 16 - w - w * m by omega] at this) q (Nat.le_refl _)
  rw [hq] at c8
  have k8 := h (q * 33 + 0) (by omega) (by omega)
  rw [cf_at _ w q 33 0 hwq hq1, cf_at _ w q 33 0 hwq hq1, tx33, tx33, Nat.mul_zero, Nat.sub_zero, nl16 _ _ _ (by omega), nl16 _ _ _ (by omega)] at k8
  have := stepd X Y (8 - w) w (by rw [show 8 - w + w = 16 - 8 by omega]; exact c8) k8
  rw [← hX, ← hY, Nat.mul_div_cancel _ (Nat.pow_pos (by decide)), Nat.mul_div_cancel _ (Nat.pow_pos (by decide))] at this
  exact this
theorem tail_le (t : BitVec 32) (ht : otOK t) (d e : Nat → BitVec 8) (x y : Nat) (hx : x * 2 ^ tlS t < 65536) (hy : y * 2 ^ tlS t < 65536) (h : ∀ i, 256 / tw t ≤ i → i < tp t → cf (tx e (y * 2 ^ tlS t)) i (tw t) ≤ cf (tx d (x * 2 ^ tlS t)) i (tw t)) : y ≤ x := by
  have hw := (ot_facts t ht).1
  have e1 : tlS t = 8 - tw t ∧ tp t = 33 * (8 / tw t) + 1 := by
    rcases ot_cases ht with rfl | rfl | rfl | rfl <;> decide
  rw [e1.1] at hx hy h
  rw [e1.2] at h
  exact tail_gen (tw t) hw d e x y hx hy h
theorem ck_lt16 (t : BitVec 32) (ht : otOK t) (d : Nat → BitVec 8) : ckN d (tw t) (256 / tw t) * 2 ^ tlS t < 65536 := by
  have h := ckN_le d (tw t) (256 / tw t)
  rcases ot_cases ht with rfl | rfl | rfl | rfl
  · change ckN d 1 256 * 2 ^ 7 < 65536
    change ckN d 1 256 ≤ 256 * (2 ^ 1 - 1) at h
    omega
  · change ckN d 2 128 * 2 ^ 6 < 65536
    change ckN d 2 128 ≤ 128 * (2 ^ 2 - 1) at h
    omega
  · change ckN d 4 64 * 2 ^ 4 < 65536
    change ckN d 4 64 ≤ 64 * (2 ^ 4 - 1) at h
    omega
  · change ckN d 8 32 * 2 ^ 0 < 65536
    change ckN d 8 32 ≤ 32 * (2 ^ 8 - 1) at h
    omega
theorem np_le (t : BitVec 32) (ht : otOK t) : 256 / tw t ≤ tp t := by
  rcases ot_cases ht with rfl | rfl | rfl | rfl <;> decide
theorem rb_yes (t : BitVec 32) (ht : otOK t) (d e : Nat → BitVec 8) (h : ¬ ∀ j, j < 32 → d j = e j) : rb (dgT t d) (dgT t e) (tp t) = true := by
  cases hb : rb (dgT t d) (dgT t e) (tp t) with
  | true => rfl
  | false =>
    exfalso
    have hw := (ot_facts t ht).1
    have hle := rb_no hb
    have hnp := np_le t ht
    have hin : ∀ k, k < 256 / tw t → cf e k (tw t) ≤ cf d k (tw t) := fun k hk => by
      have := hle k (by omega)
      unfold dgT at this
      rwa [tx_in e _ _ _ hw hk, tx_in d _ _ _ hw hk] at this
    have hout := tail_le t ht d e _ _ (ck_lt16 t ht d) (ck_lt16 t ht e) fun i _ h2 => hle i h2
    refine h (dig_inj d e (tw t) hw fun k hk => ?_)
    rcases Nat.lt_or_ge (cf e k (tw t)) (cf d k (tw t)) with h2 | h2
    · have := ck_strict d e (tw t) k (256 / tw t) hk h2 hin
      omega
    · have := hin k hk
      omega
theorem dgT_cong (t : BitVec 32) (ht : otOK t) (d e : Nat → BitVec 8) (h : ∀ j, j < 32 → d j = e j) (i : Nat) (hi : i < tp t) : dgT t d i = dgT t e i := by
  have hw := (ot_facts t ht).1
  have hc : ckN d (tw t) (256 / tw t) = ckN e (tw t) (256 / tw t) := ck_cong d e _ _ fun k hk => cf_cong (l := 32) h _ _ (idx_lt _ _ hw hk)
  unfold dgT
  rw [hc]
  refine cf_cong (l := 34) (fun j _ => ?_) _ _ (ot_idx t ht i hi)
  unfold tx
  by_cases h2 : j < 32
  · rw [if_pos h2, if_pos h2, h j h2]
  · rw [if_neg h2, if_neg h2]
theorem eq_arr8 (d e : Nat → BitVec 8) : eqB (arr8 32 d) (arr8 32 e) = true ↔ ∀ j, j < 32 → d j = e j := by
  constructor
  · intro h j hj
    have := eqB_iff.1 h
    exact this j hj
  · intro h
    exact eqB_agg fun j hj => h j hj
theorem rb_is (t : BitVec 32) (ht : otOK t) (d e : Nat → BitVec 8) : rb (dgT t d) (dgT t e) (tp t) = !eqB (arr8 32 d) (arr8 32 e) := by
  cases hq : eqB (arr8 32 d) (arr8 32 e) with
  | true => exact rb_none fun i hi => dgT_cong t ht d e ((eq_arr8 d e).1 hq) i hi
  | false => exact rb_yes t ht d e fun h => by rw [(eq_arr8 d e).2 h] at hq; cases hq
theorem rb_is' (t : BitVec 32) (ht : otOK t) (d e : Nat → BitVec 8) : rb (dgT t e) (dgT t d) (tp t) = !eqB (arr8 32 d) (arr8 32 e) := by
  rw [rb_is t ht e d]
  cases h1 : eqB (arr8 32 d) (arr8 32 e) with
  | true => rw [(eq_arr8 e d).2 fun j hj => ((eq_arr8 d e).1 h1 j hj).symm]
  | false =>
    cases h2 : eqB (arr8 32 e) (arr8 32 d) with
    | true => rw [(eq_arr8 d e).2 fun j hj => ((eq_arr8 e d).1 h2 j hj).symm] at h1; cases h1
    | false => rfl
attribute [irreducible] rb
end Go.Proofs.YtfdigpmkjhjdhaaDoor
