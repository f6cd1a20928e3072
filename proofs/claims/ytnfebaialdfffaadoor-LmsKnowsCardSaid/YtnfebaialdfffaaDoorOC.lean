/- One-time signatures: all digits by the reference. -/
import Derived.Test.YtnfebaialdfffaaDoorOB
import Derived.Test.YtnfebaialdfffaaDoorOT
namespace Go.Proofs.YtnfebaialdfffaaDoor
open Go.RowKit
set_option maxRecDepth 100000
set_option maxHeartbeats 20000000
attribute [local semireducible] bitF binN dgG
theorem two_mod (y k : Nat) : y / 2 % 2 ^ k * 2 + y % 2 = y % 2 ^ (k + 1) := by
  rw [Nat.pow_succ, Nat.mul_comm (2 ^ k) 2, Nat.mod_mul]; omega
theorem binN_byte (x o : Nat) (g : Nat → Nat) : ∀ k, o + k ≤ 8 → (∀ j, j < k → g j = x / 2 ^ (7 - (o + j)) % 2) → binN g k = x / 2 ^ (8 - k - o) % 2 ^ k
  | 0, _, _ => by show 0 = _; rw [Nat.pow_zero, Nat.mod_one]
  | k + 1, h, hg => by
    show binN g k * 2 + g k = _
    rw [binN_byte x o g k (by omega) (fun j hj => hg j (by omega)), hg k (by omega), ← two_mod]
    congr 2
    · congr 1
      rw [Nat.div_div_eq_div_mul, ← Nat.pow_succ]
      congr 2
      omega
    · congr 2
      omega
theorem dg_cf (l : Nat) (b : Nat → BitVec 8) (w i : Nat) (hw : wOK w) (hi : i / (8 / w) < l) : dgF (8 * l) (bitF b) w i = cf b i w := by
  have key : ∀ j, j < w → w * i + j < 8 * l ∧ (w * i + j) / 8 = i / (8 / w) ∧ (w * i + j) % 8 = w * (i % (8 / w)) + j ∧ w * (i % (8 / w)) + w ≤ 8 := by
    intro j hj
    rcases hw with rfl | rfl | rfl | rfl
    · simp only [Nat.div_one] at hi ⊢; omega
    · simp only [show 8 / 2 = 4 from rfl] at hi ⊢; omega
    · simp only [show 8 / 4 = 2 from rfl] at hi ⊢; omega
    · simp only [show 8 / 8 = 1 from rfl] at hi ⊢; omega
  have hw0 : 0 < w := by rcases hw with rfl | rfl | rfl | rfl <;> decide
  have ho := (key 0 hw0).2.2.2
  unfold dgF cf
  rw [binN_byte (b (i / (8 / w))).toNat (w * (i % (8 / w))) _ w ho fun j hj => ?_]
  · obtain ⟨h1, h2, h3, _⟩ := key j hj
    show (if w * i + j < 8 * l then bitF b (w * i + j) else 0) = _
    rw [if_pos h1]
    unfold bitF
    rw [h2, h3]
theorem cf_cong {b c : Nat → BitVec 8} {l : Nat} (h : ∀ j, j < l → b j = c j) (w i : Nat) (hi : i / (8 / w) < l) : cf b i w = cf c i w := by
  unfold cf; rw [h _ hi]
end Go.Proofs.YtnfebaialdfffaaDoor
