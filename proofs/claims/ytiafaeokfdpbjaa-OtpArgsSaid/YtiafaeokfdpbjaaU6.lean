/- Fuses: bits set one by one. -/
import Derived.Test.YtiafaeokfdpbjaaU5
namespace Go.Proofs.Ytiafaeokfdpbjaa
open Go.RowKit
set_option maxRecDepth 100000
set_option maxHeartbeats 20000000
theorem LeW_join1 {m : Nat → Option Row} {ty : TypeId → Ty} {rw : List (Nat × Row)} {ρ : Nat → Option Nat} {e : TypeId} {n j : Nat} {f g : Nat → AV} {b : AV} (hj : j < n + 1) (h1 : j < n → LeW m ty rw ρ (f j) b) (h2 : j = n → LeW m ty rw ρ (g 0) b) : LeW m ty rw ρ (joinA (.sl e) f n g j) b := by
  show LeW m ty rw ρ (if j < n then f j else g (j - n)) b
  by_cases h : j < n
  · rw [if_pos h]; exact h1 h
  · rw [if_neg h, show j - n = 0 by omega]; exact h2 (by omega)
theorem setW_succ (w : Nat → BitVec 32) (z : Nat → Int) (k j : Nat) : setW w z (k + 1) j = if j = (z k / 32).toNat then setW w z k (z k / 32).toNat ||| BitVec.ofInt 32 1 <<< (z k % 32).toNat else setW w z k j := rfl
theorem setW_has (w : Nat → BitVec 32) (z : Nat → Int) (j : Nat) : ∀ m, j < m → (setW w z m (z j / 32).toNat).getLsbD (z j % 32).toNat = true
  | m + 1, h => by
    have hlt : (z j % 32).toNat < 32 := by omega
    unfold setW
    by_cases e : (z j / 32).toNat = (z m / 32).toNat
    · rw [if_pos e, BitVec.getLsbD_or]
      rcases Nat.lt_succ_iff_lt_or_eq.1 h with h1 | h1
      · have := setW_has w z j m h1
        rw [e] at this
        rw [this, Bool.true_or]
      · subst h1
        have : (BitVec.ofInt 32 1 <<< (z j % 32).toNat).getLsbD (z j % 32).toNat = true := by
          rw [BitVec.getLsbD_shiftLeft, Nat.sub_self]
          simp [hlt]
        rw [this, Bool.or_true]
    · rw [if_neg e]
      rcases Nat.lt_succ_iff_lt_or_eq.1 h with h1 | h1
      · exact setW_has w z j m h1
      · subst h1; exact absurd rfl e
/-- Bits that are there are set again for nothing. -/
theorem setW_again (w : Nat → BitVec 32) (z z' : Nat → Int) (c : Nat) (hz : ∀ j, j < c → z' j = z j) : ∀ m, m ≤ c → setW (setW w z c) z' m = setW w z c
  | 0, _ => rfl
  | m + 1, h => by
    have ih := setW_again w z z' c hz m (by omega)
    funext x
    rw [setW_succ, ih]
    by_cases e : x = (z' m / 32).toNat
    · have h1 := setW_has w z m c (by omega)
      rw [← hz m (by omega), ← e] at h1
      rw [if_pos e, ← e]
      exact set_on _ _ h1
    · rw [if_neg e]
theorem bit_nz (v : BitVec 32) (k : Nat) (h : v.getLsbD k = true) : ¬ v >>> k % BitVec.ofInt 32 2 = BitVec.ofInt 32 0 := fun q => by
  have := bit_lsb v k
  rw [q, h] at this
  exact absurd this (by decide)
theorem bit_zero (v : BitVec 32) (k : Nat) (h : v.getLsbD k = false) : v >>> k % BitVec.ofInt 32 2 = BitVec.ofInt 32 0 := by
  have := bit_lsb v k
  rw [h] at this
  have h1 : ¬ v >>> k % BitVec.ofInt 32 2 = BitVec.ofInt 32 1 := of_decide_eq_false this
  have h2 : (v >>> k % BitVec.ofInt 32 2).toNat < 2 := by
    rw [BitVec.toNat_umod]; exact Nat.mod_lt _ (by decide)
  apply BitVec.eq_of_toNat_eq
  have h3 : (v >>> k % BitVec.ofInt 32 2).toNat ≠ 1 := fun q => h1 (BitVec.eq_of_toNat_eq q)
  show _ = 0
  omega
end Go.Proofs.Ytiafaeokfdpbjaa
