/- The field and the substitution, as the program makes them. -/
import Derived.Test.YtobilidppfmdkaaA1
namespace Go.Proofs.Ytobilidppfmdkaa
open Go.RowKit
set_option maxRecDepth 100000
set_option maxHeartbeats 20000000
def sbN (j : Nat) : BitVec 8 := sbx (BitVec.ofNat 8 j)
def isN (j : Nat) : BitVec 8 := isx (BitVec.ofNat 8 j)
theorem sbN_toNat (b : BitVec 8) : sbN b.toNat = sbx b := by unfold sbN; rw [BitVec.ofNat_toNat, BitVec.setWidth_eq]
theorem isN_toNat (b : BitVec 8) : isN b.toNat = isx b := by unfold isN; rw [BitVec.ofNat_toNat, BitVec.setWidth_eq]
attribute [local irreducible] xt rol8 aff pw lg sbx isx gm sbN isN
def C_aes_double : SpecP := fun A K => ∃ b, A [.u8 b] ∧ K (.u8 (xt b))
def C_bits_RotateLeft8 : SpecP := fun A K => ∃ (x : BitVec 8) (n : Nat), A [.u8 x, .nat n] ∧ n < 8 ∧ K (.u8 (rol8 x n))
theorem rot_n (n : Nat) (h : n < 8) : (BitVec.ofNat 64 n &&& BitVec.ofInt 64 7).toNat = n ∧ (BitVec.ofInt 64 8 - (BitVec.ofNat 64 n &&& BitVec.ofInt 64 7)).toNat = 8 - n := by
  have : ∀ n : Fin 8, (BitVec.ofNat 64 n.val &&& BitVec.ofInt 64 7).toNat = n.val ∧ (BitVec.ofInt 64 8 - (BitVec.ofNat 64 n.val &&& BitVec.ofInt 64 7)).toNat = 8 - n.val := by decide
  exact this ⟨n, h⟩
def C_aes_left : SpecP := fun A K => ∃ (x : BitVec 8) (n : Nat), A [.u8 x, .nat n] ∧ n < 8 ∧ K (.u8 (rol8 x n))
def C_aes_affine : SpecP := fun A K => ∃ b, A [.u8 b] ∧ K (.u8 (aff b))
def pF (k j : Nat) : BitVec 8 := if j < k then pw j else 0
theorem pF_zero (j : Nat) : 0 = pF 0 j := by unfold pF; rw [if_neg (by omega)]
theorem pF_step (k j : Nat) (hk : k < 255) : (if j = k then pw (k % 255) else pF k j) = pF (k + 1) j := by
  unfold pF
  by_cases h : j = k
  · subst h; rw [if_pos rfl, if_pos (by omega), Nat.mod_eq_of_lt hk]
  · rw [if_neg h]
    by_cases h2 : j < k
    · rw [if_pos h2, if_pos (by omega)]
    · rw [if_neg h2, if_neg (by omega)]
theorem pF_all (j : Nat) (h : j < 255) : pF 255 j = pw j := by unfold pF; rw [if_pos h]
attribute [irreducible] pF
def C_aes_powers : SpecP := fun A K => A [] ∧ K (arr8 255 pw)
def tF (k j : Nat) : BitVec 8 := if BitVec.ofNat 8 j = 0#8 then aff 0#8 else if lg (BitVec.ofNat 8 j) < k then aff (pw ((255 - lg (BitVec.ofNat 8 j)) % 255)) else 0
theorem tF_zero (j : Nat) (hj : j < 256) : (if j = 0 then aff 0#8 else 0#8) = tF 0 j := by
  unfold tF
  by_cases h : j = 0
  · subst h; rw [if_pos rfl, if_pos rfl]
  · have h0 : ¬ BitVec.ofNat 8 j = 0#8 := fun e => by
      have := congrArg BitVec.toNat e
      rw [BitVec.toNat_ofNat] at this
      simp at this
      omega
    rw [if_neg h, if_neg h0, if_neg (by omega)]
    rfl
theorem ofN8 {j : Nat} (hj : j < 256) : (BitVec.ofNat 8 j).toNat = j := by rw [BitVec.toNat_ofNat]; exact Nat.mod_eq_of_lt hj
theorem tF_step (k j : Nat) (hk : k < 255) (hj : j < 256) : (if j = (pw k).toNat then aff (pw ((255 - k) % 255)) else tF k j) = tF (k + 1) j := by
  obtain ⟨l1, l2⟩ := lg_pw ⟨k, hk⟩
  simp only at l1 l2
  unfold tF
  by_cases h : j = (pw k).toNat
  · subst h
    rw [if_pos rfl, BitVec.ofNat_toNat, BitVec.setWidth_eq, if_neg l2, l1, if_pos (by omega)]
  · rw [if_neg h]
    by_cases h0 : BitVec.ofNat 8 j = 0#8
    · rw [if_pos h0, if_pos h0]
    · rw [if_neg h0, if_neg h0]
      obtain ⟨m1, m2⟩ := pw_lg _ h0
      have : lg (BitVec.ofNat 8 j) ≠ k := fun e => h (by rw [← e, m2, ofN8 hj])
      by_cases h2 : lg (BitVec.ofNat 8 j) < k
      · rw [if_pos h2, if_pos (by omega)]
      · rw [if_neg h2, if_neg (by omega)]
theorem tF_all (j : Nat) : tF 255 j = sbN j := by
  unfold tF sbN sbx inv8
  by_cases h0 : BitVec.ofNat 8 j = 0#8
  · rw [if_pos h0, if_pos h0]
  · rw [if_neg h0, if_neg h0, if_pos (pw_lg _ h0).1]
attribute [irreducible] tF
def C_aes_boxes : SpecP := fun A K => A [] ∧ K (arr8 256 sbN)
def uF (k j : Nat) : BitVec 8 := if (isN j).toNat < k then isN j else 0
theorem uF_zero (j : Nat) : 0 = uF 0 j := by unfold uF; rw [if_neg (by omega)]
theorem uF_step (k j : Nat) (hk : k < 256) (hj : j < 256) : (if j = (sbN k).toNat then BitVec.ofNat 8 k else uF k j) = uF (k + 1) j := by
  unfold uF
  by_cases h : j = (sbN k).toNat
  · have e : isN j = BitVec.ofNat 8 k := by rw [h, isN_toNat]; unfold sbN; rw [isx_sbx]
    rw [if_pos h, e, ofN8 hk, if_pos (by omega)]
  · rw [if_neg h]
    have : (isN j).toNat ≠ k := fun e => h (by rw [← e, sbN_toNat]; unfold isN; rw [sbx_isx, ofN8 hj])
    by_cases h2 : (isN j).toNat < k
    · rw [if_pos h2, if_pos (by omega)]
    · rw [if_neg h2, if_neg (by omega)]
theorem uF_all (j : Nat) : uF 256 j = isN j := by unfold uF; rw [if_pos (isN j).isLt]
attribute [irreducible] uF
def C_aes_inverses : SpecP := fun A K => A [] ∧ K (arr8 256 isN)
def C_aes_Box : SpecP := fun A K => ∃ b, A [.u8 b] ∧ K (.u8 (sbx b))
/-! ### Products -/
theorem shr_zero (a : BitVec 8) (n k : Nat) (h : a >>> k = 0#8) : a >>> (k + n) = 0#8 := by
  rw [BitVec.shiftRight_add, h]; simp
theorem mulN_end (a b : BitVec 8) (k : Nat) (h : a >>> k = 0#8) : ∀ n, mulN a b (k + n) = mulN a b k
  | 0 => rfl
  | n + 1 => by rw [← Nat.add_assoc, mulN, shr_zero a n k h, mulN_end a b k h n]; simp
theorem gm_end (a b : BitVec 8) (k : Nat) (hk : k ≤ 8) (h : a >>> k = 0#8) : mulN a b k = gm a b := by
  have := mulN_end a b k h (8 - k)
  rw [show k + (8 - k) = 8 by omega] at this
  unfold gm; exact this.symm
theorem shr8 (a : BitVec 8) : a >>> 8 = 0#8 := by
  apply BitVec.eq_of_toNat_eq
  rw [BitVec.toNat_ushiftRight, Nat.shiftRight_eq_div_pow]
  have := a.isLt
  simp; omega
attribute [local irreducible] mulN xtN
def C_aes_Mul : SpecP := fun A K => ∃ a b, A [.u8 a, .u8 b] ∧ K (.u8 (gm a b))
def L_aes_Mul (a b : BitVec 8) : LI := .plain Nat (· ≤ 8) (fun k => [(0, .u8 (a >>> k)), (1, .u8 (xtN b k)), (5, .u8 (mulN a b k))]) (fun k => 8 - k)
end Go.Proofs.Ytobilidppfmdkaa
