/- The field of 256 elements: powers of three, logarithms, the substitution. -/
import Derived.Test.YtobilidppfmdkaaA0
namespace Go.Proofs.Ytobilidppfmdkaa
set_option maxRecDepth 100000
def xt (b : BitVec 8) : BitVec 8 := b <<< 1 ^^^ (b >>> 7) * 27#8
def rol8 (x : BitVec 8) (n : Nat) : BitVec 8 := x <<< n ||| x >>> (8 - n)
def aff (b : BitVec 8) : BitVec 8 := b ^^^ rol8 b 1 ^^^ rol8 b 2 ^^^ rol8 b 3 ^^^ rol8 b 4 ^^^ 99#8
def PW : List (BitVec 8) := [1, 3, 5, 15, 17, 51, 85, 255, 26, 46, 114, 150, 161, 248, 19, 53, 95, 225, 56, 72, 216, 115, 149, 164, 247, 2, 6, 10, 30, 34, 102, 170, 229, 52, 92, 228, 55, 89, 235, 38, 106, 190, 217, 112, 144, 171, 230, 49, 83, 245, 4, 12, 20, 60, 68, 204, 79, 209, 104, 184, 211, 110, 178, 205, 76, 212, 103, 169, 224, 59, 77, 215, 98, 166, 241, 8, 24, 40, 120, 136, 131, 158, 185, 208, 107, 189, 220, 127, 129, 152, 179, 206, 73, 219, 118, 154, 181, 196, 87, 249, 16, 48, 80, 240, 11, 29, 39, 105, 187, 214, 97, 163, 254, 25, 43, 125, 135, 146, 173, 236, 47, 113, 147, 174, 233, 32, 96, 160, 251, 22, 58, 78, 210, 109, 183, 194, 93, 231, 50, 86, 250, 21, 63, 65, 195, 94, 226, 61, 71, 201, 64, 192, 91, 237, 44, 116, 156, 191, 218, 117, 159, 186, 213, 100, 172, 239, 42, 126, 130, 157, 188, 223, 122, 142, 137, 128, 155, 182, 193, 88, 232, 35, 101, 175, 234, 37, 111, 177, 200, 67, 197, 84, 252, 31, 33, 99, 165, 244, 7, 9, 27, 45, 119, 153, 176, 203, 70, 202, 69, 207, 74, 222, 121, 139, 134, 145, 168, 227, 62, 66, 198, 81, 243, 14, 18, 54, 90, 238, 41, 123, 141, 140, 143, 138, 133, 148, 167, 242, 13, 23, 57, 75, 221, 124, 132, 151, 162, 253, 28, 36, 108, 180, 199, 82, 246]
def LG : List Nat := [255, 0, 25, 1, 50, 2, 26, 198, 75, 199, 27, 104, 51, 238, 223, 3, 100, 4, 224, 14, 52, 141, 129, 239, 76, 113, 8, 200, 248, 105, 28, 193, 125, 194, 29, 181, 249, 185, 39, 106, 77, 228, 166, 114, 154, 201, 9, 120, 101, 47, 138, 5, 33, 15, 225, 36, 18, 240, 130, 69, 53, 147, 218, 142, 150, 143, 219, 189, 54, 208, 206, 148, 19, 92, 210, 241, 64, 70, 131, 56, 102, 221, 253, 48, 191, 6, 139, 98, 179, 37, 226, 152, 34, 136, 145, 16, 126, 110, 72, 195, 163, 182, 30, 66, 58, 107, 40, 84, 250, 133, 61, 186, 43, 121, 10, 21, 155, 159, 94, 202, 78, 212, 172, 229, 243, 115, 167, 87, 175, 88, 168, 80, 244, 234, 214, 116, 79, 174, 233, 213, 231, 230, 173, 232, 44, 215, 117, 122, 235, 22, 11, 245, 89, 203, 95, 176, 156, 169, 81, 160, 127, 12, 246, 111, 23, 196, 73, 236, 216, 67, 31, 45, 164, 118, 123, 183, 204, 187, 62, 90, 251, 96, 177, 134, 59, 82, 161, 108, 170, 85, 41, 157, 151, 178, 135, 144, 97, 190, 220, 252, 188, 149, 207, 205, 55, 63, 91, 209, 83, 57, 132, 60, 65, 162, 109, 71, 20, 42, 158, 93, 86, 242, 211, 171, 68, 17, 146, 217, 35, 32, 46, 137, 180, 124, 184, 38, 119, 153, 227, 165, 103, 74, 237, 222, 197, 49, 254, 24, 13, 99, 140, 128, 192, 247, 112, 7]
def IS : List (BitVec 8) := [82, 9, 106, 213, 48, 54, 165, 56, 191, 64, 163, 158, 129, 243, 215, 251, 124, 227, 57, 130, 155, 47, 255, 135, 52, 142, 67, 68, 196, 222, 233, 203, 84, 123, 148, 50, 166, 194, 35, 61, 238, 76, 149, 11, 66, 250, 195, 78, 8, 46, 161, 102, 40, 217, 36, 178, 118, 91, 162, 73, 109, 139, 209, 37, 114, 248, 246, 100, 134, 104, 152, 22, 212, 164, 92, 204, 93, 101, 182, 146, 108, 112, 72, 80, 253, 237, 185, 218, 94, 21, 70, 87, 167, 141, 157, 132, 144, 216, 171, 0, 140, 188, 211, 10, 247, 228, 88, 5, 184, 179, 69, 6, 208, 44, 30, 143, 202, 63, 15, 2, 193, 175, 189, 3, 1, 19, 138, 107, 58, 145, 17, 65, 79, 103, 220, 234, 151, 242, 207, 206, 240, 180, 230, 115, 150, 172, 116, 34, 231, 173, 53, 133, 226, 249, 55, 232, 28, 117, 223, 110, 71, 241, 26, 113, 29, 41, 197, 137, 111, 183, 98, 14, 170, 24, 190, 27, 252, 86, 62, 75, 198, 210, 121, 32, 154, 219, 192, 254, 120, 205, 90, 244, 31, 221, 168, 51, 136, 7, 199, 49, 177, 18, 16, 89, 39, 128, 236, 95, 96, 81, 127, 169, 25, 181, 74, 13, 45, 229, 122, 159, 147, 201, 156, 239, 160, 224, 59, 77, 174, 42, 245, 176, 200, 235, 187, 60, 131, 83, 153, 97, 23, 43, 4, 126, 186, 119, 214, 38, 225, 105, 20, 99, 85, 33, 12, 125]
def pw (i : Nat) : BitVec 8 := at8 PW i
def lg (b : BitVec 8) : Nat := LG.getD b.toNat 255
def inv8 (b : BitVec 8) : BitVec 8 := if b = 0#8 then 0#8 else pw ((255 - lg b) % 255)
def sbx (b : BitVec 8) : BitVec 8 := aff (inv8 b)
def isx (b : BitVec 8) : BitVec 8 := at8 IS b.toNat
theorem all8 {p : BitVec 8 → Prop} (h : ∀ i : Fin 256, p (BitVec.ofFin i)) (b : BitVec 8) : p b := h b.toFin
theorem pw_zero : pw 0 = 1#8 := by decide +kernel
theorem pw_step : ∀ i : Fin 255, pw ((i.val + 1) % 255) = pw i.val ^^^ xt (pw i.val) := by decide +kernel
theorem lg_pw : ∀ i : Fin 255, lg (pw i.val) = i.val ∧ pw i.val ≠ 0#8 := by decide +kernel
theorem pw_lg0 : ∀ i : Fin 256, BitVec.ofFin i ≠ 0#8 → lg (BitVec.ofFin i) < 255 ∧ pw (lg (BitVec.ofFin i)) = BitVec.ofFin i := by decide +kernel
theorem pw_lg (b : BitVec 8) (h : b ≠ 0#8) : lg b < 255 ∧ pw (lg b) = b := all8 (p := fun b => b ≠ 0#8 → lg b < 255 ∧ pw (lg b) = b) pw_lg0 b h
theorem isx_sbx0 : ∀ i : Fin 256, isx (sbx (BitVec.ofFin i)) = BitVec.ofFin i := by decide +kernel
theorem sbx_isx0 : ∀ i : Fin 256, sbx (isx (BitVec.ofFin i)) = BitVec.ofFin i := by decide +kernel
theorem isx_sbx (b : BitVec 8) : isx (sbx b) = b := all8 (p := fun b => isx (sbx b) = b) isx_sbx0 b
theorem sbx_isx (b : BitVec 8) : sbx (isx b) = b := all8 (p := fun b => sbx (isx b) = b) sbx_isx0 b
/-! ### Products -/
def xtN (b : BitVec 8) : Nat → BitVec 8
  | 0 => b
  | k + 1 => xt (xtN b k)
def mulN (a b : BitVec 8) : Nat → BitVec 8
  | 0 => 0#8
  | k + 1 => if (a >>> k) &&& 1#8 ≠ 0#8 then mulN a b k ^^^ xtN b k else mulN a b k
def gm (a b : BitVec 8) : BitVec 8 := mulN a b 8
theorem xt_bit (b : BitVec 8) : xt b = b <<< 1 ^^^ if b.getLsbD 7 then 27#8 else 0#8 := all8 (p := fun b => xt b = b <<< 1 ^^^ if b.getLsbD 7 then 27#8 else 0#8) (by decide +kernel) b
theorem xor_swap (a b c d : BitVec 8) : (a ^^^ b) ^^^ (c ^^^ d) = (a ^^^ c) ^^^ (b ^^^ d) := by ac_rfl
theorem xt_xor (b c : BitVec 8) : xt (b ^^^ c) = xt b ^^^ xt c := by
  rw [xt_bit, xt_bit b, xt_bit c, BitVec.shiftLeft_xor_distrib, xor_swap]
  congr 1
  rw [BitVec.getLsbD_xor]
  cases b.getLsbD 7 <;> cases c.getLsbD 7 <;> decide
theorem xtN_xor (b c : BitVec 8) : ∀ k, xtN (b ^^^ c) k = xtN b k ^^^ xtN c k
  | 0 => rfl
  | k + 1 => by rw [xtN, xtN, xtN, xtN_xor b c k, xt_xor]
theorem xtN_xt (b : BitVec 8) : ∀ k, xtN (xt b) k = xt (xtN b k)
  | 0 => rfl
  | k + 1 => by rw [xtN, xtN, xtN_xt b k]
theorem mulN_xor (a b c : BitVec 8) : ∀ k, mulN a (b ^^^ c) k = mulN a b k ^^^ mulN a c k
  | 0 => by simp [mulN]
  | k + 1 => by
    rw [mulN, mulN, mulN, mulN_xor a b c k, xtN_xor]
    split
    · rw [xor_swap]
    · rfl
theorem xt_zero : xt 0#8 = 0#8 := by decide
theorem mulN_xt (a b : BitVec 8) : ∀ k, mulN a (xt b) k = xt (mulN a b k)
  | 0 => by simp [mulN, xt_zero]
  | k + 1 => by
    rw [mulN, mulN, mulN_xt a b k, xtN_xt]
    split
    · rw [xt_xor]
    · rfl
theorem gm_xor (a b c : BitVec 8) : gm a (b ^^^ c) = gm a b ^^^ gm a c := mulN_xor a b c 8
theorem gm_xt (a b : BitVec 8) : gm a (xt b) = xt (gm a b) := mulN_xt a b 8
theorem gm_one (a : BitVec 8) : gm a 1#8 = a := all8 (p := fun a => gm a 1#8 = a) (by decide +kernel) a
theorem gm_zero (a : BitVec 8) : gm a 0#8 = 0#8 := by
  have := gm_xor a 0#8 0#8
  simpa using this
theorem zero_gm (b : BitVec 8) : gm 0#8 b = 0#8 := by
  have : ∀ k, mulN 0#8 b k = 0#8 := fun k => by
    induction k with
    | zero => rfl
    | succ k ih => rw [mulN, ih]; simp
  exact this 8
theorem gm_pow (a : BitVec 8) (ha : a ≠ 0#8) : ∀ i, gm a (pw (i % 255)) = pw ((lg a + i) % 255)
  | 0 => by
    obtain ⟨h1, h2⟩ := pw_lg a ha
    rw [Nat.zero_mod, pw_zero, gm_one, Nat.add_zero, Nat.mod_eq_of_lt h1, h2]
  | i + 1 => by
    have e1 := pw_step ⟨i % 255, Nat.mod_lt _ (by omega)⟩
    have e2 := pw_step ⟨(lg a + i) % 255, Nat.mod_lt _ (by omega)⟩
    simp only [Nat.mod_add_mod] at e1 e2
    rw [e1, gm_xor, gm_xt, gm_pow a ha i, ← e2]; rfl
theorem gm_log (a b : BitVec 8) (ha : a ≠ 0#8) (hb : b ≠ 0#8) : gm a b = pw ((lg a + lg b) % 255) := by
  obtain ⟨h1, h2⟩ := pw_lg b hb
  have := gm_pow a ha (lg b)
  rw [Nat.mod_eq_of_lt h1, h2] at this
  exact this
theorem gm_comm (a b : BitVec 8) : gm a b = gm b a := by
  by_cases ha : a = 0#8
  · rw [ha, zero_gm, gm_zero]
  by_cases hb : b = 0#8
  · rw [hb, zero_gm, gm_zero]
  rw [gm_log a b ha hb, gm_log b a hb ha, Nat.add_comm]
theorem gm_assoc (a b c : BitVec 8) : gm (gm a b) c = gm a (gm b c) := by
  by_cases ha : a = 0#8
  · rw [ha, zero_gm, zero_gm, zero_gm]
  by_cases hb : b = 0#8
  · rw [hb, gm_zero, zero_gm, gm_zero]
  by_cases hc : c = 0#8
  · rw [hc, gm_zero, gm_zero, gm_zero]
  have l1 := lg_pw ⟨(lg a + lg b) % 255, Nat.mod_lt _ (by omega)⟩
  have l2 := lg_pw ⟨(lg b + lg c) % 255, Nat.mod_lt _ (by omega)⟩
  simp only at l1 l2
  rw [gm_log a b ha hb, gm_log b c hb hc, gm_log _ c l1.2 hc, gm_log a _ ha l2.2, l1.1, l2.1]
  congr 1
  omega
end Go.Proofs.Ytobilidppfmdkaa
