/- Fuses: the reference's calls. -/
import Derived.Test.YtiafaeokfdpbjaaU1
namespace Go.Proofs.Ytiafaeokfdpbjaa
open Go.RowKit
set_option maxRecDepth 100000
set_option maxHeartbeats 20000000
abbrev acA (d : BitVec 8) (i j : Int) (v g : BitVec 32) : AV := .agg false 5 (nth .junk [.u8 d, .int i, .int j, .u32 v, .u32 g])
theorem bit_lsb (v : BitVec 32) (k : Nat) : decide (v >>> k % BitVec.ofInt 32 2 = BitVec.ofInt 32 1) = v.getLsbD k := by
  have : (v >>> k % BitVec.ofInt 32 2 = BitVec.ofInt 32 1) ↔ v.toNat / 2 ^ k % 2 = 1 := by
    constructor
    · intro h
      have := congrArg BitVec.toNat h
      rw [BitVec.toNat_umod, BitVec.toNat_ushiftRight, Nat.shiftRight_eq_div_pow] at this
      exact this
    · intro h
      apply BitVec.eq_of_toNat_eq
      rw [BitVec.toNat_umod, BitVec.toNat_ushiftRight, Nat.shiftRight_eq_div_pow]
      exact h
  rw [BitVec.getLsbD, Nat.testBit_eq_decide_div_mod_eq]
  exact decide_eq_decide.2 this
def C_r10_bit : SpecP := fun A K => ∃ v i, A [.u32 v, .int i] ∧ 0 ≤ i ∧ K (.bo (v.getLsbD i.toNat))
def pr (i j : Int) (k : Nat) : Int := if k = 0 then i else j
theorem set_on (v : BitVec 32) (k : Nat) (h : v.getLsbD k = true) : v ||| BitVec.ofInt 32 1 <<< k = v := by
  apply BitVec.eq_of_getLsbD_eq
  intro i hi
  rw [BitVec.getLsbD_or, BitVec.getLsbD_shiftLeft]
  have e : (BitVec.ofInt 32 1).getLsbD (i - k) = decide (i - k = 0) := by
    show (1#32).getLsbD (i - k) = _
    rw [BitVec.getLsbD_one]; simp
  rw [e]
  by_cases hk : i = k
  · subst hk; rw [h]; simp
  · have : (decide (i < 32) && !decide (i < k) && decide (i - k = 0)) = false := by
      by_cases h1 : i < k
      · simp [h1]
      · have : ¬ i - k = 0 := by omega
        simp [this]
    rw [this, Bool.or_false]
theorem set_off (v : BitVec 32) (k : Nat) (h : v.getLsbD k = false) : v + BitVec.ofInt 32 1 <<< k = v ||| BitVec.ofInt 32 1 <<< k := by
  apply BitVec.add_eq_or_of_and_eq_zero
  apply BitVec.eq_of_getLsbD_eq
  intro i hi
  rw [BitVec.getLsbD_and, BitVec.getLsbD_shiftLeft]
  have e : (BitVec.ofInt 32 1).getLsbD (i - k) = decide (i - k = 0) := by
    show (1#32).getLsbD (i - k) = _
    rw [BitVec.getLsbD_one]; simp
  rw [e]
  by_cases hk : i = k
  · subst hk; rw [h]; simp
  · have : (decide (i < 32) && !decide (i < k) && decide (i - k = 0)) = false := by
      by_cases h1 : i < k
      · simp [h1]
      · have : ¬ i - k = 0 := by omega
        simp [this]
    rw [this, Bool.and_false]; simp
/-- A word's bits from the highest one on. -/
theorem sh_step (v : BitVec 32) (k : Nat) (hk : k < 32) : v >>> (31 - k) = (v >>> (32 - k)) * BitVec.ofInt 32 2 + (if v.getLsbD (31 - k) then BitVec.ofInt 32 1 else 0) := by
  apply BitVec.eq_of_toNat_eq
  have h2 : v.toNat / 2 ^ (32 - k) * 2 + v.toNat / 2 ^ (31 - k) % 2 = v.toNat / 2 ^ (31 - k) := by
    rw [show 32 - k = 31 - k + 1 by omega, Nat.pow_succ, ← Nat.div_div_eq_div_mul]; omega
  have hlt : v.toNat / 2 ^ (31 - k) < 4294967296 := Nat.lt_of_le_of_lt (Nat.div_le_self ..) v.isLt
  have e : (if v.getLsbD (31 - k) then BitVec.ofInt 32 1 else (0 : BitVec 32)).toNat = v.toNat / 2 ^ (31 - k) % 2 := by
    rw [BitVec.getLsbD, Nat.testBit_eq_decide_div_mod_eq]
    by_cases h : v.toNat / 2 ^ (31 - k) % 2 = 1
    · rw [decide_eq_true h, if_pos rfl, h]; rfl
    · rw [decide_eq_false h, if_neg (by simp)]
      show 0 = _
      omega
  have hm : (v >>> (32 - k) * BitVec.ofInt 32 2).toNat = v.toNat / 2 ^ (32 - k) * 2 % 4294967296 := by
    rw [BitVec.toNat_mul, BitVec.toNat_ushiftRight, Nat.shiftRight_eq_div_pow]; rfl
  rw [BitVec.toNat_add, hm, e, BitVec.toNat_ushiftRight, Nat.shiftRight_eq_div_pow]
  show _ = _ % 4294967296
  omega
theorem and_not_bit {w v : BitVec 32} (h : w &&& ~~~v = 0) (k : Nat) (hw : w.getLsbD k = true) : v.getLsbD k = true := by
  have hk : k < 32 := BitVec.lt_of_getLsbD hw
  have := congrArg (fun x => x.getLsbD k) h
  simpa [hw, hk] using this
theorem not_and_bit {w v : BitVec 32} (h : ∀ k, k < 32 → w.getLsbD k = true → v.getLsbD k = true) : w &&& ~~~v = 0 := by
  apply BitVec.eq_of_getLsbD_eq
  intro i hi
  cases hw : w.getLsbD i with
  | false => simp [hw]
  | true => simp [hw, hi, h i hi hw]
def finB (w v g : BitVec 32) (k : Nat) : BitVec 32 := (w ||| v &&& g) >>> (32 - k)
theorem fin_step (w v g : BitVec 32) (k : Nat) (hk : k < 32) (b : Bool) (hb : b = (w.getLsbD (31 - k) || v.getLsbD (31 - k) && g.getLsbD (31 - k))) : finB w v g (k + 1) = finB w v g k * BitVec.ofInt 32 2 + (if b then BitVec.ofInt 32 1 else 0) := by
  unfold finB
  rw [show 32 - (k + 1) = 31 - k by omega, sh_step _ _ hk, hb]
  simp
theorem fin_zero (w v g : BitVec 32) : finB w v g 0 = BitVec.ofInt 32 0 := by
  unfold finB
  apply BitVec.eq_of_toNat_eq
  rw [BitVec.toNat_ushiftRight, Nat.shiftRight_eq_div_pow]
  exact Nat.div_eq_of_lt (w ||| v &&& g).isLt
theorem fin_step0 (w v g : BitVec 32) (k : Nat) (hk : k < 32) (hb : false = (w.getLsbD (31 - k) || v.getLsbD (31 - k) && g.getLsbD (31 - k))) : finB w v g (k + 1) = finB w v g k * BitVec.ofInt 32 2 := by
  rw [fin_step w v g k hk false hb]
  simp
theorem fin_all (w v g : BitVec 32) : finB w v g 32 = w ||| v &&& g := by
  unfold finB
  simp
theorem cut_fin (w : Nat → BitVec 32) (i : Nat) (v g : BitVec 32) (x : Nat) {g' : BitVec 32} (h : v &&& g' = v &&& g) : (if x = i then w i ||| v &&& g' else asU32 (wds w x)) = cutW w i v g x := by
  unfold cutW
  rw [h]; rfl
theorem ones_and (v : BitVec 32) : v &&& 4294967295 = v := by
  rw [show (4294967295 : BitVec 32) = BitVec.allOnes 32 from rfl, BitVec.and_allOnes]
end Go.Proofs.Ytiafaeokfdpbjaa
