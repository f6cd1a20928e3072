/- The laws of layer 1. -/
import Derived.Test.YtldlleoabbcpdaaDoorP8
namespace Go.Proofs.YtldlleoabbcpdaaDoor
open Go.RowKit
set_option maxRecDepth 100000
set_option maxHeartbeats 20000000
attribute [local irreducible] hsh rst sha256 press dig valN
theorem eqB_agg {u u' : Bool} {n : Nat} {F G : Nat → AV} (h : ∀ i, i < n → AEq (F i) (G i)) : eqB (.agg u n F) (.agg u' n G) = true := eqB_iff.2 h
theorem bad {b : Bool} {p : Prop} (h1 : b = true) (h2 : b = false) : p := by rw [h1] at h2; cases h2
theorem lw_parts (n a c : Nat) (b : Nat → BitVec 8) (h1 : a ≤ c) (h2 : c ≤ n) : lw a b ++ lw (c - a) (fun i => b (a + i)) ++ lw (n - c) (fun i => b (c + i)) = lw n b := by
  rw [← lw_add, show a + (c - a) = c by omega, ← lw_add, show c + (n - c) = n by omega]
theorem dno {p q : Prop} [Decidable p] (h : ¬ p) (e : decide p = true) : q := absurd (of_decide_eq_true e) h
theorem dyes {p q : Prop} [Decidable p] (h : p) (e : decide p = false) : q := absurd h (of_decide_eq_false e)
theorem valN_val (b : Nat → BitVec 8) : ∀ k, valN b k = val (lw k b)
  | 0 => by unfold valN; rfl
  | k + 1 => by
    have e : valN b (k + 1) = 256 * valN b k + (b k).setWidth 64 := by rw [valN]
    rw [e, valN_val b k, lw_succ]; simp [val]
theorem pad_val (n : BitVec 64) (z : Nat) (hz : padZs n = z) : valN (fun i => at8 (padL n) (z + 1 + i)) 8 = 8#64 * n := by
  subst hz
  rw [valN_val]
  have : lw 8 (fun i => at8 (padL n) (padZs n + 1 + i)) = be (8#64 * n) 8 := by
    rw [← lw_at8 (be (8#64 * n) 8) 8 (be_len _ _)]
    exact congrArg (lw 8) (funext fun i => padL_end n i)
  rw [this, val_be]
theorem pad_mod (n : BitVec 64) : (n % BitVec.ofInt 64 64 + BitVec.ofNat 64 (padZs n + 9)) % BitVec.ofInt 64 64 = BitVec.ofInt 64 0 := by
  apply BitVec.eq_of_toNat_eq
  have hn := n.isLt
  rw [BitVec.toNat_umod, BitVec.toNat_add, BitVec.toNat_umod, BitVec.toNat_ofNat]
  simp only [BitVec.reduceOfInt, BitVec.reduceToNat]
  unfold padZs
  rw [BitVec.toNat_sub]
  simp only [BitVec.toNat_ofNat]
  omega
/-! ShaPads -/
end Go.Proofs.YtldlleoabbcpdaaDoor
