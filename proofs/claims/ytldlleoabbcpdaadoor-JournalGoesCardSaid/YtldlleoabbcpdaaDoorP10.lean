/- Laws of layer 1: the runs of one byte, and the compression. -/
import Derived.Test.YtldlleoabbcpdaaDoorP9
namespace Go.Proofs.YtldlleoabbcpdaaDoor
open Go.RowKit
set_option maxRecDepth 100000
set_option maxHeartbeats 20000000
attribute [local irreducible] hsh rst sha256 press dig valN
/-! ShaRuns -/
def rF (x : BitVec 8) (k i : Nat) : BitVec 8 := if i < k then x else 0
theorem rF_zero (x : BitVec 8) (i : Nat) : 0 = rF x 0 i := by unfold rF; rw [if_neg (by omega)]
theorem rF_step (x : BitVec 8) (k i : Nat) : (if i = k then x else rF x k i) = rF x (k + 1) i := by
  unfold rF
  by_cases h : i = k
  · rw [if_pos h, if_pos (by omega)]
  · rw [if_neg h]
    by_cases h2 : i < k
    · rw [if_pos h2, if_pos (by omega)]
    · rw [if_neg h2, if_neg (by omega)]
def rp (x : BitVec 8) (k : Nat) : Msg := List.replicate k x
theorem rp_len (x : BitVec 8) (k : Nat) : (rp x k).length = k := by simp [rp]
theorem rp_zero (x : BitVec 8) : rp x 0 = [] := rfl
theorem rp_step (x : BitVec 8) (k : Nat) (F : Nat → BitVec 8) (h : F 0 = x) : rp x k ++ lw 1 F = rp x (k + 1) := by
  have : lw 1 F = [x] := by simp [lw, h]
  rw [this, rp, rp, List.replicate_succ']
theorem rp_all (x : BitVec 8) (n : Nat) : lw n (rF x n) = rp x n := by
  apply List.ext_getElem?
  intro i
  simp only [lw, rp, List.getElem?_map, List.getElem?_replicate]
  by_cases hi : i < n
  · rw [List.getElem?_range hi, if_pos hi]; simp only [Option.map_some, rF, if_pos hi]
  · rw [List.getElem?_eq_none (by simp; omega), if_neg hi]; rfl
attribute [irreducible] rF rp
/-! ShaPresses -/
theorem words_val (d : Nat → BitVec 8) (k : Nat) (hk : k < 8) : (at32 (L1 (lw 32 d) 8) k).setWidth 64 = valN (fun i => d (4 * k + i)) 4 := by
  rw [valN_val, ← wdF_all d k hk]
  unfold wdF wAt
  rw [if_pos hk, w4_val64]
  rfl
theorem wd_dig (d : Nat → BitVec 8) (j : Nat) (hj : j < 32) : at8 (dig (lw 8 (at32 (L1 (lw 32 d) 8)))) j = d j := by
  rw [lw_at32 _ _ (L1_len _ _), list32 _ (lw_len _ _), at8_lw _ _ _ hj]
theorem dig_wd (h : Nat → BitVec 32) (j : Nat) (hj : j < 8) : at32 (L1 (lw 32 (at8 (dig (lw 8 h)))) 8) j = h j := by
  rw [lw_at8 _ _ (by rw [dig_len, lw_len]), words_dig _ (lw_len _ _)]
  simp [at32, lw, List.getElem?_range hj]
end Go.Proofs.YtldlleoabbcpdaaDoor
