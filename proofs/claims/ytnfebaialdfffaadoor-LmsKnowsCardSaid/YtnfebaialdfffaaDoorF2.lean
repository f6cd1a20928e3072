/- SHA-256 of texts by numbers. -/
import Derived.Test.YtnfebaialdfffaaDoorF1
namespace Go.Proofs.YtnfebaialdfffaaDoor
set_option maxRecDepth 100000
/-- So many blocks of a number. -/
noncomputable def nblk (Y nb : Nat) : Nat → Nat := Nat.rec 47962653771679561900652889051773562940742041696833059450490514104358170316057 (fun i H => npress H (Nat.mod (Nat.div Y (Nat.pow 2 (Nat.mul 512 (Nat.sub nb (Nat.add i 1))))) (Nat.pow 256 64)))
/-- A text's number with what fills it up. -/
def npad (len X : Nat) : Nat := Nat.add (Nat.add (Nat.mul X (Nat.pow 256 (Nat.sub (Nat.mul 64 (Nat.div (Nat.add len 72) 64)) len))) (Nat.mul 128 (Nat.pow 256 (Nat.sub (Nat.sub (Nat.mul 64 (Nat.div (Nat.add len 72) 64)) len) 1)))) (Nat.mul 8 len)
noncomputable def nsha (len X : Nat) : Nat := nblk (npad len X) (Nat.div (Nat.add len 72) 64) (Nat.div (Nat.add len 72) 64)
theorem nws_H0 : nws H0 = 47962653771679561900652889051773562940742041696833059450490514104358170316057 := by decide +kernel
theorem nblk_succ (Y nb k : Nat) : nblk Y nb (k + 1) = npress (nblk Y nb k) (Y / 2 ^ (512 * (nb - (k + 1))) % 256 ^ 64) := rfl
theorem mid_block (M : Msg) (nb k : Nat) (hM : M.length = 64 * nb) (hk : k < nb) : nbs ((M.drop (64 * k)).take 64) = nbs M / 2 ^ (512 * (nb - (k + 1))) % 256 ^ 64 := by
  have e1 : M = M.take (64 * k) ++ ((M.drop (64 * k)).take 64 ++ (M.drop (64 * k)).drop 64) := by rw [List.take_append_drop, List.take_append_drop]
  have l2 : ((M.drop (64 * k)).take 64).length = 64 := by rw [List.length_take, List.length_drop]; omega
  have l3 : ((M.drop (64 * k)).drop 64).length = 64 * (nb - (k + 1)) := by rw [List.length_drop, List.length_drop]; omega
  have e2 : nbs M = nbs (M.take (64 * k)) * 256 ^ (64 + 64 * (nb - (k + 1))) + (nbs ((M.drop (64 * k)).take 64) * 256 ^ (64 * (nb - (k + 1))) + nbs ((M.drop (64 * k)).drop 64)) := by
    conv => lhs; rw [e1]
    rw [nbs_append, nbs_append, List.length_append, l2, l3]
  have p1 : 2 ^ (512 * (nb - (k + 1))) = 256 ^ (64 * (nb - (k + 1))) := by
    rw [show (256 : Nat) = 2 ^ 8 by decide, ← Nat.pow_mul]
    congr 1
    omega
  have hlt := nbs_lt ((M.drop (64 * k)).drop 64)
  rw [l3] at hlt
  have hlt2 := nbs_lt ((M.drop (64 * k)).take 64)
  rw [l2] at hlt2
  have hp : 0 < 256 ^ (64 * (nb - (k + 1))) := Nat.pow_pos (by decide)
  rw [p1, e2, Nat.pow_add, show nbs (M.take (64 * k)) * (256 ^ 64 * 256 ^ (64 * (nb - (k + 1)))) + (nbs ((M.drop (64 * k)).take 64) * 256 ^ (64 * (nb - (k + 1))) + nbs ((M.drop (64 * k)).drop 64)) = nbs ((M.drop (64 * k)).drop 64) + (nbs (M.take (64 * k)) * 256 ^ 64 + nbs ((M.drop (64 * k)).take 64)) * 256 ^ (64 * (nb - (k + 1))) by
    rw [Nat.add_mul, Nat.mul_assoc]; omega]
  rw [Nat.add_mul_div_right _ _ hp, Nat.div_eq_of_lt hlt, Nat.zero_add, Nat.add_comm (nbs (M.take (64 * k)) * 256 ^ 64), Nat.add_mul_mod_self_right, Nat.mod_eq_of_lt hlt2]
theorem hashN_nat (M : Msg) (nb : Nat) (hM : M.length = 64 * nb) : ∀ k, k ≤ nb → nws (hashN M k) = nblk (nbs M) nb k
  | 0, _ => nws_H0
  | k + 1, hk => by
    rw [hashN, nblk_succ, ← mid_block M nb k hM (by omega), ← hashN_nat M nb hM k (by omega)]
    exact (press_nat _ _ (hashN_len _ _) (by rw [List.length_take, List.length_drop]; omega)).symm
theorem be_nbs (v : BitVec 64) : ∀ n, n ≤ 8 → nbs (be v n) = v.toNat % 256 ^ n := by
  intro n
  induction n with
  | zero => intro _; show 0 = v.toNat % 1; omega
  | succ n ih =>
    intro h
    have e : be v (n + 1) = byt v n :: be v n := by
      unfold be
      rw [List.range_succ_eq_map, List.map_cons, List.map_map]
      congr 1
      refine List.map_congr_left fun i hi => ?_
      show byt v (n + 1 - 1 - (i + 1)) = _
      rw [show n + 1 - 1 - (i + 1) = n - 1 - i by omega]
    rw [e, nbs_cons, be_len, ih (by omega)]
    have hb : (byt v n).toNat = v.toNat / 256 ^ n % 256 := by
      unfold byt
      rw [BitVec.toNat_setWidth, BitVec.toNat_ushiftRight, Nat.shiftRight_eq_div_pow, Nat.pow_mul]
    rw [hb, Nat.pow_succ, Nat.mod_mul, Nat.mul_comm (v.toNat / 256 ^ n % 256), Nat.add_comm]
theorem rep_nbs (n : Nat) : nbs (List.replicate n 0) = 0 := by
  induction n with
  | zero => rfl
  | succ n ih => rw [List.replicate_succ, nbs_cons, ih]; simp
theorem dig_nbs (h : List (BitVec 32)) : nbs (dig h) = nws h := by
  induction h with
  | nil => rfl
  | cons x h ih =>
    have e : dig (x :: h) = be (x.setWidth 64) 4 ++ dig h := by simp [dig]
    rw [e, nbs_append, ih, nws_cons, be_nbs _ _ (by decide), dig_len, BitVec.toNat_setWidth]
    have hx := x.isLt
    rw [Nat.pow_mul, show (256 : Nat) ^ 4 = 4294967296 by decide, Nat.mod_eq_of_lt (by omega), Nat.mod_eq_of_lt (by omega)]
theorem padZs_eq (len : Nat) (h : len < 1152921504606846976) : len + padZs (BitVec.ofNat 64 len) + 9 = 64 * ((len + 72) / 64) := by
  unfold padZs
  rw [BitVec.toNat_sub, BitVec.toNat_ofNat, BitVec.toNat_ofNat, Nat.mod_eq_of_lt (show len < 2 ^ 64 by omega)]
  omega
theorem pad_nbs (m : Msg) (h : m.length < 1152921504606846976) : nbs (m ++ padL (BitVec.ofNat 64 m.length)) = npad m.length (nbs m) := by
  have hz := padZs_eq m.length h
  rw [nbs_append, padL_len]
  unfold padL
  rw [nbs_cons, nbs_append, rep_nbs, be_nbs _ _ (by decide), List.length_append, List.length_replicate, be_len]
  have hv : (8#64 * BitVec.ofNat 64 m.length).toNat % 256 ^ 8 = 8 * m.length := by
    rw [BitVec.toNat_mul, BitVec.toNat_ofNat, BitVec.toNat_ofNat]
    omega
  rw [hv]
  show _ = nbs m * 256 ^ (64 * ((m.length + 72) / 64) - m.length) + 128 * 256 ^ (64 * ((m.length + 72) / 64) - m.length - 1) + 8 * m.length
  rw [← hz, show m.length + padZs (BitVec.ofNat 64 m.length) + 9 - m.length = padZs (BitVec.ofNat 64 m.length) + 9 by omega, show padZs (BitVec.ofNat 64 m.length) + 9 - 1 = padZs (BitVec.ofNat 64 m.length) + 8 by omega]
  show _ + (128 * _ + (0 * _ + _)) = _
  omega
/-- The sum of a text is told by numbers. -/
theorem sha_nbs (m : Msg) (h : m.length < 1152921504606846976) : nbs (sha256 m) = nsha m.length (nbs m) := by
  have hl : (m ++ padL (BitVec.ofNat 64 m.length)).length = 64 * ((m.length + 72) / 64) := by
    rw [List.length_append, padL_len]; have := padZs_eq m.length h; omega
  unfold sha256 nsha
  rw [dig_nbs, hsh, hl, Nat.mul_div_cancel_left _ (by decide), ← pad_nbs m h]
  exact hashN_nat _ _ hl _ (Nat.le_refl _)
theorem sha_byN (m : Msg) (h : m.length < 1152921504606846976) : sha256 m = byN 32 (nsha m.length (nbs m)) := by
  rw [← sha_nbs m h]
  have := byN_nbs (sha256 m)
  rw [sha256_len] at this
  exact this.symm
end Go.Proofs.YtnfebaialdfffaaDoor
