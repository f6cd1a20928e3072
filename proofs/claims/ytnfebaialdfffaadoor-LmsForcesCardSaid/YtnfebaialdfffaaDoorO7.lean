/- One-time signatures: the example's key by numbers. -/
import Derived.Test.YtnfebaialdfffaaDoorO6
import Derived.Test.YtnfebaialdfffaaDoorF2
namespace Go.Proofs.YtnfebaialdfffaaDoor
open Go.RowKit
set_option maxRecDepth 100000
set_option maxHeartbeats 20000000
noncomputable def nst (i j X : Nat) : Nat := nsha 55 (Nat.add (Nat.mul (Nat.add (Nat.mul (Nat.add 196608 i) 256) j) (Nat.pow 256 32)) X)
noncomputable def nchn (i X : Nat) : Nat → Nat := Nat.rec X (fun k H => nst i k H)
noncomputable def nend (S i : Nat) : Nat := nchn i (nst i 255 S) 15
noncomputable def nfd (S : Nat) : Nat → Nat := Nat.rec 0 (fun i A => Nat.add (Nat.mul A (Nat.pow 256 32)) (nend S i))
noncomputable def nkey (S : Nat) : Nat := nsha 2166 (Nat.add (Nat.mul 229504 (Nat.pow (Nat.pow 256 32) 67)) (nfd S 67))
abbrev id0 : Nat → BitVec 8 := fun _ => 0
theorem hd_n (i : Nat) (hi : i < 65536) : nbs (hd id0 3#32 i) = 196608 + i := by
  unfold hd
  rw [nbs_append, nbs_append, be_nbs _ _ (by decide), be_nbs _ _ (by decide), be_len, be_len]
  rw [show nbs (lw 16 id0) = 0 by decide, BitVec.toNat_ofNat]
  show (0 * 256 ^ 4 + (3#32).toNat % 2 ^ 64 % 256 ^ 4) * 256 ^ 2 + i % 2 ^ 64 % 256 ^ 2 = 196608 + i
  have : (3#32).toNat = 3 := rfl
  rw [this]
  omega
theorem st1_n (i j : Nat) (x : Msg) (hx : x.length = 32) (hi : i < 65536) (hj : j < 256) : nbs (st1 id0 3#32 i j x) = nst i j (nbs x) := by
  have hl : (hd id0 3#32 i ++ [BitVec.ofNat 8 j] ++ x).length = 55 := by rw [List.length_append, List.length_append, hd_len, hx]; rfl
  unfold st1
  rw [sha_nbs _ (by rw [hl]; decide), hl, nbs_append, nbs_append, hx, hd_n i hi]
  have e1 : nbs [BitVec.ofNat 8 j] = j := by
    rw [nbs_cons]
    show (BitVec.ofNat 8 j).toNat * 1 + 0 = j
    rw [BitVec.toNat_ofNat]; omega
  rw [e1]
  rfl
theorem ch_n (i : Nat) (x : Msg) (hx : x.length = 32) (hi : i < 65536) : ∀ k, k ≤ 255 → nbs (ch id0 3#32 i 0 x k) = nchn i (nbs x) k
  | 0, _ => rfl
  | k + 1, h => by
    have ih := ch_n i x hx hi k (by omega)
    show nbs (st1 id0 3#32 i (0 + k) (ch id0 3#32 i 0 x k)) = nst i k (nchn i (nbs x) k)
    rw [Nat.zero_add, st1_n i k _ (ch_len _ _ _ _ _ hx _) hi (by omega), ih]
theorem end_n (seed : Nat → BitVec 8) (i : Nat) (hi : i < 65536) : nbs (lw 32 (pubE id0 3#32 4 seed i)) = nend (nbs (lw 32 seed)) i := by
  unfold pubE
  rw [lw_at8 _ _ (ch_len _ _ _ _ _ (st1_len _ _ _ _ _) _)]
  show nbs (ch id0 3#32 i 0 (st1 id0 3#32 i 255 (lw 32 seed)) 15) = _
  rw [ch_n i _ (st1_len _ _ _ _ _) hi 15 (by decide), st1_n i 255 _ (lw_len _ _) hi (by decide)]
  rfl
theorem fd_n (seed : Nat → BitVec 8) : ∀ n, n ≤ 1000 → nbs (digs n (pubE id0 3#32 4 seed)) = nfd (nbs (lw 32 seed)) n
  | 0, _ => rfl
  | n + 1, h => by
    rw [digs_succ, nbs_append, lw_len, fd_n seed n (by omega), end_n seed n (by omega)]
    rfl
theorem key_g (seed : Nat → BitVec 8) (n : Nat) (hn : n ≤ 1000) : nbs (hd id0 3#32 32896 ++ digs n (pubE id0 3#32 4 seed)) = Nat.add (Nat.mul 229504 (Nat.pow (Nat.pow 256 32) n)) (nfd (nbs (lw 32 seed)) n) := by
  rw [nbs_append, digs_len, hd_n 32896 (by decide), fd_n seed n hn, Nat.pow_mul]
  rfl
theorem key_n (seed : Nat → BitVec 8) : nbs (fold id0 3#32 67 (pubE id0 3#32 4 seed)) = nkey (nbs (lw 32 seed)) := by
  have hl : (hd id0 3#32 32896 ++ digs 67 (pubE id0 3#32 4 seed)).length = 2166 := by rw [List.length_append, hd_len, digs_len]
  unfold fold
  rw [sha_nbs _ (by rw [hl]; decide), hl, key_g seed 67 (by decide)]
  rfl
theorem zero_n : ∀ (m : Msg) , (∀ j, j < m.length → at8 m j = 0) → nbs m = 0
  | [], _ => rfl
  | b :: m, h => by
    rw [nbs_cons, zero_n m fun j hj => h (j + 1) (Nat.succ_lt_succ hj)]
    have : b = 0 := h 0 (Nat.zero_lt_succ _)
    rw [this]; simp
theorem key_ne : Nat.beq (nkey (Nat.pow 256 31)) 0 = false := by decide +kernel
/-- The example's key is not all noughts. -/
theorem pubK_ne (seed : Nat → BitVec 8) (hs : nbs (lw 32 seed) = Nat.pow 256 31) : ¬ ∀ j, j < 32 → pubK 3#32 id0 3#32 seed j = 0 := fun h => by
  have hl : (fold id0 3#32 67 (pubE id0 3#32 4 seed)).length = 32 := by unfold fold; exact sha256_len _
  have h0 := zero_n (fold id0 3#32 67 (pubE id0 3#32 4 seed)) fun j hj => h j (by rw [hl] at hj; exact hj)
  rw [key_n, hs] at h0
  have := key_ne
  rw [h0] at this
  cases this
end Go.Proofs.YtnfebaialdfffaaDoor
