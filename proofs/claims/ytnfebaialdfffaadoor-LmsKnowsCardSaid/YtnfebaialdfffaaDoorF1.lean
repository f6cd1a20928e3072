/- SHA-256 of lists of bytes by numbers. -/
import Derived.Test.YtnfebaialdfffaaDoorF0
namespace Go.Proofs.YtnfebaialdfffaaDoor
set_option maxRecDepth 100000
/-- Bytes and words as numbers, the first one the highest. -/
def nbs (m : Msg) : Nat := m.foldl (fun a b => 256 * a + b.toNat) 0
def nws (l : List (BitVec 32)) : Nat := l.foldl (fun a b => 4294967296 * a + b.toNat) 0
def byN (n X : Nat) : Msg := (List.range n).map fun i => BitVec.ofNat 8 (X / 256 ^ (n - 1 - i))
theorem nbs_from (m : Msg) : ∀ a, m.foldl (fun a b => 256 * a + b.toNat) a = a * 256 ^ m.length + nbs m := by
  induction m with
  | nil => intro a; simp [nbs]
  | cons b m ih =>
    intro a
    unfold nbs
    rw [List.foldl_cons, List.foldl_cons, ih, ih, List.length_cons, Nat.pow_succ]
    rw [Nat.add_mul, Nat.add_mul, Nat.mul_comm 256 a, Nat.mul_assoc a, Nat.mul_comm 256 (256 ^ m.length)]
    omega
theorem nbs_append (a b : Msg) : nbs (a ++ b) = nbs a * 256 ^ b.length + nbs b := by
  unfold nbs
  rw [List.foldl_append]
  exact nbs_from b _
theorem nbs_cons (b : BitVec 8) (m : Msg) : nbs (b :: m) = b.toNat * 256 ^ m.length + nbs m := by
  show (b :: m).foldl (fun a b => 256 * a + b.toNat) 0 = _
  rw [List.foldl_cons, nbs_from]
  simp
theorem nbs_lt (m : Msg) : nbs m < 256 ^ m.length := by
  induction m with
  | nil => decide
  | cons b m ih =>
    rw [nbs_cons, List.length_cons, Nat.pow_succ]
    have hb := b.isLt
    have := Nat.mul_le_mul_right (256 ^ m.length) (Nat.le_of_lt_succ hb)
    omega
theorem nws_from (m : List (BitVec 32)) : ∀ a, m.foldl (fun a b => 4294967296 * a + b.toNat) a = a * 4294967296 ^ m.length + nws m := by
  induction m with
  | nil => intro a; simp [nws]
  | cons b m ih =>
    intro a
    unfold nws
    rw [List.foldl_cons, List.foldl_cons, ih, ih, List.length_cons, Nat.pow_succ]
    rw [Nat.add_mul, Nat.add_mul, Nat.mul_comm 4294967296 a, Nat.mul_assoc a, Nat.mul_comm 4294967296 (4294967296 ^ m.length)]
    omega
theorem nws_append (a b : List (BitVec 32)) : nws (a ++ b) = nws a * 4294967296 ^ b.length + nws b := by
  unfold nws
  rw [List.foldl_append]
  exact nws_from b _
theorem nws_cons (b : BitVec 32) (m : List (BitVec 32)) : nws (b :: m) = b.toNat * 4294967296 ^ m.length + nws m := by
  show (b :: m).foldl (fun a b => 4294967296 * a + b.toNat) 0 = _
  rw [List.foldl_cons, nws_from]
  simp
theorem nws_lt (m : List (BitVec 32)) : nws m < 4294967296 ^ m.length := by
  induction m with
  | nil => decide
  | cons b m ih =>
    rw [nws_cons, List.length_cons, Nat.pow_succ]
    have hb := b.isLt
    have := Nat.mul_le_mul_right (4294967296 ^ m.length) (Nat.le_of_lt_succ hb)
    omega
/-- A digit of a number in any base. -/
theorem dig_low (c n k x y : Nat) (hc : 0 < c) (hk : k < n) : (x * c ^ n + y) / c ^ k % c = y / c ^ k % c := by
  obtain ⟨d, rfl⟩ : ∃ d, n = k + d + 1 := ⟨n - k - 1, by omega⟩
  rw [show x * c ^ (k + d + 1) + y = y + (x * c ^ d * c) * c ^ k by rw [Nat.pow_succ, Nat.pow_add]; simp only [Nat.mul_comm, Nat.mul_left_comm, Nat.add_comm], Nat.add_mul_div_right _ _ (Nat.pow_pos hc), Nat.add_mul_mod_self_right]
theorem dig_top (c n x y : Nat) (hy : y < c ^ n) (hx : x < c) : (x * c ^ n + y) / c ^ n % c = x := by
  have h0 : 0 < c ^ n := by omega
  rw [Nat.add_comm, Nat.add_mul_div_right _ _ h0, Nat.div_eq_of_lt hy, Nat.zero_add, Nat.mod_eq_of_lt hx]
theorem ofNat8 (x : Nat) : BitVec.ofNat 8 x = BitVec.ofNat 8 (x % 256) := by
  apply BitVec.eq_of_toNat_eq
  simp
theorem byN_succ (n X : Nat) : byN (n + 1) X = BitVec.ofNat 8 (X / 256 ^ n) :: byN n X := by
  unfold byN
  rw [List.range_succ_eq_map, List.map_cons, List.map_map]
  congr 1
  refine List.map_congr_left fun i hi => ?_
  show BitVec.ofNat 8 (X / 256 ^ (n + 1 - 1 - (i + 1))) = _
  rw [show n + 1 - 1 - (i + 1) = n - 1 - i by omega]
theorem byN_low (n x y : Nat) : byN n (x * 256 ^ n + y) = byN n y := by
  unfold byN
  refine List.map_congr_left fun i hi => ?_
  rw [List.mem_range] at hi
  rw [ofNat8, dig_low 256 n (n - 1 - i) x y (by decide) (by omega), ← ofNat8]
theorem byN_nbs (m : Msg) : byN m.length (nbs m) = m := by
  induction m with
  | nil => rfl
  | cons b m ih =>
    rw [List.length_cons, byN_succ, nbs_cons, byN_low, ih, ofNat8, dig_top 256 _ _ _ (nbs_lt m) b.isLt, BitVec.ofNat_toNat, BitVec.setWidth_eq]
/-- A word of a number. -/
theorem nwd_at (l : List (BitVec 32)) : ∀ i, i < l.length → nwd (nws l) (l.length - 1 - i) = (at32 l i).toNat := by
  have e : ∀ X k, nwd X k = X / 4294967296 ^ k % 4294967296 := fun X k => by
    unfold nwd nmd
    show (X >>> (32 * k)) % 4294967296 = _
    rw [Nat.shiftRight_eq_div_pow, Nat.pow_mul]
  induction l with
  | nil => intro i hi; simp at hi
  | cons b m ih =>
    intro i hi
    rw [e, nws_cons, List.length_cons]
    match i with
    | 0 =>
      rw [show m.length + 1 - 1 - 0 = m.length by omega, dig_top _ _ _ _ (nws_lt m) b.isLt]
      rfl
    | i + 1 =>
      have hi : i < m.length := by simpa using hi
      rw [show m.length + 1 - 1 - (i + 1) = m.length - 1 - i by omega, dig_low _ _ _ _ _ (by decide) (by omega), ← e, ih i hi]
      rfl
/-- The words of a block. -/
theorem val_take_nbs (m : Msg) (h : m.length ≤ 8) : ∀ k, k ≤ m.length → (val (m.take k)).toNat = nbs (m.take k)
  | 0, _ => by simp [val, nbs]
  | k + 1, hk => by
    have hb := (at8 m k).isLt
    have hl := nbs_lt (m.take k)
    rw [List.length_take, Nat.min_eq_left (by omega)] at hl
    have h7 : 256 ^ k ≤ 256 ^ 7 := Nat.pow_le_pow_right (by decide) (by omega)
    rw [val_take m k (by omega), take_snoc8 m k (by omega), nbs_append, BitVec.toNat_add, BitVec.toNat_mul, BitVec.toNat_setWidth, val_take_nbs m h k (by omega)]
    have e : nbs [at8 m k] = (at8 m k).toNat := by simp [nbs]
    rw [e]
    simp only [List.length_cons, List.length_nil, BitVec.toNat_ofNat]
    omega
theorem val_nbs (m : Msg) (h : m.length ≤ 8) : (val m).toNat = nbs m := by
  have := val_take_nbs m h m.length (Nat.le_refl _)
  rwa [List.take_length] at this
theorem w4_nbs (a b c d : BitVec 8) : (w4 a b c d).toNat = nbs [a, b, c, d] := by
  have h1 := congrArg BitVec.toNat (w4_val64 a b c d)
  rw [BitVec.toNat_setWidth, val_nbs [a, b, c, d] (show 4 ≤ 8 by decide)] at h1
  have hl := (w4 a b c d).isLt
  rwa [Nat.mod_eq_of_lt (by omega)] at h1
theorem nbs_L1 (bl : Msg) : ∀ k, 4 * k ≤ bl.length → nbs (bl.take (4 * k)) = nws (L1 bl k)
  | 0, _ => rfl
  | k + 1, h => by
    rw [L1_succ, nws_append, ← nbs_L1 bl k (by omega)]
    have e : bl.take (4 * (k + 1)) = bl.take (4 * k) ++ [at8 bl (4 * k), at8 bl (4 * k + 1), at8 bl (4 * k + 2), at8 bl (4 * k + 3)] := by
      rw [show 4 * (k + 1) = 4 * k + 1 + 1 + 1 + 1 by omega, take_snoc8 _ _ (by omega), take_snoc8 _ _ (by omega), take_snoc8 _ _ (by omega), take_snoc8 _ _ (by omega)]
      simp
    rw [e, nbs_append]
    have : nws [wat bl k] = nbs [at8 bl (4 * k), at8 bl (4 * k + 1), at8 bl (4 * k + 2), at8 bl (4 * k + 3)] := by
      unfold wat
      rw [← w4_nbs]
      simp [nws]
    rw [this, show 4294967296 ^ [wat bl k].length = 256 ^ [at8 bl (4 * k), at8 bl (4 * k + 1), at8 bl (4 * k + 2), at8 bl (4 * k + 3)].length by simp]
/-! ### The compression -/
/-- A schedule that goes on. -/
def wInf (bl : Msg) (n : Nat) : BitVec 32 := at32 (extN (L1 bl 16) (n + 1)) n
theorem at32_app (l r : List (BitVec 32)) (n : Nat) (h : n < l.length) : at32 (l ++ r) n = at32 l n := by simp [at32, List.getElem?_append_left h]
theorem extN_at (l : List (BitVec 32)) (j n : Nat) (h : n < l.length + j) : ∀ d, at32 (extN l (j + d)) n = at32 (extN l j) n
  | 0 => rfl
  | d + 1 => by
    rw [← Nat.add_assoc, extN, at32_app _ _ _ (by rw [extN_len]; omega), extN_at l j n h d]
theorem wInf_at (bl : Msg) (j n : Nat) (h : n < 16 + j) : at32 (extN (L1 bl 16) j) n = wInf bl n := by
  unfold wInf
  rcases Nat.le_total j (n + 1) with h1 | h1
  · have := extN_at (L1 bl 16) j n (by rw [L1_len]; exact h) (n + 1 - j)
    rw [show j + (n + 1 - j) = n + 1 by omega] at this
    exact this.symm
  · have := extN_at (L1 bl 16) (n + 1) n (by rw [L1_len]; omega) (j - (n + 1))
    rw [show n + 1 + (j - (n + 1)) = j by omega] at this
    exact this
theorem at32_last (l : List (BitVec 32)) (v : BitVec 32) (k : Nat) (h : l.length = k) : at32 (l ++ [v]) k = v := by
  subst h; simp [at32]
theorem wInf_rec (bl : Msg) (n : Nat) : wInf bl (n + 16) = sS1 (wInf bl (n + 14)) + wInf bl (n + 9) + sS0 (wInf bl (n + 1)) + wInf bl n := by
  have hl : (extN (L1 bl 16) n).length = n + 16 := by rw [extN_len, L1_len]; omega
  rw [← wInf_at bl (n + 1) (n + 16) (by omega), extN, at32_last _ _ _ hl, nxt, hl, show n + 16 - 2 = n + 14 by omega, show n + 16 - 7 = n + 9 by omega, show n + 16 - 15 = n + 1 by omega, show n + 16 - 16 = n by omega]
  rw [wInf_at bl n _ (by omega), wInf_at bl n _ (by omega), wInf_at bl n _ (by omega), wInf_at bl n _ (by omega)]
theorem runR_K (h : List (BitVec 32)) (bl : Msg) : ∀ d i, i + d = 64 → runK (KK.drop i) (fun q => wInf bl (q + i)) (runR h (sched bl) i) = runR h (sched bl) 64
  | 0, i, e => by
    obtain rfl : i = 64 := by omega
    rfl
  | d + 1, i, e => by
    have hk : KK.drop i = at32 KK i :: KK.drop (i + 1) := by
      have : i < KK.length := by show i < 64; omega
      rw [List.drop_eq_getElem_cons this]
      simp [at32, this]
    have hw : at32 (sched bl) i = wInf bl (0 + i) := by
      rw [sched, wInf_at bl 48 i (by omega), Nat.zero_add]
    rw [hk, runK, ← hw, show stp (runR h (sched bl) i) (at32 KK i) (at32 (sched bl) i) = runR h (sched bl) (i + 1) from rfl]
    have := runR_K h bl d (i + 1) (by omega)
    rw [← this]
    refine congrArg (fun f => runK (KK.drop (i + 1)) f (runR h (sched bl) (i + 1))) (funext fun q => ?_)
    show wInf bl (q + 1 + i) = wInf bl (q + (i + 1))
    rw [show q + 1 + i = q + (i + 1) by omega]
theorem nKS_eq : nKS = KK.map (·.toNat) := by decide +kernel
theorem nmd_add (a b : BitVec 32) : nmd (Nat.add a.toNat b.toNat) = (a + b).toNat := by
  rw [nmd_eq, BitVec.toNat_add]; rfl
theorem npk_eq (a b : Nat) : npk a b = a * 4294967296 + b := by unfold npk; rfl
theorem out8_eq (h : List (BitVec 32)) (s : Sta) : out8 (at32 h 0).toNat (at32 h 1).toNat (at32 h 2).toNat (at32 h 3).toNat (at32 h 4).toNat (at32 h 5).toNat (at32 h 6).toNat (at32 h 7).toNat s = nws (fin8 h s) := by
  unfold out8 fin8
  simp only [nmd_add, npk_eq, nws, List.foldl_cons, List.foldl_nil]
  omega
theorem press_nat (h : List (BitVec 32)) (bl : Msg) (hh : h.length = 8) (hb : bl.length = 64) : npress (nws h) (nbs bl) = nws (press h bl) := by
  have e : nbs bl = nws (L1 bl 16) := by
    have := nbs_L1 bl 16 (by omega)
    rwa [List.take_of_length_le (by omega)] at this
  have hH : ∀ i, i < 8 → nwd (nws h) (7 - i) = (at32 h i).toNat := fun i hi => by
    have := nwd_at h i (by omega)
    rw [hh] at this
    exact this
  have hB : ∀ i, i < 16 → nwd (nbs bl) (15 - i) = (wInf bl i).toNat := fun i hi => by
    have := nwd_at (L1 bl 16) i (by rw [L1_len]; exact hi)
    rw [L1_len] at this
    rw [e, ← wInf_at bl 0 i (by omega)]
    exact this
  unfold npress
  rw [show nwd (nws h) 7 = (at32 h 0).toNat from hH 0 (by decide), show nwd (nws h) 6 = (at32 h 1).toNat from hH 1 (by decide), show nwd (nws h) 5 = (at32 h 2).toNat from hH 2 (by decide), show nwd (nws h) 4 = (at32 h 3).toNat from hH 3 (by decide), show nwd (nws h) 3 = (at32 h 4).toNat from hH 4 (by decide), show nwd (nws h) 2 = (at32 h 5).toNat from hH 5 (by decide), show nwd (nws h) 1 = (at32 h 6).toNat from hH 6 (by decide), show nwd (nws h) 0 = (at32 h 7).toNat from hH 7 (by decide), show nwd (nbs bl) 15 = (wInf bl 0).toNat from hB 0 (by decide), show nwd (nbs bl) 14 = (wInf bl 1).toNat from hB 1 (by decide), show nwd (nbs bl) 13 = (wInf bl 2).toNat from hB 2 (by decide), show nwd (nbs bl) 12 = (wInf bl 3).toNat from hB 3 (by decide), show nwd (nbs bl) 11 = (wInf bl 4).toNat from hB 4 (by decide), show nwd (nbs bl) 10 = (wInf bl 5).toNat from hB 5 (by decide), show nwd (nbs bl) 9 = (wInf bl 6).toNat from hB 6 (by decide), show nwd (nbs bl) 8 = (wInf bl 7).toNat from hB 7 (by decide), show nwd (nbs bl) 7 = (wInf bl 8).toNat from hB 8 (by decide), show nwd (nbs bl) 6 = (wInf bl 9).toNat from hB 9 (by decide), show nwd (nbs bl) 5 = (wInf bl 10).toNat from hB 10 (by decide), show nwd (nbs bl) 4 = (wInf bl 11).toNat from hB 11 (by decide), show nwd (nbs bl) 3 = (wInf bl 12).toNat from hB 12 (by decide), show nwd (nbs bl) 2 = (wInf bl 13).toNat from hB 13 (by decide), show nwd (nbs bl) 1 = (wInf bl 14).toNat from hB 14 (by decide), show nwd (nbs bl) 0 = (wInf bl 15).toNat from hB 15 (by decide), nKS_eq, n_sch KK (wInf bl) (wInf_rec bl)]
  have hr := n_rnd (at32 h 0).toNat (at32 h 1).toNat (at32 h 2).toNat (at32 h 3).toNat (at32 h 4).toNat (at32 h 5).toNat (at32 h 6).toNat (at32 h 7).toNat KK (wInf bl) (st0 h)
  have hk := runR_K h bl 64 0 rfl
  rw [show runK (KK.drop 0) (fun q => wInf bl (q + 0)) (runR h (sched bl) 0) = runK KK (wInf bl) (st0 h) from rfl] at hk
  rw [hk, out8_eq] at hr
  exact hr
end Go.Proofs.YtnfebaialdfffaaDoor
