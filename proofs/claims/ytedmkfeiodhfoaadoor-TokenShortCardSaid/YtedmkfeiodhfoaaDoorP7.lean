/- The reference's sum. -/
import Derived.Test.YtedmkfeiodhfoaaDoorP6
namespace Go.Proofs.YtedmkfeiodhfoaaDoor
open Go.RowKit
set_option maxRecDepth 100000
set_option maxHeartbeats 20000000
def pz (l : Nat) (b : Nat → BitVec 8) (z : Nat) : Msg := lw l b ++ 128 :: List.replicate z 0
theorem pz_len (l : Nat) (b : Nat → BitVec 8) (z : Nat) : (pz l b z).length = l + 1 + z := by simp [pz, lw_len]; omega
theorem pz_succ (l : Nat) (b : Nat → BitVec 8) (z : Nat) : pz l b (z + 1) = pz l b z ++ [0] := by
  simp [pz, List.replicate_succ']
theorem one_more {f : Nat → BitVec 8} {L : Msg} {v : BitVec 8} {a x : Nat} (hL : L.length = a) (hf : ∀ i, i < a → f i = at8 L i) (hx : x < a + 1) : (if x < a then f x else asU8 (litA (.int .u8) [(0, .u8 v)] (x - a))) = at8 (L ++ [v]) x := by
  rw [at8_app, hL]
  by_cases h : x < a
  · rw [if_pos h, if_pos h, hf x h]
  · rw [if_neg h, if_neg h, show x - a = 0 by omega]; rfl
theorem pz_zero (l : Nat) (b : Nat → BitVec 8) (x : Nat) (h : x < l + 1) : (if x < l then b x else asU8 (litA (.int .u8) [(0, .u8 128)] (x - l))) = at8 (pz l b 0) x :=
  one_more (lw_len l b) (fun i hi => (at8_lw l b i hi).symm) h
theorem pz_step (l : Nat) (b : Nat → BitVec 8) (z x : Nat) (h : x < l + 1 + z + 1) : (if x < l + 1 + z then at8 (pz l b z) x else asU8 (litA (.int .u8) [(0, .u8 0)] (x - (l + 1 + z)))) = at8 (pz l b (z + 1)) x := by
  rw [pz_succ]; exact one_more (pz_len l b z) (fun _ _ => rfl) h
def zz (l : Nat) : Nat := padZs (BitVec.ofNat 64 l)
theorem zz_lt (l : Nat) : zz l < 64 ∧ (l + 1 + zz l) % 64 = 56 := by
  unfold zz padZs
  rw [BitVec.toNat_sub, BitVec.toNat_ofNat]
  simp only [BitVec.toNat_ofNat]
  omega
def pm (l : Nat) (b : Nat → BitVec 8) : Msg := lw l b ++ padL (BitVec.ofNat 64 l)
theorem pm_len (l : Nat) (b : Nat → BitVec 8) : (pm l b).length = l + 1 + zz l + 8 := by simp only [pm, List.length_append, lw_len, padL_len, zz]; omega
theorem pm_eq (l : Nat) (b : Nat → BitVec 8) : pm l b = pz l b (zz l) ++ be (8#64 * BitVec.ofNat 64 l) 8 := by
  simp [pm, pz, padL, zz]
theorem pm_at (l : Nat) (b : Nat → BitVec 8) (x : Nat) : (if x < l + 1 + zz l then at8 (pz l b (zz l)) x else at8 (be (8#64 * BitVec.ofNat 64 l) 8) (x - (l + 1 + zz l))) = at8 (pm l b) x := by
  rw [pm_eq, at8_app, pz_len]
theorem hashN_next (P : Msg) (q : Nat) (h : 64 * q + 64 ≤ P.length) : press (lw 8 (at32 (hashN P q))) (lw 64 (fun i => at8 P (64 * q + i))) = hashN P (q + 1) := by
  rw [lw_at32 _ _ (hashN_len _ _), hashN]
  congr 1
  apply List.ext_getElem?
  intro i
  simp only [lw, List.getElem?_map, List.getElem?_take, List.getElem?_drop]
  by_cases hi : i < 64
  · rw [List.getElem?_range hi, if_pos hi, get_at8 _ _ (by omega)]; rfl
  · rw [if_neg hi, List.getElem?_eq_none (by simp; omega)]; rfl
def dF (h : Nat → BitVec 32) (k i j : Nat) : BitVec 8 := if j < 4 * k + i then byt ((h (j / 4)).setWidth 64) (3 - j % 4) else 0
theorem dF_zero (h : Nat → BitVec 32) (j : Nat) : 0 = dF h 0 0 j := by unfold dF; rw [if_neg (by omega)]
theorem dF_next (h : Nat → BitVec 32) (k j : Nat) : dF h k 4 j = dF h (k + 1) 0 j := by unfold dF; rw [show 4 * k + 4 = 4 * (k + 1) + 0 by omega]
theorem dF_step (h : Nat → BitVec 32) (k i j p : Nat) (hi : i < 4) (hp : p = 4 * k + i) : (if j = p then at8 (be ((h k).setWidth 64) 4) i else dF h k i j) = dF h k (i + 1) j := by
  subst hp
  unfold dF
  by_cases h1 : j = 4 * k + i
  · subst h1
    rw [if_pos rfl, if_pos (by omega), at8_be _ _ _ hi, show (4 * k + i) / 4 = k by omega]
    congr 1; omega
  · rw [if_neg h1]
    by_cases h2 : j < 4 * k + i
    · rw [if_pos h2, if_pos (by omega)]
    · rw [if_neg h2, if_neg (by omega)]
theorem dF_all (h : Nat → BitVec 32) (j : Nat) (hj : j < 32) : dF h 8 0 j = at8 (dig (lw 8 h)) j := by
  rw [← digF_dig h j hj]; unfold dF digF; rfl
attribute [irreducible] dF pz pm zz
attribute [local irreducible] hashN sha256 hsh press dig
abbrev TD : Ty := ty 44
def C_r1_Sum : SpecP := fun A K => ∃ l b, A [bsl l b] ∧ l ≤ 1000000 ∧ K (arr8 32 (at8 (sha256 (lw l b))))
def L_r1_Sum_a (l : Nat) (b : Nat → BitVec 8) : LI := ⟨Nat, (· ≤ zz l), fun z => [(0, .gsl 5 2080 (l + 1 + z)), (2, .ptr TD 8 []), (3, .u64 (BitVec.ofNat 64 l))],
  fun z => [(8, .var TD TD.zero), (2080, .grow 5 (l + 1 + z) (bys (at8 (pz l b z))))], fun z => 64 - z, some, some⟩
def L_r1_Sum_b (l : Nat) (b : Nat → BitVec 8) : LI := ⟨Nat, fun q => 64 * q ≤ l + 1 + zz l + 8, fun q => [(0, .gsl 5 2080 (l + 1 + zz l + 8)), (2, .ptr TD 8 []), (4, .ptr T31 4137 []), (5, .nat (64 * q))],
  fun q => [(8, .var TD TD.zero), (2080, .grow 5 (l + 1 + zz l + 8) (bys (at8 (pm l b)))), (4137, .var T31 (arr32 8 (at32 (hashN (pm l b) q))))], fun q => l + 1 + zz l + 8 - 64 * q, some, some⟩
def L_r1_Sum_c (h : Nat → BitVec 32) : LI := ⟨Nat, (· ≤ 8), fun k => [(2, .ptr TD 8 []), (6, .ptr TD 5162 []), (46, arr32 8 h), (47, .nat k)],
  fun k => [(8, .var TD TD.zero), (5162, .var TD (arr8 32 (dF h k 0)))], fun k => 8 - k, some, some⟩
def L_r1_Sum_d (h : Nat → BitVec 32) : LI := ⟨Nat × Nat, fun p => p.1 < 8 ∧ p.2 ≤ 4, fun p => [(2, .ptr TD 8 []), (6, .ptr TD 5162 []), (7, .nat p.1), (46, arr32 8 h), (47, .nat p.1), (53, bsf 4 (at8 (be ((h p.1).setWidth 64) 4))), (54, .nat 4), (55, .nat p.2)],
  fun p => [(8, .var TD TD.zero), (5162, .var TD (arr8 32 (dF h p.1 p.2)))], fun p => 4 - p.2, some, some⟩
end Go.Proofs.YtedmkfeiodhfoaaDoor
