/- AES: the key schedule. -/
import Derived.Test.YtobilidppfmdkaaA3
namespace Go.Proofs.Ytobilidppfmdkaa
open Go.RowKit
set_option maxRecDepth 100000
set_option maxHeartbeats 20000000
def lw {α : Type} (n : Nat) (f : Nat → α) : List α := (List.range n).map f
theorem lw_len {α : Type} (n : Nat) (f : Nat → α) : (lw n f).length = n := by simp [lw]
theorem at32_lw (n : Nat) (f : Nat → BitVec 32) (i : Nat) (h : i < n) : at32 (lw n f) i = f i := by simp [at32, lw, List.getD, h]
theorem at8_lw (n : Nat) (f : Nat → BitVec 8) (i : Nat) (h : i < n) : at8 (lw n f) i = f i := by simp [at8, lw, List.getD, h]
theorem at32_over (l : List (BitVec 32)) (j : Nat) (h : l.length ≤ j) : at32 l j = 0 := by
  simp [at32, List.getD_eq_getElem?_getD, List.getElem?_eq_none h]
theorem at32_snoc (l : List (BitVec 32)) (v : BitVec 32) (j k : Nat) (hk : l.length = k) : (if j = k then v else at32 l j) = at32 (l ++ [v]) j := by
  subst hk
  simp only [at32, List.getD_eq_getElem?_getD, List.getElem?_append]
  by_cases h : j = l.length
  · subst h; simp
  · rw [if_neg h]
    by_cases h2 : j < l.length
    · rw [if_pos h2]
    · rw [if_neg h2, List.getElem?_eq_none (by omega), List.getElem?_eq_none (by simp; omega)]
attribute [local irreducible] xt rol8 aff pw lg sbx isx gm sbN isN xtN at32
def wordAt (b : Nat → BitVec 8) (o : Nat) : BitVec 32 := ((b o).setWidth 32 <<< 24) ||| ((b (o+1)).setWidth 32 <<< 16) ||| ((b (o+2)).setWidth 32 <<< 8) ||| ((b (o+3)).setWidth 32)
def C_aes_word : SpecP := fun A K => ∃ l b, A [bsl l b] ∧ 4 ≤ l ∧ K (.u32 (wordAt b 0))
def C_bits_RotateLeft32 : SpecP := fun A K => ∃ (x : BitVec 32) (n : Nat), A [.u32 x, .nat n] ∧ n < 32 ∧ K (.u32 (x <<< n ||| x >>> (32 - n)))
theorem rot_n32 (n : Nat) (h : n < 32) : (BitVec.ofNat 64 n &&& BitVec.ofInt 64 31).toNat = n ∧ (BitVec.ofInt 64 32 - (BitVec.ofNat 64 n &&& BitVec.ofInt 64 31)).toNat = 32 - n := by
  have : ∀ n : Fin 32, (BitVec.ofNat 64 n.val &&& BitVec.ofInt 64 31).toNat = n.val ∧ (BitVec.ofInt 64 32 - (BitVec.ofNat 64 n.val &&& BitVec.ofInt 64 31)).toNat = 32 - n.val := by decide
  exact this ⟨n, h⟩
/-- Each byte of a word by a table. -/
def subW (T : Nat → BitVec 8) (x : BitVec 32) : BitVec 32 := (T (x >>> 24).toNat).setWidth 32 <<< 24 ||| (T (x >>> 16 &&& 255#32).toNat).setWidth 32 <<< 16 ||| (T (x >>> 8 &&& 255#32).toNat).setWidth 32 <<< 8 ||| (T (x &&& 255#32).toNat).setWidth 32
theorem and255 (x : BitVec 32) : (x &&& 255#32).toNat < 256 := by
  rw [BitVec.toNat_and]
  exact Nat.lt_of_le_of_lt Nat.and_le_right (by decide)
theorem shr24 (x : BitVec 32) : (x >>> 24).toNat < 256 := by
  rw [BitVec.toNat_ushiftRight, Nat.shiftRight_eq_div_pow]
  have := x.isLt
  omega
def C_aes_substitutedWord : SpecP := fun A K => ∃ x T, A [.u32 x, arr8 256 T] ∧ K (.u32 (subW T x))
def C_aes_Key_count : SpecP := fun A K => ∃ nr w, A [kyA nr w] ∧ nr ≤ 14 ∧ K (.nat (4 * nr + 4))
def C_aes_Key_Rounds : SpecP := fun A K => ∃ nr w, A [kyA nr w] ∧ K (.nat nr)
/-! ### The words that follow -/
def kcon (i nk : Nat) : BitVec 32 := (xtN 1#8 ((i - 1) / nk)).setWidth 32 <<< 24
def rot8 (w : BitVec 32) : BitVec 32 := w <<< 8 ||| w >>> 24
def kmid (i nk : Nat) (w : BitVec 32) : BitVec 32 := if i % nk = 0 then subW sbN (rot8 w) ^^^ kcon i nk else if i % nk = 4 then subW sbN w else w
def knx (nk : Nat) (L : List (BitVec 32)) : BitVec 32 := at32 L (L.length - nk) ^^^ kmid L.length nk (at32 L (L.length - 1))
def ke (nk : Nat) (L : List (BitVec 32)) : Nat → List (BitVec 32)
  | 0 => L
  | j + 1 => ke nk L j ++ [knx nk (ke nk L j)]
theorem ke_len (nk : Nat) (L : List (BitVec 32)) : ∀ j, (ke nk L j).length = L.length + j
  | 0 => rfl
  | j + 1 => by rw [ke, List.length_append, ke_len nk L j]; rfl
theorem ke_step (nk : Nat) (L : List (BitVec 32)) (j i x : Nat) (v m : BitVec 32) (hL : L.length = nk) (hi : i = nk + j) (hm : m = kmid i nk (at32 (ke nk L j) (i - 1))) (hv : v = at32 (ke nk L j) (i - nk) ^^^ m) :
    (if x = i then v else at32 (ke nk L j) x) = at32 (ke nk L (j + 1)) x := by
  have hl := ke_len nk L j
  have e : (ke nk L j).length = i := by omega
  rw [ke, ← at32_snoc _ _ _ i e]
  have : knx nk (ke nk L j) = v := by rw [knx, e, hv, hm]
  rw [this]
attribute [local irreducible] ke subW kcon kmid rot8
theorem own_ky (nr : Nat) (w : Nat → BitVec 32) : Own (kyA nr w) := fun i hi => by
  rcases i with _ | _ | i
  · exact trivial
  · exact fun _ _ => trivial
  · omega
def C_aes_Key_expanded : SpecP := fun A K => ∃ nk L, A [kyA (nk + 6) (at32 L), .nat nk] ∧ L.length = nk ∧ (nk = 4 ∨ nk = 8) ∧ K (kyA (nk + 6) (at32 (ke nk L (3 * nk + 28))))
/-- A key's words. -/
def kfirst (nk : Nat) (b : Nat → BitVec 8) : List (BitVec 32) := lw nk fun i => wordAt (fun t => b (4 * i + t)) 0
def ksch (nk : Nat) (b : Nat → BitVec 8) : List (BitVec 32) := ke nk (kfirst nk b) (3 * nk + 28)
theorem kfirst_len (nk : Nat) (b : Nat → BitVec 8) : (kfirst nk b).length = nk := lw_len _ _
theorem ksch_len (nk : Nat) (b : Nat → BitVec 8) : (ksch nk b).length = 4 * nk + 28 := by unfold ksch; rw [ke_len, kfirst_len]; omega
def kfF (nk : Nat) (b : Nat → BitVec 8) (k j : Nat) : BitVec 32 := if j < k then at32 (kfirst nk b) j else 0
theorem kfF_zero (nk : Nat) (b : Nat → BitVec 8) (j : Nat) : 0 = kfF nk b 0 j := by unfold kfF; rw [if_neg (by omega)]
theorem kfF_step (nk : Nat) (b : Nat → BitVec 8) (k j : Nat) (hk : k < nk) : (if j = k then wordAt (fun t => b (4 * k + t)) 0 else kfF nk b k j) = kfF nk b (k + 1) j := by
  unfold kfF
  by_cases h : j = k
  · subst h; rw [if_pos rfl, if_pos (by omega), kfirst, at32_lw _ _ _ hk]
  · rw [if_neg h]
    by_cases h2 : j < k
    · rw [if_pos h2, if_pos (by omega)]
    · rw [if_neg h2, if_neg (by omega)]
theorem kfF_all (nk : Nat) (b : Nat → BitVec 8) (j : Nat) : kfF nk b nk j = at32 (kfirst nk b) j := by
  unfold kfF
  split
  · rfl
  · rw [at32_over _ _ (by rw [kfirst_len]; omega)]
attribute [irreducible] kfF kfirst ksch
theorem own_res {a b : AV} (ha : Own a) (hb : Own b) : Own (tupOf [a, b]) := fun i hi => by
  rcases i with _ | _ | i
  · exact ha
  · exact hb
  · exact absurd hi (by show ¬ i + 2 < 2; omega)
def C_aes_New : SpecP := fun A K => ∃ nk b, A [bsl (4 * nk) b] ∧ (nk = 4 ∨ nk = 8) ∧ K (tupOf [kyA (nk + 6) (at32 (ksch nk b)), .nat 0])
def C_aes_New_n : SpecP := fun A K => ∃ l b, A [bsl l b] ∧ l ≠ 16 ∧ l ≠ 32 ∧ K (tupOf [kyA 0 (fun _ => 0), .nat 1])
end Go.Proofs.Ytobilidppfmdkaa
