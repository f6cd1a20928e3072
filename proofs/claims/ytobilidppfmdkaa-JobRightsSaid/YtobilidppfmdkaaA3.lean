/- AES on blocks: masked, substituted, shifted, mixed. -/
import Derived.Test.YtobilidppfmdkaaA2
namespace Go.Proofs.Ytobilidppfmdkaa
open Go.RowKit
set_option maxRecDepth 100000
set_option maxHeartbeats 20000000
attribute [local irreducible] xt rol8 aff pw lg sbx isx gm sbN isN
/-- A row that is filled one by one. -/
def fil {w : Nat} (v f : Nat → BitVec w) (k j : Nat) : BitVec w := if j < k then v j else f j
theorem fil_zero {w : Nat} (v f : Nat → BitVec w) (j : Nat) : f j = fil v f 0 j := by unfold fil; rw [if_neg (by omega)]
theorem fil_at {w : Nat} (v f : Nat → BitVec w) (k : Nat) : fil v f k k = f k := by unfold fil; rw [if_neg (by omega)]
theorem fil_all {w : Nat} (v f : Nat → BitVec w) (n j : Nat) (h : j < n) : fil v f n j = v j := by unfold fil; rw [if_pos h]
theorem fil_step {w : Nat} (v f : Nat → BitVec w) (k j : Nat) (x : BitVec w) (hx : x = v k) : (if j = k then x else fil v f k j) = fil v f (k + 1) j := by
  subst hx
  unfold fil
  by_cases h : j = k
  · subst h; rw [if_pos rfl, if_pos (by omega)]
  · rw [if_neg h]
    by_cases h2 : j < k
    · rw [if_pos h2, if_pos (by omega)]
    · rw [if_neg h2, if_neg (by omega)]
attribute [irreducible] fil
/-- A key's schedule. -/
def kyA (nr : Nat) (w : Nat → BitVec 32) : AV := .agg false 2 (nth .junk [.nat nr, arr32 60 w])
def kb (w : Nat → BitVec 32) (r j : Nat) : BitVec 8 := (w (4 * r + j / 4) >>> (24 - 8 * (j % 4))).setWidth 8
def mkB (w : Nat → BitVec 32) (r : Nat) (f : Nat → BitVec 8) (j : Nat) : BitVec 8 := f j ^^^ kb w r j
def C_aes_Key_masked : SpecP := fun A K => ∃ nr w f r, A [kyA nr w, arr8 16 f, .nat r] ∧ r ≤ 14 ∧ K (arr8 16 (mkB w r f))
def shB (by' : Nat) (f : Nat → BitVec 8) (j : Nat) : BitVec 8 := f ((j + 4 * by' * (j % 4)) % 16)
def C_aes_shifted : SpecP := fun A K => ∃ f n, A [arr8 16 f, .nat n] ∧ n ≤ 3 ∧ K (arr8 16 (shB n f))
def suB (T : Nat → BitVec 8) (f : Nat → BitVec 8) (j : Nat) : BitVec 8 := T (f j).toNat
def C_aes_substituted : SpecP := fun A K => ∃ f T, A [arr8 16 f, arr8 256 T] ∧ K (arr8 16 (suB T f))
/-! ### Columns mixed -/
def mx (g f : Nat → BitVec 8) (i : Nat) : Nat → BitVec 8
  | 0 => 0
  | k + 1 => mx g f i k ^^^ gm (g k) (f (4 * (i / 4) + (i % 4 + k) % 4))
def miB (g f : Nat → BitVec 8) (i : Nat) : BitVec 8 := mx g f i 4
def mR (g f : Nat → BitVec 8) (i k x : Nat) : BitVec 8 := if x < i then miB g f x else if x = i then mx g f i k else 0
theorem mR_zero (g f : Nat → BitVec 8) (x : Nat) : 0 = mR g f 0 0 x := by
  unfold mR; rw [if_neg (by omega)]
  split
  · rw [mx]
  · rfl
theorem mR_at (g f : Nat → BitVec 8) (i k : Nat) : mR g f i k i = mx g f i k := by unfold mR; rw [if_neg (by omega), if_pos rfl]
theorem mR_step (g f : Nat → BitVec 8) (i k x : Nat) (v : BitVec 8) (hv : v = mx g f i (k + 1)) : (if x = i then v else mR g f i k x) = mR g f i (k + 1) x := by
  subst hv
  unfold mR
  by_cases h : x = i
  · rw [if_pos h, if_neg (by omega), if_pos h]
  · rw [if_neg h, if_neg h]
    by_cases h2 : x < i
    · rw [if_pos h2, if_pos h2]
    · rw [if_neg h2, if_neg h2, if_neg h]
theorem mR_next (g f : Nat → BitVec 8) (i x : Nat) : mR g f i 4 x = mR g f (i + 1) 0 x := by
  unfold mR
  by_cases h : x = i
  · subst h; rw [if_neg (by omega), if_pos rfl, if_pos (by omega)]; rfl
  · by_cases h2 : x < i
    · rw [if_pos h2, if_pos (by omega)]
    · rw [if_neg h2, if_neg h, if_neg (by omega)]
      by_cases h3 : x = i + 1
      · rw [if_pos h3, mx]
      · rw [if_neg h3]
theorem mR_all (g f : Nat → BitVec 8) (x : Nat) (h : x < 16) : mR g f 16 0 x = miB g f x := by unfold mR; rw [if_pos h]
attribute [irreducible] mR
def C_aes_mixed : SpecP := fun A K => ∃ f g, A [arr8 16 f, arr8 4 g] ∧ K (arr8 16 (miB g f))
end Go.Proofs.Ytobilidppfmdkaa
