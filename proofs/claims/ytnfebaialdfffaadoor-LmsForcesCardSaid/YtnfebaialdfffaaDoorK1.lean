/- Tokens: bodies, forth and back. -/
import Derived.Test.YtnfebaialdfffaaDoorKB
namespace Go.Proofs.YtnfebaialdfffaaDoor
open Go.RowKit
set_option maxRecDepth 100000
set_option maxHeartbeats 20000000
attribute [local irreducible] hsh rst sha256 press dig
def tkA (k : AV) (n : BitVec 32) (c : Nat → BitVec 8) : AV := .agg false 3 (nth .junk [k, .u32 n, arr8 16 c])
theorem own_tk (k : AV) (hk : Own k) (n : BitVec 32) (c : Nat → BitVec 8) : Own (tkA k n c) := fun i hi => by
  rcases i with _ | _ | _ | i
  · exact hk
  · exact trivial
  · exact fun _ _ => trivial
  · omega
theorem own_tkn (k : Nat) (n : BitVec 32) (c : Nat → BitVec 8) : Own (tkA (.nat k) n c) := own_tk (.nat k) (show Own (.nat k) from trivial) n c
def wd4 (b : Nat → BitVec 8) (o : Nat) : BitVec 32 := w4 (b o) (b (o + 1)) (b (o + 2)) (b (o + 3))
def C_tok_word : SpecP := fun A K => ∃ l b, A [bsl l b] ∧ 4 ≤ l ∧ K (.u32 (w4 (b 0) (b 1) (b 2) (b 3)))
def C_tok_put : SpecM := fun A K => ∃ n o l f v, A [.gsub 5 0 n o l, .u32 v] [(0, .grow 5 n (bys f))] ∧ o + l ≤ n ∧ n ≤ 1000000000 ∧ 4 ≤ l ∧ K (.tup 0 fun _ => .junk) [(0, .grow 5 n (bys (put4 f o v)))]
def C_tok_exists : SpecP := fun A K => ∃ z n c, A [tkA (.int z) n c] ∧ K (.bo (decide (1 ≤ z ∧ z ≤ 3)))
def tkF (v : BitVec 64) (n : BitVec 32) (c : Nat → BitVec 8) (j : Nat) : BitVec 8 :=
  if j < 4 then at8 [84, 79, 75, 78] j else if j < 8 then byt v (7 - j) else if j < 12 then byt (n.setWidth 64) (11 - j) else c (j - 12)
def C_tok_Body : SpecP := fun A K => ∃ z n c, A [tkA (.int z) n c] ∧ (1 ≤ z ∧ z ≤ 3) ∧ K (tupOf [bsf 28 (tkF (BitVec.ofInt 64 z) n c), .nat 0])
def C_tok_BodyE : SpecP := fun A K => ∃ z n c, A [tkA (.int z) n c] ∧ ¬ (1 ≤ z ∧ z ≤ 3) ∧ K (tupOf [.nils, .nat 1])
theorem tkB_z (z : Int) (hz : 1 ≤ z ∧ z ≤ 3) (k : Nat) (hk : k < 4) : byt (BitVec.ofInt 64 z) k = (BitVec.ofInt 32 z >>> (8 * k)).setWidth 8 := by
  obtain rfl | rfl | rfl : z = 1 ∨ z = 2 ∨ z = 3 := by omega
  all_goals
    obtain rfl | rfl | rfl | rfl : k = 0 ∨ k = 1 ∨ k = 2 ∨ k = 3 := by omega
    all_goals decide
theorem tkB_at (z : Int) (hz : 1 ≤ z ∧ z ≤ 3) (n : BitVec 32) (c f : Nat → BitVec 8) (x : Nat) (hx : x < 28) (hf : ∀ j, j < 4 → f j = at8 [84, 79, 75, 78] j) :
    (if 12 ≤ x ∧ x < 12 + min 16 16 then c (0 + (x - 12)) else put4 (put4 f 4 (BitVec.ofInt 32 z)) 8 n x) = tkF (BitVec.ofInt 64 z) n c x := by
  unfold tkF
  by_cases h : 12 ≤ x
  · rw [if_pos (by omega), if_neg (by omega), if_neg (by omega), if_neg (by omega), Nat.zero_add]
  · rw [if_neg (by omega)]
    unfold put4
    by_cases h4 : x < 4
    · rw [if_neg (by omega), if_neg (by omega), if_neg (by omega), if_neg (by omega), if_neg (by omega), if_neg (by omega), if_neg (by omega), if_neg (by omega), if_pos h4, hf x h4]
    · rw [if_neg h4]
      by_cases h8 : x < 8
      · rw [if_pos h8, tkB_z z hz _ (by omega), if_neg (by omega), if_neg (by omega), if_neg (by omega), if_neg (by omega)]
        obtain rfl | rfl | rfl | rfl : x = 4 ∨ x = 5 ∨ x = 6 ∨ x = 7 := by omega
        all_goals simp
      · rw [if_neg h8, if_pos (show x < 12 by omega), byt_q]
        obtain rfl | rfl | rfl | rfl : x = 8 ∨ x = 9 ∨ x = 10 ∨ x = 11 := by omega
        all_goals simp
theorem tok_mark (j : Nat) (hj : j < 4) : (if 0 ≤ j ∧ j < 0 + min 4 28 then BitVec.ofNat 8 (([84, 79, 75, 78] : List UInt8).getD (j - 0) 0).toNat else 0) = at8 [84, 79, 75, 78] j := by
  obtain rfl | rfl | rfl | rfl : j = 0 ∨ j = 1 ∨ j = 2 ∨ j = 3 := by omega
  all_goals rfl
/-! ### Bodies read -/
def tkM (b : Nat → BitVec 8) : Prop := lw 4 b = [84, 79, 75, 78]
instance (b : Nat → BitVec 8) : Decidable (tkM b) := inferInstanceAs (Decidable (lw 4 b = [84, 79, 75, 78]))
def tkK (b : Nat → BitVec 8) : Nat := (w4 (b 4) (b 5) (b 6) (b 7)).toNat
def tkN (b : Nat → BitVec 8) : BitVec 32 := w4 (b 8) (b 9) (b 10) (b 11)
def tkC (b : Nat → BitVec 8) (j : Nat) : BitVec 8 := b (12 + j)
/-- What bytes are read as. -/
def tokR (l : Nat) (b : Nat → BitVec 8) (K : AV → Prop) : Prop :=
  (¬ (l = 28 ∧ tkM b) ∧ K (tupOf [tkA (.nat 0) 0 (fun _ => 0), .nat 2])) ∨
  ((l = 28 ∧ tkM b) ∧ ¬ (1 ≤ tkK b ∧ tkK b ≤ 3) ∧ K (tupOf [tkA (.nat 0) 0 (fun _ => 0), .nat 1])) ∨
  ((l = 28 ∧ tkM b) ∧ (1 ≤ tkK b ∧ tkK b ≤ 3) ∧ K (tupOf [tkA (.nat (tkK b)) (tkN b) (tkC b), .nat 0]))
def C_tok_Parse : SpecP := fun A K => ∃ l b, A [bsl l b] ∧ tokR l b K
theorem tkS (b : Nat → BitVec 8) : strOf 4 (bys b) = [84, 79, 75, 78] ↔ tkM b := strOf_inj (n := 4) (m := 4) (g := at8 [84, 79, 75, 78])
theorem tkS0 (b : Nat → BitVec 8) : (strOf 4 fun i => bys b (0 + i)) = [84, 79, 75, 78] ↔ tkM b := by
  rw [show (fun i => bys b (0 + i)) = bys b from funext fun i => congrArg (fun j => AV.u8 (b j)) (Nat.zero_add i)]
  exact tkS b
def C_r9_Parse : SpecP := fun A K => ∃ l b, A [bsl l b] ∧ tokR l b K
def alw (z k : Int) : Bool := decide (((k = 1 ∨ k = 3) ∧ 1 ≤ z ∧ z ≤ 3) ∨ (k = 2 ∧ 1 ≤ z ∧ z ≤ 2))
def C_tok_Allows : SpecP := fun A K => ∃ z k, A [.int z, .int k] ∧ K (.bo (alw z k))
theorem jn_at (v : BitVec 64) (n : BitVec 32) (c f : Nat → BitVec 8) (hf : ∀ j, j < 4 → f j = at8 [84, 79, 75, 78] j) (x : Nat) (hx : x < 28) :
    at8 (lw 4 f ++ lw 4 (at8 (be v 4)) ++ lw 4 (at8 (be (n.setWidth 64) 4)) ++ lw 16 (fun i => c (0 + i))) x = tkF v n c x := by
  rw [at8_app, at8_app, at8_app]
  simp only [List.length_append, lw_len]
  unfold tkF
  by_cases h4 : x < 4
  · rw [if_pos (by omega), if_pos (by omega), if_pos h4, if_pos h4, at8_lw _ _ _ h4, hf x h4]
  · rw [if_neg h4, if_neg h4]
    by_cases h8 : x < 8
    · rw [if_pos (by omega), if_pos (by omega), if_pos h8, at8_lw _ _ _ (by omega), at8_be _ _ _ (by omega)]
      congr 1; omega
    · rw [if_neg h8]
      by_cases h12 : x < 12
      · rw [if_pos (by omega), if_neg (by omega), if_pos h12, at8_lw _ _ _ (by omega), at8_be _ _ _ (by omega)]
        congr 1; omega
      · rw [if_neg (show ¬ x < 4 + 4 + 4 by omega), at8_lw _ _ _ (by omega)]
        simp only [h8, h12, if_false]
        exact congrArg c (by omega)
theorem lit_mark (j : Nat) (hj : j < 4) : asU8 (litA (.int .u8) [(0, .u8 (BitVec.ofInt 8 84)), (1, .u8 (BitVec.ofInt 8 79)), (2, .u8 (BitVec.ofInt 8 75)), (3, .u8 (BitVec.ofInt 8 78))] j) = at8 [84, 79, 75, 78] j := by
  obtain rfl | rfl | rfl | rfl : j = 0 ∨ j = 1 ∨ j = 2 ∨ j = 3 := by omega
  all_goals rfl
theorem aw_M : tkM (tkF (BitVec.ofInt 64 2) (BitVec.ofInt 32 7) fun _ => 0) := by decide
theorem aw_K : tkK (tkF (BitVec.ofInt 64 2) (BitVec.ofInt 32 7) fun _ => 0) = 2 := by decide
theorem aw_N : tkN (tkF (BitVec.ofInt 64 2) (BitVec.ofInt 32 7) fun _ => 0) = BitVec.ofInt 32 7 := by decide
theorem aw_22 : alw 2 2 = true := by decide
theorem aw_32 : alw 3 2 = false := by decide
section
attribute [local irreducible] at8 be tkF tkK tkN tkM tkC alw lw
def C_r9_Body : SpecP := fun A K => ∃ z n c, A [tkA (.int z) n c] ∧ K (bsf 28 (tkF (BitVec.ofInt 64 z) n c))
def C_l9_awake : SpecP := fun A K => A [] ∧ K (.bo true)
def C_l9_TokenLives : SpecP := fun A K => ∃ z k, A [.int z, .int k] ∧ K (.bo true)
end
def okn (z k n : Int) : Prop := (k = 2 → n = 3) ∧ (k = 3 → n = 4) ∧ (k ≠ 2 → k ≠ 3 → n = z)
def L_l9_Lives_c (z k : Int) : LI := .plain Int (okn z k) (fun n => [(0, .int z), (1, .int k), (5, .int n)]) (fun _ => 0)
def L_l9_Lives (z k : Int) : LI := .plain (Int × Nat) (fun p => okn z k p.1 ∧ 1 ≤ p.2 ∧ p.2 ≤ 4) (fun p => [(0, .int z), (1, .int k), (5, .int p.1), (6, .nat p.2)]) (fun p => 4 - p.2)
theorem alw_ok {z k : Int} (h : alw z k = true) : ((k = 1 ∨ k = 3) ∧ 1 ≤ z ∧ z ≤ 3) ∨ (k = 2 ∧ 1 ≤ z ∧ z ≤ 2) := of_decide_eq_true h
theorem alw_no {z k : Int} (h : ¬ (((k = 1 ∨ k = 3) ∧ 1 ≤ z ∧ z ≤ 3) ∨ (k = 2 ∧ 1 ≤ z ∧ z ≤ 2))) : alw z k = false := decide_eq_false h
theorem alw_yes {z k : Int} (h : ((k = 1 ∨ k = 3) ∧ 1 ≤ z ∧ z ≤ 3) ∨ (k = 2 ∧ 1 ≤ z ∧ z ≤ 2)) : alw z k = true := decide_eq_true h
theorem alw_on {z k n : Int} {i : Nat} (hn : okn z k n) (h : alw z k = true) (g : alw n i = true) : alw z i = true := by
  have h := alw_ok h
  have g := alw_ok g
  obtain ⟨h1, h2, h3⟩ := hn
  refine alw_yes ?_
  by_cases e2 : k = 2
  · have := h1 e2; omega
  · by_cases e3 : k = 3
    · have := h2 e3; omega
    · have := h3 e2 e3; subst this; exact g
section
attribute [local irreducible] alw
end
end Go.Proofs.YtnfebaialdfffaaDoor
