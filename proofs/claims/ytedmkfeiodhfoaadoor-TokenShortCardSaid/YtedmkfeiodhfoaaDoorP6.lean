/- The reference's compression. -/
import Derived.Test.YtedmkfeiodhfoaaDoorP5
namespace Go.Proofs.YtedmkfeiodhfoaaDoor
open Go.RowKit
set_option maxRecDepth 100000
set_option maxHeartbeats 20000000
def C_r1_turn : SpecP := fun A K => ∃ x n, A [.u32 x, .nat n] ∧ 0 < n ∧ n < 32 ∧ K (.u32 (rotr x n))
def C_r1_roots : SpecP := fun A K => A [] ∧ K (arr32 64 (at32 KK))
/-! ### The words -/
def gF (bl : Msg) (k j : Nat) : BitVec 32 := at32 (padZ (G bl k)) j
theorem gF_zero (bl : Msg) (j : Nat) : 0 = gF bl 0 j := by
  unfold gF; rw [at32_padZ, G]; simp [L1, extN, at32]
theorem at32_snoc (l : List (BitVec 32)) (v : BitVec 32) (j k : Nat) (hk : l.length = k) : (if j = k then v else at32 l j) = at32 (l ++ [v]) j := by
  subst hk
  simp only [at32, List.getD_eq_getElem?_getD, List.getElem?_append]
  by_cases h : j = l.length
  · subst h; simp
  · rw [if_neg h]
    by_cases h2 : j < l.length
    · rw [if_pos h2]
    · rw [if_neg h2, List.getElem?_eq_none (by omega), List.getElem?_eq_none (by simp; omega)]
theorem valN4 (b : Nat → BitVec 8) : (valN b 4).setWidth 32 = w4 (b 0) (b 1) (b 2) (b 3) := by
  rw [← w4_val]; rfl
theorem gF_lo (b : Nat → BitVec 8) (k j : Nat) (hk : k < 16) : (if j = k then (valN (fun i => b (4 * k + i)) 4).setWidth 32 else gF (lw 64 b) k j) = gF (lw 64 b) (k + 1) j := by
  unfold gF
  rw [at32_padZ, at32_padZ, G_lo _ _ hk, valN4, at32_snoc _ _ _ _ (G_len _ _), ]
  unfold wat
  rw [at8_lw _ _ _ (by omega), at8_lw _ _ _ (by omega), at8_lw _ _ _ (by omega), at8_lw _ _ _ (by omega)]
  rfl
theorem gF_hi (bl : Msg) (k j : Nat) (hk : 16 ≤ k) (a b c d : Nat) (ha : a = k - 16) (hb : b = k - 15) (hc : c = k - 7) (hd : d = k - 2) :
    (if j = k then gF bl k a + (rotr (gF bl k b) 7 ^^^ rotr (gF bl k b) 18 ^^^ gF bl k b >>> 3) + gF bl k c + (rotr (gF bl k d) 17 ^^^ rotr (gF bl k d) 19 ^^^ gF bl k d >>> 10) else gF bl k j) = gF bl (k + 1) j := by
  subst ha hb hc hd
  unfold gF
  simp only [at32_padZ]
  rw [G_hi _ _ hk, ← at32_snoc _ _ _ _ (G_len _ _)]
  congr 1
  have := nxt_ref (G bl k) k (G_len _ _)
  rw [← this]; rfl
theorem gF_all (bl : Msg) (j : Nat) : gF bl 64 j = at32 (sched bl) j := by unfold gF; rw [at32_padZ, G_all]
attribute [irreducible] gF
abbrev T31 : Ty := ty 95
def aF (f g : Nat → BitVec 32) (k j : Nat) : BitVec 32 := if j < k then g j + f j else g j
theorem aF_zero (f g : Nat → BitVec 32) (j : Nat) : g j = aF f g 0 j := by unfold aF; rw [if_neg (by omega)]
theorem aF_step (f g : Nat → BitVec 32) (k j : Nat) : (if j = k then aF f g k k + f k else aF f g k j) = aF f g (k + 1) j := by
  unfold aF
  by_cases h : j = k
  · subst h; rw [if_pos rfl, if_neg (by omega), if_pos (by omega)]
  · rw [if_neg h]
    by_cases h2 : j < k
    · rw [if_pos h2, if_pos (by omega)]
    · rw [if_neg h2, if_neg (by omega)]
theorem aF_all (f g : Nat → BitVec 32) (j : Nat) (hj : j < 8) : aF f g 8 j = g j + f j := by unfold aF; rw [if_pos hj]
attribute [irreducible] aF
def C_r1_Press : SpecP := fun A K => ∃ f l b, A [arr32 8 f, bsl l b] ∧ 64 ≤ l ∧ l ≤ 1000000000 ∧ K (arr32 8 (at32 (press (lw 8 f) (lw 64 b))))
def L_r1_Press_a (f : Nat → BitVec 32) (l : Nat) (b : Nat → BitVec 8) : LI := ⟨Nat, (· ≤ 64), fun k => [(1, bsl l b), (2, .ptr T31 8 []), (4, .ptr T31 16 []), (5, .gsl 24 1032 64), (23, .nat 64), (24, .nat k)],
  fun k => [(8, .var T31 (arr32 8 f)), (16, .var T31 T31.zero), (1032, .grow 24 64 (wds (gF (lw 64 b) k)))], fun k => 64 - k, some, some⟩
def sw (f : Nat → BitVec 32) (b : Nat → BitVec 8) (k : Nat) : Sta := runR (lw 8 f) (sched (lw 64 b)) k
theorem notE (y : BitVec 32) : BitVec.ofInt 32 4294967295 - y = ~~~y := by
  rw [show BitVec.ofInt 32 4294967295 = 4294967295#32 by decide]; exact not_sub y
theorem sw_succ (f : Nat → BitVec 32) (b : Nat → BitVec 8) (k : Nat) : sw f b (k + 1) = stp (sw f b k) (at32 KK k) (gF (lw 64 b) 64 k) := by
  unfold sw; rw [gF_all]; rfl
theorem sw_zero (f : Nat → BitVec 32) (b : Nat → BitVec 8) : sw f b 0 = ⟨f 0, f 1, f 2, f 3, f 4, f 5, f 6, f 7⟩ := rfl
attribute [irreducible] sw
def L_r1_Press_b (f : Nat → BitVec 32) (l : Nat) (b : Nat → BitVec 8) : LI := ⟨Nat, (· ≤ 64), fun k => [(2, .ptr T31 8 []), (4, .ptr T31 16 []), (5, .gsl 24 1032 64), (7, .u32 (sw f b k).a), (8, .u32 (sw f b k).b), (9, .u32 (sw f b k).c), (10, .u32 (sw f b k).d),
    (11, .u32 (sw f b k).e), (12, .u32 (sw f b k).f), (13, .u32 (sw f b k).g), (14, .u32 (sw f b k).h), (15, .ptr (ty 108) 3089 []), (116, .nat 64), (117, .nat k)],
  fun k => [(8, .var T31 (arr32 8 f)), (16, .var T31 T31.zero), (1032, .grow 24 64 (wds (gF (lw 64 b) 64))), (3089, .var (ty 108) (arr32 64 (at32 KK)))], fun k => 64 - k, some, some⟩
def L_r1_Press_c (f : Nat → BitVec 32) (b : Nat → BitVec 8) : LI := ⟨Nat, (· ≤ 8), fun k => [(2, .ptr T31 8 []), (4, .ptr T31 16 []), (19, .ptr T31 4186 []), (190, .nat k)],
  fun k => [(8, .var T31 (arr32 8 f)), (16, .var T31 T31.zero), (4186, .var T31 (arr32 8 (aF f (at32 (st8 (sw f b 64))) k)))], fun k => 8 - k, some, some⟩
theorem fin8_at (h : List (BitVec 32)) (s : Sta) (j : Nat) (hj : j < 8) : at32 (fin8 h s) j = at32 h j + at32 (st8 s) j := by
  rcases j with _ | _ | _ | _ | _ | _ | _ | _ | j
  all_goals first | rfl | omega
theorem press_at (f : Nat → BitVec 32) (b : Nat → BitVec 8) (j : Nat) (hj : j < 8) : aF f (at32 (st8 (sw f b 64))) 8 j = at32 (press (lw 8 f) (lw 64 b)) j := by
  rw [aF_all _ _ _ hj]
  unfold press rnds
  rw [fin8_at _ _ _ hj, at32_lw _ _ _ hj, BitVec.add_comm]; unfold sw; rfl
end Go.Proofs.YtedmkfeiodhfoaaDoor
