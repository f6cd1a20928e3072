/- The reference's compression. -/
import Derived.Test.YtldlleoabbcpdaaDoorP5
namespace Go.Proofs.YtldlleoabbcpdaaDoor
open Go.RowKit
set_option maxRecDepth 100000
set_option maxHeartbeats 20000000
def C_r1_turn : SpecP := fun A K => ∃ x n, A [.u32 x, .nat n] ∧ 0 < n ∧ n < 32 ∧ K (.u32 (rotr x n))
theorem g_r1_turn : Gd 61 (pureP ty C_r1_turn) := by
  refine goodP (E := PG []) (pgOK trivial) mixes Tryd.func61 (by kernel_rfl) (by kernel_rfl) ?_
  rintro A K ⟨x, n, hA, h0, h1, hK⟩
  refine ⟨_, _, fun _ => none, hA, hK, by kernel_rfl, trivial, ?_⟩
  repeat ((conv => whnf); first | refine sdO ?_ | refine nlO ?_ | refine goA ?_ | refine goB ?_ | (apply Exists.intro; (repeat apply Exists.intro); refine caO ?_) | (refine Or.inl ?_; (conv => whnf); (repeat apply Exists.intro); refine caO ?_) | (refine Or.inr ?_; (conv => whnf); first | ((repeat apply Exists.intro); refine caO ?_) | (refine Or.inl ?_; (conv => whnf); (repeat apply Exists.intro); refine caO ?_) | (refine Or.inr ?_; (conv => whnf); (repeat apply Exists.intro); refine caO ?_)))
  all_goals try (conv => whnf)
  show x >>> n + x <<< (((32 : Nat) : Int) - (n : Int)).toNat = _
  rw [show (((32 : Nat) : Int) - (n : Int)).toNat = 32 - n by omega]
  exact rot_add x n h0 h1
def C_r1_roots : SpecP := fun A K => A [] ∧ K (arr32 64 (at32 KK))
theorem g_r1_roots : Gd 62 (pureP ty C_r1_roots) := by
  refine goodP (E := PG []) (pgOK trivial) mixes Tryd.func62 (by kernel_rfl) (by kernel_rfl) ?_
  rintro A K ⟨hA, hK⟩
  refine ⟨_, _, fun _ => none, hA, hK, by kernel_rfl, fun _ _ => trivial, ?_⟩
  repeat ((conv => whnf); first | refine sdO ?_ | refine nlO ?_ | refine goA ?_ | refine goB ?_ | (apply Exists.intro; (repeat apply Exists.intro); refine caO ?_) | (refine Or.inl ?_; (conv => whnf); (repeat apply Exists.intro); refine caO ?_) | (refine Or.inr ?_; (conv => whnf); first | ((repeat apply Exists.intro); refine caO ?_) | (refine Or.inl ?_; (conv => whnf); (repeat apply Exists.intro); refine caO ?_) | (refine Or.inr ?_; (conv => whnf); (repeat apply Exists.intro); refine caO ?_)))
  all_goals try (conv => whnf)
  ((repeat' ((conv => whnf) <;> first | exact trivial | (with_reducible first | refine And.intro ?_ ?_ | refine rows_lt1 ?_ | refine rows_lt2 ?_ ?_ | refine rows_lt3 ?_ ?_ ?_ | refine rows_lt4 ?_ ?_ ?_ ?_ | refine rows_lt5 ?_ ?_ ?_ ?_ ?_ | refine ints_lt1 ?_ | refine ints_lt2 ?_ ?_ | refine ints_lt3 ?_ ?_ ?_ | refine rows_lt7 ?_ ?_ ?_ ?_ ?_ ?_ ?_ | refine aggs_lt1 ?_ | refine aggs_lt2 ?_ ?_ | refine aggs_lt3 ?_ ?_ ?_ | refine fun (_ : Nat) => ?_) | refine fun (_ : (_ : Nat) < _) => ?_ | exact rfl | exact Nat.le_of_ble_eq_true rfl | (change (_ : Nat) ≤ _; omega) | (change (_ : Nat) = _; omega) | (change (_ : Int) = _; omega))); (all_goals try (conv => whnf)))
  rename_i j hj
  revert j
  decide +kernel
/-! ### The words -/
def gF (bl : Msg) (k j : Nat) : BitVec 32 := at32 (padZ (G bl k)) j
theorem gF_zero (bl : Msg) (j : Nat) : 0 = gF bl 0 j := by
  unfold gF; rw [at32_padZ, G]; simp [L1, extN, at32]
theorem at32_snoc (l : List (BitVec 32)) (v : BitVec 32) (j k : Nat) (hk : l.length = k) : (if j = k then v else at32 l j) = at32 (l ++ [v]) j := by
  subst hk
  simp only [at32, List.getD_eq_getElem?_getD, List.getElem?_append]
  by_cases h : j = l.length
  · subst h; simp
  · rw [if_neg h]
    by_cases h2 : j < l.length
    · rw [if_pos h2]
    · rw [if_neg h2, List.getElem?_eq_none (by omega), List.getElem?_eq_none (by simp; omega)]
theorem valN4 (b : Nat → BitVec 8) : (valN b 4).setWidth 32 = w4 (b 0) (b 1) (b 2) (b 3) := by
  rw [← w4_val]; rfl
theorem gF_lo (b : Nat → BitVec 8) (k j : Nat) (hk : k < 16) : (if j = k then (valN (fun i => b (4 * k + i)) 4).setWidth 32 else gF (lw 64 b) k j) = gF (lw 64 b) (k + 1) j := by
  unfold gF
  rw [at32_padZ, at32_padZ, G_lo _ _ hk, valN4, at32_snoc _ _ _ _ (G_len _ _), ]
  unfold wat
  rw [at8_lw _ _ _ (by omega), at8_lw _ _ _ (by omega), at8_lw _ _ _ (by omega), at8_lw _ _ _ (by omega)]
  rfl
theorem gF_hi (bl : Msg) (k j : Nat) (hk : 16 ≤ k) (a b c d : Nat) (ha : a = k - 16) (hb : b = k - 15) (hc : c = k - 7) (hd : d = k - 2) :
    (if j = k then gF bl k a + (rotr (gF bl k b) 7 ^^^ rotr (gF bl k b) 18 ^^^ gF bl k b >>> 3) + gF bl k c + (rotr (gF bl k d) 17 ^^^ rotr (gF bl k d) 19 ^^^ gF bl k d >>> 10) else gF bl k j) = gF bl (k + 1) j := by
  subst ha hb hc hd
  unfold gF
  simp only [at32_padZ]
  rw [G_hi _ _ hk, ← at32_snoc _ _ _ _ (G_len _ _)]
  congr 1
  have := nxt_ref (G bl k) k (G_len _ _)
  rw [← this]; rfl
theorem gF_all (bl : Msg) (j : Nat) : gF bl 64 j = at32 (sched bl) j := by unfold gF; rw [at32_padZ, G_all]
attribute [irreducible] gF
abbrev T31 : Ty := ty 89
def aF (f g : Nat → BitVec 32) (k j : Nat) : BitVec 32 := if j < k then g j + f j else g j
theorem aF_zero (f g : Nat → BitVec 32) (j : Nat) : g j = aF f g 0 j := by unfold aF; rw [if_neg (by omega)]
theorem aF_step (f g : Nat → BitVec 32) (k j : Nat) : (if j = k then aF f g k k + f k else aF f g k j) = aF f g (k + 1) j := by
  unfold aF
  by_cases h : j = k
  · subst h; rw [if_pos rfl, if_neg (by omega), if_pos (by omega)]
  · rw [if_neg h]
    by_cases h2 : j < k
    · rw [if_pos h2, if_pos (by omega)]
    · rw [if_neg h2, if_neg (by omega)]
theorem aF_all (f g : Nat → BitVec 32) (j : Nat) (hj : j < 8) : aF f g 8 j = g j + f j := by unfold aF; rw [if_pos hj]
attribute [irreducible] aF
def C_r1_Press : SpecP := fun A K => ∃ f l b, A [arr32 8 f, bsl l b] ∧ 64 ≤ l ∧ l ≤ 1000000000 ∧ K (arr32 8 (at32 (press (lw 8 f) (lw 64 b))))
def L_r1_Press_a (f : Nat → BitVec 32) (l : Nat) (b : Nat → BitVec 8) : LI := ⟨Nat, (· ≤ 64), fun k => [(1, bsl l b), (2, .ptr T31 8 []), (4, .ptr T31 16 []), (5, .gsl 22 1032 64), (23, .nat 64), (24, .nat k)],
  fun k => [(8, .var T31 (arr32 8 f)), (16, .var T31 T31.zero), (1032, .grow 22 64 (wds (gF (lw 64 b) k)))], fun k => 64 - k, some, some⟩
def sw (f : Nat → BitVec 32) (b : Nat → BitVec 8) (k : Nat) : Sta := runR (lw 8 f) (sched (lw 64 b)) k
theorem notE (y : BitVec 32) : BitVec.ofInt 32 4294967295 - y = ~~~y := by
  rw [show BitVec.ofInt 32 4294967295 = 4294967295#32 by decide]; exact not_sub y
theorem sw_succ (f : Nat → BitVec 32) (b : Nat → BitVec 8) (k : Nat) : sw f b (k + 1) = stp (sw f b k) (at32 KK k) (gF (lw 64 b) 64 k) := by
  unfold sw; rw [gF_all]; rfl
theorem sw_zero (f : Nat → BitVec 32) (b : Nat → BitVec 8) : sw f b 0 = ⟨f 0, f 1, f 2, f 3, f 4, f 5, f 6, f 7⟩ := rfl
attribute [irreducible] sw
def L_r1_Press_b (f : Nat → BitVec 32) (l : Nat) (b : Nat → BitVec 8) : LI := ⟨Nat, (· ≤ 64), fun k => [(2, .ptr T31 8 []), (4, .ptr T31 16 []), (5, .gsl 22 1032 64), (7, .u32 (sw f b k).a), (8, .u32 (sw f b k).b), (9, .u32 (sw f b k).c), (10, .u32 (sw f b k).d),
    (11, .u32 (sw f b k).e), (12, .u32 (sw f b k).f), (13, .u32 (sw f b k).g), (14, .u32 (sw f b k).h), (15, .ptr (ty 111) 3089 []), (116, .nat 64), (117, .nat k)],
  fun k => [(8, .var T31 (arr32 8 f)), (16, .var T31 T31.zero), (1032, .grow 22 64 (wds (gF (lw 64 b) 64))), (3089, .var (ty 111) (arr32 64 (at32 KK)))], fun k => 64 - k, some, some⟩
def L_r1_Press_c (f : Nat → BitVec 32) (b : Nat → BitVec 8) : LI := ⟨Nat, (· ≤ 8), fun k => [(2, .ptr T31 8 []), (4, .ptr T31 16 []), (19, .ptr T31 4186 []), (190, .nat k)],
  fun k => [(8, .var T31 (arr32 8 f)), (16, .var T31 T31.zero), (4186, .var T31 (arr32 8 (aF f (at32 (st8 (sw f b 64))) k)))], fun k => 8 - k, some, some⟩
theorem fin8_at (h : List (BitVec 32)) (s : Sta) (j : Nat) (hj : j < 8) : at32 (fin8 h s) j = at32 h j + at32 (st8 s) j := by
  rcases j with _ | _ | _ | _ | _ | _ | _ | _ | j
  all_goals first | rfl | omega
theorem press_at (f : Nat → BitVec 32) (b : Nat → BitVec 8) (j : Nat) (hj : j < 8) : aF f (at32 (st8 (sw f b 64))) 8 j = at32 (press (lw 8 f) (lw 64 b)) j := by
  rw [aF_all _ _ _ hj]
  unfold press rnds
  rw [fin8_at _ _ _ hj, at32_lw _ _ _ hj, BitVec.add_comm]; unfold sw; rfl
theorem g_r1_Press : Gd 48 (pureP ty C_r1_Press) := by
  refine goodP (E := PG [(33, pureP ty C_r1_Value), (61, pureP ty C_r1_turn), (62, pureP ty C_r1_roots)]) (pgOK ⟨g_r1_Value, g_r1_turn, g_r1_roots, trivial⟩) mixes Tryd.func48 (by kernel_rfl) (by kernel_rfl) ?_
  rintro A K ⟨f, l, b, hA, hl, hl2, hK⟩
  refine ⟨_, _, loops [(3, L_r1_Press_a f l b), (12, L_r1_Press_b f l b), (20, L_r1_Press_c f b)], hA, hK, by kernel_rfl, fun _ _ => trivial, ?_⟩
  repeat ((conv => whnf); first | refine sdO ?_ | refine nlO ?_ | refine goA ?_ | refine goB ?_ | (apply Exists.intro; (repeat apply Exists.intro); refine caO ?_) | (refine Or.inl ?_; (conv => whnf); (repeat apply Exists.intro); refine caO ?_) | (refine Or.inr ?_; (conv => whnf); first | ((repeat apply Exists.intro); refine caO ?_) | (refine Or.inl ?_; (conv => whnf); (repeat apply Exists.intro); refine caO ?_) | (refine Or.inr ?_; (conv => whnf); (repeat apply Exists.intro); refine caO ?_)))
  all_goals try (conv => whnf)
  refine Exists.intro (fun _ => True) (And.intro (Enter.mk (0 : Nat) (Nat.zero_le 64) trivial ?_) (fun (k : Nat) (hk : k ≤ 64) _ => ?_))
  · ((repeat' ((conv => whnf) <;> first | exact trivial | (with_reducible first | refine And.intro ?_ ?_ | refine rows_lt1 ?_ | refine rows_lt2 ?_ ?_ | refine rows_lt3 ?_ ?_ ?_ | refine rows_lt4 ?_ ?_ ?_ ?_ | refine rows_lt5 ?_ ?_ ?_ ?_ ?_ | refine ints_lt1 ?_ | refine ints_lt2 ?_ ?_ | refine ints_lt3 ?_ ?_ ?_ | refine rows_lt7 ?_ ?_ ?_ ?_ ?_ ?_ ?_ | refine aggs_lt1 ?_ | refine aggs_lt2 ?_ ?_ | refine aggs_lt3 ?_ ?_ ?_ | refine fun (_ : Nat) => ?_) | refine fun (_ : (_ : Nat) < _) => ?_ | exact rfl | exact Nat.le_of_ble_eq_true rfl | (change (_ : Nat) ≤ _; omega) | (change (_ : Nat) = _; omega) | (change (_ : Int) = _; omega))); (all_goals try (conv => whnf)))
    exact gF_zero _ _
  repeat ((conv => whnf); first | refine sdO ?_ | refine nlO ?_ | refine goA ?_ | refine goB ?_ | (apply Exists.intro; (repeat apply Exists.intro); refine caO ?_) | (refine Or.inl ?_; (conv => whnf); (repeat apply Exists.intro); refine caO ?_) | (refine Or.inr ?_; (conv => whnf); first | ((repeat apply Exists.intro); refine caO ?_) | (refine Or.inl ?_; (conv => whnf); (repeat apply Exists.intro); refine caO ?_) | (refine Or.inr ?_; (conv => whnf); (repeat apply Exists.intro); refine caO ?_)))
  all_goals try (conv => whnf)
  refine And.intro (fun h => ?_) (fun h => ?_)
  · have h := of_decide_eq_true h
    repeat ((conv => whnf); first | refine sdO ?_ | refine nlO ?_ | refine goA ?_ | refine goB ?_ | (apply Exists.intro; (repeat apply Exists.intro); refine caO ?_) | (refine Or.inl ?_; (conv => whnf); (repeat apply Exists.intro); refine caO ?_) | (refine Or.inr ?_; (conv => whnf); first | ((repeat apply Exists.intro); refine caO ?_) | (refine Or.inl ?_; (conv => whnf); (repeat apply Exists.intro); refine caO ?_) | (refine Or.inr ?_; (conv => whnf); (repeat apply Exists.intro); refine caO ?_)))
    all_goals try (conv => whnf)
    refine And.intro (fun h2 => ?_) (fun h2 => ?_)
    · have h2 := of_decide_eq_true h2
      repeat ((conv => whnf); first | refine sdO ?_ | refine nlO ?_ | refine goA ?_ | refine goB ?_ | (apply Exists.intro; (repeat apply Exists.intro); refine caO ?_) | (refine Or.inl ?_; (conv => whnf); (repeat apply Exists.intro); refine caO ?_) | (refine Or.inr ?_; (conv => whnf); first | ((repeat apply Exists.intro); refine caO ?_) | (refine Or.inl ?_; (conv => whnf); (repeat apply Exists.intro); refine caO ?_) | (refine Or.inr ?_; (conv => whnf); (repeat apply Exists.intro); refine caO ?_)))
      all_goals try (conv => whnf)
      refine Again.mk (k + 1 : Nat) (show k + 1 ≤ 64 by omega) trivial (show 64 - (k + 1) < 64 - k by omega) ?_
      ((repeat' ((conv => whnf) <;> first | exact trivial | (with_reducible first | refine And.intro ?_ ?_ | refine rows_lt1 ?_ | refine rows_lt2 ?_ ?_ | refine rows_lt3 ?_ ?_ ?_ | refine rows_lt4 ?_ ?_ ?_ ?_ | refine rows_lt5 ?_ ?_ ?_ ?_ ?_ | refine ints_lt1 ?_ | refine ints_lt2 ?_ ?_ | refine ints_lt3 ?_ ?_ ?_ | refine rows_lt7 ?_ ?_ ?_ ?_ ?_ ?_ ?_ | refine aggs_lt1 ?_ | refine aggs_lt2 ?_ ?_ | refine aggs_lt3 ?_ ?_ ?_ | refine fun (_ : Nat) => ?_) | refine fun (_ : (_ : Nat) < _) => ?_ | exact rfl | exact Nat.le_of_ble_eq_true rfl | (change (_ : Nat) ≤ _; omega) | (change (_ : Nat) = _; omega) | (change (_ : Int) = _; omega))); (all_goals try (conv => whnf)))
      rw [show Int.toNat 4 * k + Int.toNat 4 - Int.toNat 4 * k = 4 by simp only [Int.reduceToNat]; omega]
      exact gF_lo b k _ h2
    · have h2 := of_decide_eq_false h2
      repeat ((conv => whnf); first | refine sdO ?_ | refine nlO ?_ | refine goA ?_ | refine goB ?_ | (apply Exists.intro; (repeat apply Exists.intro); refine caO ?_) | (refine Or.inl ?_; (conv => whnf); (repeat apply Exists.intro); refine caO ?_) | (refine Or.inr ?_; (conv => whnf); first | ((repeat apply Exists.intro); refine caO ?_) | (refine Or.inl ?_; (conv => whnf); (repeat apply Exists.intro); refine caO ?_) | (refine Or.inr ?_; (conv => whnf); (repeat apply Exists.intro); refine caO ?_)))
      all_goals try (conv => whnf)
      refine Again.mk (k + 1 : Nat) (show k + 1 ≤ 64 by omega) trivial (show 64 - (k + 1) < 64 - k by omega) ?_
      ((repeat' ((conv => whnf) <;> first | exact trivial | (with_reducible first | refine And.intro ?_ ?_ | refine rows_lt1 ?_ | refine rows_lt2 ?_ ?_ | refine rows_lt3 ?_ ?_ ?_ | refine rows_lt4 ?_ ?_ ?_ ?_ | refine rows_lt5 ?_ ?_ ?_ ?_ ?_ | refine ints_lt1 ?_ | refine ints_lt2 ?_ ?_ | refine ints_lt3 ?_ ?_ ?_ | refine rows_lt7 ?_ ?_ ?_ ?_ ?_ ?_ ?_ | refine aggs_lt1 ?_ | refine aggs_lt2 ?_ ?_ | refine aggs_lt3 ?_ ?_ ?_ | refine fun (_ : Nat) => ?_) | refine fun (_ : (_ : Nat) < _) => ?_ | exact rfl | exact Nat.le_of_ble_eq_true rfl | (change (_ : Nat) ≤ _; omega) | (change (_ : Nat) = _; omega) | (change (_ : Int) = _; omega))); (all_goals try (conv => whnf)))
      exact gF_hi _ k _ (by omega) _ _ _ _ (by omega) (by omega) (by omega) (by omega)
  · have h := of_decide_eq_false h
    obtain rfl : k = 64 := by omega
    repeat ((conv => whnf); first | refine sdO ?_ | refine nlO ?_ | refine goA ?_ | refine goB ?_ | (apply Exists.intro; (repeat apply Exists.intro); refine caO ?_) | (refine Or.inl ?_; (conv => whnf); (repeat apply Exists.intro); refine caO ?_) | (refine Or.inr ?_; (conv => whnf); first | ((repeat apply Exists.intro); refine caO ?_) | (refine Or.inl ?_; (conv => whnf); (repeat apply Exists.intro); refine caO ?_) | (refine Or.inr ?_; (conv => whnf); (repeat apply Exists.intro); refine caO ?_)))
    all_goals try (conv => whnf)
    refine Exists.intro (fun _ => True) (And.intro (Enter.mk (0 : Nat) (Nat.zero_le 64) trivial ?_) (fun (k : Nat) (hk : k ≤ 64) _ => ?_))
    · ((repeat' ((conv => whnf) <;> first | exact trivial | (with_reducible first | refine And.intro ?_ ?_ | refine rows_lt1 ?_ | refine rows_lt2 ?_ ?_ | refine rows_lt3 ?_ ?_ ?_ | refine rows_lt4 ?_ ?_ ?_ ?_ | refine rows_lt5 ?_ ?_ ?_ ?_ ?_ | refine ints_lt1 ?_ | refine ints_lt2 ?_ ?_ | refine ints_lt3 ?_ ?_ ?_ | refine rows_lt7 ?_ ?_ ?_ ?_ ?_ ?_ ?_ | refine aggs_lt1 ?_ | refine aggs_lt2 ?_ ?_ | refine aggs_lt3 ?_ ?_ ?_ | refine fun (_ : Nat) => ?_) | refine fun (_ : (_ : Nat) < _) => ?_ | exact rfl | exact Nat.le_of_ble_eq_true rfl | (change (_ : Nat) ≤ _; omega) | (change (_ : Nat) = _; omega) | (change (_ : Int) = _; omega))); (all_goals try (conv => whnf)))
      all_goals (rw [sw_zero]; exact rfl)
    repeat ((conv => whnf); first | refine sdO ?_ | refine nlO ?_ | refine goA ?_ | refine goB ?_ | (apply Exists.intro; (repeat apply Exists.intro); refine caO ?_) | (refine Or.inl ?_; (conv => whnf); (repeat apply Exists.intro); refine caO ?_) | (refine Or.inr ?_; (conv => whnf); first | ((repeat apply Exists.intro); refine caO ?_) | (refine Or.inl ?_; (conv => whnf); (repeat apply Exists.intro); refine caO ?_) | (refine Or.inr ?_; (conv => whnf); (repeat apply Exists.intro); refine caO ?_)))
    all_goals try (conv => whnf)
    refine And.intro (fun h => ?_) (fun h => ?_)
    · have h := of_decide_eq_true h
      repeat ((conv => whnf); first | refine sdO ?_ | refine nlO ?_ | refine goA ?_ | refine goB ?_ | (apply Exists.intro; (repeat apply Exists.intro); refine caO ?_) | (refine Or.inl ?_; (conv => whnf); (repeat apply Exists.intro); refine caO ?_) | (refine Or.inr ?_; (conv => whnf); first | ((repeat apply Exists.intro); refine caO ?_) | (refine Or.inl ?_; (conv => whnf); (repeat apply Exists.intro); refine caO ?_) | (refine Or.inr ?_; (conv => whnf); (repeat apply Exists.intro); refine caO ?_)))
      all_goals try (conv => whnf)
      refine Again.mk (k + 1 : Nat) (show k + 1 ≤ 64 by omega) trivial (show 64 - (k + 1) < 64 - k by omega) ?_
      ((repeat' ((conv => whnf) <;> first | exact trivial | (with_reducible first | refine And.intro ?_ ?_ | refine rows_lt1 ?_ | refine rows_lt2 ?_ ?_ | refine rows_lt3 ?_ ?_ ?_ | refine rows_lt4 ?_ ?_ ?_ ?_ | refine rows_lt5 ?_ ?_ ?_ ?_ ?_ | refine ints_lt1 ?_ | refine ints_lt2 ?_ ?_ | refine ints_lt3 ?_ ?_ ?_ | refine rows_lt7 ?_ ?_ ?_ ?_ ?_ ?_ ?_ | refine aggs_lt1 ?_ | refine aggs_lt2 ?_ ?_ | refine aggs_lt3 ?_ ?_ ?_ | refine fun (_ : Nat) => ?_) | refine fun (_ : (_ : Nat) < _) => ?_ | exact rfl | exact Nat.le_of_ble_eq_true rfl | (change (_ : Nat) ≤ _; omega) | (change (_ : Nat) = _; omega) | (change (_ : Int) = _; omega))); (all_goals try (conv => whnf)))
      all_goals rw [sw_succ]
      all_goals try rw [notE]
      all_goals exact rfl
    · have h := of_decide_eq_false h
      obtain rfl : k = 64 := by omega
      repeat ((conv => whnf); first | refine sdO ?_ | refine nlO ?_ | refine goA ?_ | refine goB ?_ | (apply Exists.intro; (repeat apply Exists.intro); refine caO ?_) | (refine Or.inl ?_; (conv => whnf); (repeat apply Exists.intro); refine caO ?_) | (refine Or.inr ?_; (conv => whnf); first | ((repeat apply Exists.intro); refine caO ?_) | (refine Or.inl ?_; (conv => whnf); (repeat apply Exists.intro); refine caO ?_) | (refine Or.inr ?_; (conv => whnf); (repeat apply Exists.intro); refine caO ?_)))
      all_goals try (conv => whnf)
      refine Exists.intro (fun _ => True) (And.intro (Enter.mk (0 : Nat) (Nat.zero_le 8) trivial ?_) (fun (k : Nat) (hk : k ≤ 8) _ => ?_))
      · ((repeat' ((conv => whnf) <;> first | exact trivial | (with_reducible first | refine And.intro ?_ ?_ | refine rows_lt1 ?_ | refine rows_lt2 ?_ ?_ | refine rows_lt3 ?_ ?_ ?_ | refine rows_lt4 ?_ ?_ ?_ ?_ | refine rows_lt5 ?_ ?_ ?_ ?_ ?_ | refine ints_lt1 ?_ | refine ints_lt2 ?_ ?_ | refine ints_lt3 ?_ ?_ ?_ | refine rows_lt7 ?_ ?_ ?_ ?_ ?_ ?_ ?_ | refine aggs_lt1 ?_ | refine aggs_lt2 ?_ ?_ | refine aggs_lt3 ?_ ?_ ?_ | refine fun (_ : Nat) => ?_) | refine fun (_ : (_ : Nat) < _) => ?_ | exact rfl | exact Nat.le_of_ble_eq_true rfl | (change (_ : Nat) ≤ _; omega) | (change (_ : Nat) = _; omega) | (change (_ : Int) = _; omega))); (all_goals try (conv => whnf)))
        rename_i j hj
        rw [← aF_zero]
        rcases j with _ | _ | _ | _ | _ | _ | _ | _ | j
        all_goals first | exact rfl | omega
      repeat ((conv => whnf); first | refine sdO ?_ | refine nlO ?_ | refine goA ?_ | refine goB ?_ | (apply Exists.intro; (repeat apply Exists.intro); refine caO ?_) | (refine Or.inl ?_; (conv => whnf); (repeat apply Exists.intro); refine caO ?_) | (refine Or.inr ?_; (conv => whnf); first | ((repeat apply Exists.intro); refine caO ?_) | (refine Or.inl ?_; (conv => whnf); (repeat apply Exists.intro); refine caO ?_) | (refine Or.inr ?_; (conv => whnf); (repeat apply Exists.intro); refine caO ?_)))
      all_goals try (conv => whnf)
      refine And.intro (fun h => ?_) (fun h => ?_)
      · have h := of_decide_eq_true h
        repeat ((conv => whnf); first | refine sdO ?_ | refine nlO ?_ | refine goA ?_ | refine goB ?_ | (apply Exists.intro; (repeat apply Exists.intro); refine caO ?_) | (refine Or.inl ?_; (conv => whnf); (repeat apply Exists.intro); refine caO ?_) | (refine Or.inr ?_; (conv => whnf); first | ((repeat apply Exists.intro); refine caO ?_) | (refine Or.inl ?_; (conv => whnf); (repeat apply Exists.intro); refine caO ?_) | (refine Or.inr ?_; (conv => whnf); (repeat apply Exists.intro); refine caO ?_)))
        all_goals try (conv => whnf)
        refine Again.mk (k + 1 : Nat) (show k + 1 ≤ 8 by omega) trivial (show 8 - (k + 1) < 8 - k by omega) ?_
        ((repeat' ((conv => whnf) <;> first | exact trivial | (with_reducible first | refine And.intro ?_ ?_ | refine rows_lt1 ?_ | refine rows_lt2 ?_ ?_ | refine rows_lt3 ?_ ?_ ?_ | refine rows_lt4 ?_ ?_ ?_ ?_ | refine rows_lt5 ?_ ?_ ?_ ?_ ?_ | refine ints_lt1 ?_ | refine ints_lt2 ?_ ?_ | refine ints_lt3 ?_ ?_ ?_ | refine rows_lt7 ?_ ?_ ?_ ?_ ?_ ?_ ?_ | refine aggs_lt1 ?_ | refine aggs_lt2 ?_ ?_ | refine aggs_lt3 ?_ ?_ ?_ | refine fun (_ : Nat) => ?_) | refine fun (_ : (_ : Nat) < _) => ?_ | exact rfl | exact Nat.le_of_ble_eq_true rfl | (change (_ : Nat) ≤ _; omega) | (change (_ : Nat) = _; omega) | (change (_ : Int) = _; omega))); (all_goals try (conv => whnf)))
        exact aF_step f _ k _
      · have h := of_decide_eq_false h
        obtain rfl : k = 8 := by simp only [Int.reduceToNat] at h; omega
        repeat ((conv => whnf); first | refine sdO ?_ | refine nlO ?_ | refine goA ?_ | refine goB ?_ | (apply Exists.intro; (repeat apply Exists.intro); refine caO ?_) | (refine Or.inl ?_; (conv => whnf); (repeat apply Exists.intro); refine caO ?_) | (refine Or.inr ?_; (conv => whnf); first | ((repeat apply Exists.intro); refine caO ?_) | (refine Or.inl ?_; (conv => whnf); (repeat apply Exists.intro); refine caO ?_) | (refine Or.inr ?_; (conv => whnf); (repeat apply Exists.intro); refine caO ?_)))
        all_goals try (conv => whnf)
        ((repeat' ((conv => whnf) <;> first | exact trivial | (with_reducible first | refine And.intro ?_ ?_ | refine rows_lt1 ?_ | refine rows_lt2 ?_ ?_ | refine rows_lt3 ?_ ?_ ?_ | refine rows_lt4 ?_ ?_ ?_ ?_ | refine rows_lt5 ?_ ?_ ?_ ?_ ?_ | refine ints_lt1 ?_ | refine ints_lt2 ?_ ?_ | refine ints_lt3 ?_ ?_ ?_ | refine rows_lt7 ?_ ?_ ?_ ?_ ?_ ?_ ?_ | refine aggs_lt1 ?_ | refine aggs_lt2 ?_ ?_ | refine aggs_lt3 ?_ ?_ ?_ | refine fun (_ : Nat) => ?_) | refine fun (_ : (_ : Nat) < _) => ?_ | exact rfl | exact Nat.le_of_ble_eq_true rfl | (change (_ : Nat) ≤ _; omega) | (change (_ : Nat) = _; omega) | (change (_ : Int) = _; omega))); (all_goals try (conv => whnf)))
        rename_i j hj
        exact press_at f b j hj
end Go.Proofs.YtldlleoabbcpdaaDoor
