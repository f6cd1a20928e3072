/- Turns of words; rounds; the schedule. -/
import Derived.Test.YtldlleoabbcpdaaDoorP1
namespace Go.Proofs.YtldlleoabbcpdaaDoor
open Go.RowKit
set_option maxRecDepth 100000
set_option maxHeartbeats 20000000
theorem neg31 (n : Nat) (h0 : 0 < n) (h : n < 32) : (BitVec.ofInt 64 (-(n : Int)) &&& BitVec.ofInt 64 31).toNat = 32 - n ∧ (BitVec.ofInt 64 32 - (BitVec.ofInt 64 (-(n : Int)) &&& BitVec.ofInt 64 31)).toNat = n := by
  have : ∀ n : Fin 32, 0 < n.val → (BitVec.ofInt 64 (-(n.val : Int)) &&& BitVec.ofInt 64 31).toNat = 32 - n.val ∧ (BitVec.ofInt 64 32 - (BitVec.ofInt 64 (-(n.val : Int)) &&& BitVec.ofInt 64 31)).toNat = n.val := by decide
  exact this ⟨n, h⟩ h0
def C_bits_RotateLeft32 : SpecP := fun A K => ∃ (x : BitVec 32) (n : Nat), A [.u32 x, .int (-(n : Int))] ∧ 0 < n ∧ n < 32 ∧ K (.u32 (rotr x n))
theorem g_bits_RotateLeft32 : Gd 79 (pureP ty C_bits_RotateLeft32) := by
  refine goodP (E := PG []) (pgOK trivial) mixes Tryd.func79 (by kernel_rfl) (by kernel_rfl) ?_
  rintro A K ⟨x, n, hA, h0, h1, hK⟩
  refine ⟨_, _, fun _ => none, hA, hK, by kernel_rfl, trivial, ?_⟩
  obtain ⟨e1, e2⟩ := neg31 n h0 h1
  repeat ((conv => whnf); first | refine sdO ?_ | refine nlO ?_ | refine goA ?_ | refine goB ?_ | (apply Exists.intro; (repeat apply Exists.intro); refine caO ?_) | (refine Or.inl ?_; (conv => whnf); (repeat apply Exists.intro); refine caO ?_) | (refine Or.inr ?_; (conv => whnf); first | ((repeat apply Exists.intro); refine caO ?_) | (refine Or.inl ?_; (conv => whnf); (repeat apply Exists.intro); refine caO ?_) | (refine Or.inr ?_; (conv => whnf); (repeat apply Exists.intro); refine caO ?_)))
  all_goals try (conv => whnf)
  show _ <<< _ ||| _ >>> _ = _
  rw [e1, e2]; rfl
def C_sha_right : SpecP := fun A K => ∃ x n, A [.u32 x, .nat n] ∧ 0 < n ∧ n < 32 ∧ K (.u32 (rotr x n))
theorem g_sha_right : Gd 78 (pureP ty C_sha_right) := by
  refine goodP (E := PG [(79, pureP ty C_bits_RotateLeft32)]) (pgOK ⟨g_bits_RotateLeft32, trivial⟩) mixes Tryd.func78 (by kernel_rfl) (by kernel_rfl) ?_
  rintro A K ⟨x, n, hA, h0, h1, hK⟩
  refine ⟨_, _, fun _ => none, hA, hK, by kernel_rfl, trivial, ?_⟩
  repeat ((conv => whnf); first | refine sdO ?_ | refine nlO ?_ | refine goA ?_ | refine goB ?_ | (apply Exists.intro; (repeat apply Exists.intro); refine caO ?_) | (refine Or.inl ?_; (conv => whnf); (repeat apply Exists.intro); refine caO ?_) | (refine Or.inr ?_; (conv => whnf); first | ((repeat apply Exists.intro); refine caO ?_) | (refine Or.inl ?_; (conv => whnf); (repeat apply Exists.intro); refine caO ?_) | (refine Or.inr ?_; (conv => whnf); (repeat apply Exists.intro); refine caO ?_)))
  all_goals try (conv => whnf)
def C_sha_smallSigma0 : SpecP := fun A K => ∃ x, A [.u32 x] ∧ K (.u32 (sS0 x))
theorem g_sha_smallSigma0 : Gd 77 (pureP ty C_sha_smallSigma0) := by
  refine goodP (E := PG [(78, pureP ty C_sha_right)]) (pgOK ⟨g_sha_right, trivial⟩) mixes Tryd.func77 (by kernel_rfl) (by kernel_rfl) ?_
  rintro A K ⟨x, hA, hK⟩
  refine ⟨_, _, fun _ => none, hA, hK, by kernel_rfl, trivial, ?_⟩
  repeat ((conv => whnf); first | refine sdO ?_ | refine nlO ?_ | refine goA ?_ | refine goB ?_ | (apply Exists.intro; (repeat apply Exists.intro); refine caO ?_) | (refine Or.inl ?_; (conv => whnf); (repeat apply Exists.intro); refine caO ?_) | (refine Or.inr ?_; (conv => whnf); first | ((repeat apply Exists.intro); refine caO ?_) | (refine Or.inl ?_; (conv => whnf); (repeat apply Exists.intro); refine caO ?_) | (refine Or.inr ?_; (conv => whnf); (repeat apply Exists.intro); refine caO ?_)))
  all_goals try (conv => whnf)
  rfl
def C_sha_smallSigma1 : SpecP := fun A K => ∃ x, A [.u32 x] ∧ K (.u32 (sS1 x))
theorem g_sha_smallSigma1 : Gd 76 (pureP ty C_sha_smallSigma1) := by
  refine goodP (E := PG [(78, pureP ty C_sha_right)]) (pgOK ⟨g_sha_right, trivial⟩) mixes Tryd.func76 (by kernel_rfl) (by kernel_rfl) ?_
  rintro A K ⟨x, hA, hK⟩
  refine ⟨_, _, fun _ => none, hA, hK, by kernel_rfl, trivial, ?_⟩
  repeat ((conv => whnf); first | refine sdO ?_ | refine nlO ?_ | refine goA ?_ | refine goB ?_ | (apply Exists.intro; (repeat apply Exists.intro); refine caO ?_) | (refine Or.inl ?_; (conv => whnf); (repeat apply Exists.intro); refine caO ?_) | (refine Or.inr ?_; (conv => whnf); first | ((repeat apply Exists.intro); refine caO ?_) | (refine Or.inl ?_; (conv => whnf); (repeat apply Exists.intro); refine caO ?_) | (refine Or.inr ?_; (conv => whnf); (repeat apply Exists.intro); refine caO ?_)))
  all_goals try (conv => whnf)
  rfl
def C_sha_bigSigma0 : SpecP := fun A K => ∃ x, A [.u32 x] ∧ K (.u32 (bS0 x))
theorem g_sha_bigSigma0 : Gd 73 (pureP ty C_sha_bigSigma0) := by
  refine goodP (E := PG [(78, pureP ty C_sha_right)]) (pgOK ⟨g_sha_right, trivial⟩) mixes Tryd.func73 (by kernel_rfl) (by kernel_rfl) ?_
  rintro A K ⟨x, hA, hK⟩
  refine ⟨_, _, fun _ => none, hA, hK, by kernel_rfl, trivial, ?_⟩
  repeat ((conv => whnf); first | refine sdO ?_ | refine nlO ?_ | refine goA ?_ | refine goB ?_ | (apply Exists.intro; (repeat apply Exists.intro); refine caO ?_) | (refine Or.inl ?_; (conv => whnf); (repeat apply Exists.intro); refine caO ?_) | (refine Or.inr ?_; (conv => whnf); first | ((repeat apply Exists.intro); refine caO ?_) | (refine Or.inl ?_; (conv => whnf); (repeat apply Exists.intro); refine caO ?_) | (refine Or.inr ?_; (conv => whnf); (repeat apply Exists.intro); refine caO ?_)))
  all_goals try (conv => whnf)
  rfl
def C_sha_bigSigma1 : SpecP := fun A K => ∃ x, A [.u32 x] ∧ K (.u32 (bS1 x))
theorem g_sha_bigSigma1 : Gd 71 (pureP ty C_sha_bigSigma1) := by
  refine goodP (E := PG [(78, pureP ty C_sha_right)]) (pgOK ⟨g_sha_right, trivial⟩) mixes Tryd.func71 (by kernel_rfl) (by kernel_rfl) ?_
  rintro A K ⟨x, hA, hK⟩
  refine ⟨_, _, fun _ => none, hA, hK, by kernel_rfl, trivial, ?_⟩
  repeat ((conv => whnf); first | refine sdO ?_ | refine nlO ?_ | refine goA ?_ | refine goB ?_ | (apply Exists.intro; (repeat apply Exists.intro); refine caO ?_) | (refine Or.inl ?_; (conv => whnf); (repeat apply Exists.intro); refine caO ?_) | (refine Or.inr ?_; (conv => whnf); first | ((repeat apply Exists.intro); refine caO ?_) | (refine Or.inl ?_; (conv => whnf); (repeat apply Exists.intro); refine caO ?_) | (refine Or.inr ?_; (conv => whnf); (repeat apply Exists.intro); refine caO ?_)))
  all_goals try (conv => whnf)
  rfl
def C_sha_choose : SpecP := fun A K => ∃ x y z, A [.u32 x, .u32 y, .u32 z] ∧ K (.u32 (cho x y z))
theorem g_sha_choose : Gd 72 (pureP ty C_sha_choose) := by
  refine goodP (E := PG []) (pgOK trivial) mixes Tryd.func72 (by kernel_rfl) (by kernel_rfl) ?_
  rintro A K ⟨x, y, z, hA, hK⟩
  refine ⟨_, _, fun _ => none, hA, hK, by kernel_rfl, trivial, ?_⟩
  repeat ((conv => whnf); first | refine sdO ?_ | refine nlO ?_ | refine goA ?_ | refine goB ?_ | (apply Exists.intro; (repeat apply Exists.intro); refine caO ?_) | (refine Or.inl ?_; (conv => whnf); (repeat apply Exists.intro); refine caO ?_) | (refine Or.inr ?_; (conv => whnf); first | ((repeat apply Exists.intro); refine caO ?_) | (refine Or.inl ?_; (conv => whnf); (repeat apply Exists.intro); refine caO ?_) | (refine Or.inr ?_; (conv => whnf); (repeat apply Exists.intro); refine caO ?_)))
  all_goals try (conv => whnf)
  rfl
def C_sha_majority : SpecP := fun A K => ∃ x y z, A [.u32 x, .u32 y, .u32 z] ∧ K (.u32 (maj x y z))
theorem g_sha_majority : Gd 74 (pureP ty C_sha_majority) := by
  refine goodP (E := PG []) (pgOK trivial) mixes Tryd.func74 (by kernel_rfl) (by kernel_rfl) ?_
  rintro A K ⟨x, y, z, hA, hK⟩
  refine ⟨_, _, fun _ => none, hA, hK, by kernel_rfl, trivial, ?_⟩
  repeat ((conv => whnf); first | refine sdO ?_ | refine nlO ?_ | refine goA ?_ | refine goB ?_ | (apply Exists.intro; (repeat apply Exists.intro); refine caO ?_) | (refine Or.inl ?_; (conv => whnf); (repeat apply Exists.intro); refine caO ?_) | (refine Or.inr ?_; (conv => whnf); first | ((repeat apply Exists.intro); refine caO ?_) | (refine Or.inl ?_; (conv => whnf); (repeat apply Exists.intro); refine caO ?_) | (refine Or.inr ?_; (conv => whnf); (repeat apply Exists.intro); refine caO ?_)))
  all_goals try (conv => whnf)
  rfl
/-! ### Rounds -/
def lw {α : Type} (n : Nat) (f : Nat → α) : List α := (List.range n).map f
theorem lw_len {α : Type} (n : Nat) (f : Nat → α) : (lw n f).length = n := by simp [lw]
theorem at32_lw (n : Nat) (f : Nat → BitVec 32) (i : Nat) (h : i < n) : at32 (lw n f) i = f i := by simp [at32, lw, List.getD, h]
theorem at8_lw (n : Nat) (f : Nat → BitVec 8) (i : Nat) (h : i < n) : at8 (lw n f) i = f i := by simp [at8, lw, List.getD, h]
theorem at8_lw' (n : Nat) (f : Nat → BitVec 8) (i : Nat) (h : i < n) : at8 (List.map f (List.range n)) i = f i := at8_lw n f i h
def runF (f g : Nat → BitVec 32) : Nat → Sta
  | 0 => ⟨f 0, f 1, f 2, f 3, f 4, f 5, f 6, f 7⟩
  | k + 1 => stp (runF f g k) (at32 KK k) (g k)
theorem runF_eq (f g : Nat → BitVec 32) : ∀ k, k ≤ 64 → runF f g k = runR (lw 8 f) (lw 64 g) k
  | 0, _ => rfl
  | k + 1, h => by rw [runF, runR, runF_eq f g k (by omega), at32_lw 64 g k (by omega)]
def C_sha_rounds : SpecP := fun A K => ∃ f g, A [arr32 8 f, arr32 64 g] ∧ K (arr32 8 (at32 (rnds (lw 8 f) (lw 64 g))))
def L_sha_rounds (f g : Nat → BitVec 32) : LI := ⟨Nat, (· ≤ 64), fun k => [(2, .ptr (ty 89) 8 []), (4, .ptr (ty 89) 24 []), (5, .u32 (runF f g k).a), (6, .u32 (runF f g k).b), (7, .u32 (runF f g k).c), (8, .u32 (runF f g k).d),
    (9, .u32 (runF f g k).e), (10, .u32 (runF f g k).f), (11, .u32 (runF f g k).g), (12, .u32 (runF f g k).h), (33, arr32 64 g), (34, .nat k)],
  fun _ => [(8, .var (ty 89) (arr32 8 f)), (24, .var (ty 89) (arr32 8 fun _ => 0))], fun k => 64 - k, some, some⟩
theorem g_sha_rounds : Gd 67 (pureP ty C_sha_rounds) := by
  refine goodP (E := PG [(71, pureP ty C_sha_bigSigma1), (72, pureP ty C_sha_choose), (73, pureP ty C_sha_bigSigma0), (74, pureP ty C_sha_majority)]) (pgOK ⟨g_sha_bigSigma1, g_sha_choose, g_sha_bigSigma0, g_sha_majority, trivial⟩) mixes Tryd.func67 (by kernel_rfl) (by kernel_rfl) ?_
  rintro A K ⟨f, g, hA, hK⟩
  refine ⟨_, _, loops [(3, L_sha_rounds f g)], hA, hK, by kernel_rfl, fun _ _ => trivial, ?_⟩
  repeat ((conv => whnf); first | refine sdO ?_ | refine nlO ?_ | refine goA ?_ | refine goB ?_ | (apply Exists.intro; (repeat apply Exists.intro); refine caO ?_) | (refine Or.inl ?_; (conv => whnf); (repeat apply Exists.intro); refine caO ?_) | (refine Or.inr ?_; (conv => whnf); first | ((repeat apply Exists.intro); refine caO ?_) | (refine Or.inl ?_; (conv => whnf); (repeat apply Exists.intro); refine caO ?_) | (refine Or.inr ?_; (conv => whnf); (repeat apply Exists.intro); refine caO ?_)))
  all_goals try (conv => whnf)
  refine Exists.intro (fun _ => True) (And.intro (Enter.mk (0 : Nat) (Nat.zero_le 64) trivial ?_) (fun (k : Nat) (hk : k ≤ 64) _ => ?_))
  · ((repeat' ((conv => whnf) <;> first | exact trivial | (with_reducible first | refine And.intro ?_ ?_ | refine rows_lt1 ?_ | refine rows_lt2 ?_ ?_ | refine rows_lt3 ?_ ?_ ?_ | refine rows_lt4 ?_ ?_ ?_ ?_ | refine rows_lt5 ?_ ?_ ?_ ?_ ?_ | refine ints_lt1 ?_ | refine ints_lt2 ?_ ?_ | refine ints_lt3 ?_ ?_ ?_ | refine rows_lt7 ?_ ?_ ?_ ?_ ?_ ?_ ?_ | refine aggs_lt1 ?_ | refine aggs_lt2 ?_ ?_ | refine aggs_lt3 ?_ ?_ ?_ | refine fun (_ : Nat) => ?_) | refine fun (_ : (_ : Nat) < _) => ?_ | exact rfl | exact Nat.le_of_ble_eq_true rfl | (change (_ : Nat) ≤ _; omega) | (change (_ : Nat) = _; omega) | (change (_ : Int) = _; omega))); (all_goals try (conv => whnf)))
  repeat ((conv => whnf); first | refine sdO ?_ | refine nlO ?_ | refine goA ?_ | refine goB ?_ | (apply Exists.intro; (repeat apply Exists.intro); refine caO ?_) | (refine Or.inl ?_; (conv => whnf); (repeat apply Exists.intro); refine caO ?_) | (refine Or.inr ?_; (conv => whnf); first | ((repeat apply Exists.intro); refine caO ?_) | (refine Or.inl ?_; (conv => whnf); (repeat apply Exists.intro); refine caO ?_) | (refine Or.inr ?_; (conv => whnf); (repeat apply Exists.intro); refine caO ?_)))
  all_goals try (conv => whnf)
  refine And.intro (fun h => ?_) (fun h => ?_)
  · have h := of_decide_eq_true h
    repeat ((conv => whnf); first | refine sdO ?_ | refine nlO ?_ | refine goA ?_ | refine goB ?_ | (apply Exists.intro; (repeat apply Exists.intro); refine caO ?_) | (refine Or.inl ?_; (conv => whnf); (repeat apply Exists.intro); refine caO ?_) | (refine Or.inr ?_; (conv => whnf); first | ((repeat apply Exists.intro); refine caO ?_) | (refine Or.inl ?_; (conv => whnf); (repeat apply Exists.intro); refine caO ?_) | (refine Or.inr ?_; (conv => whnf); (repeat apply Exists.intro); refine caO ?_)))
    all_goals try (conv => whnf)
    refine Again.mk (k + 1 : Nat) (show k + 1 ≤ 64 by omega) trivial (show 64 - (k + 1) < 64 - k by omega) ?_
    ((repeat' ((conv => whnf) <;> first | exact trivial | (with_reducible first | refine And.intro ?_ ?_ | refine rows_lt1 ?_ | refine rows_lt2 ?_ ?_ | refine rows_lt3 ?_ ?_ ?_ | refine rows_lt4 ?_ ?_ ?_ ?_ | refine rows_lt5 ?_ ?_ ?_ ?_ ?_ | refine ints_lt1 ?_ | refine ints_lt2 ?_ ?_ | refine ints_lt3 ?_ ?_ ?_ | refine rows_lt7 ?_ ?_ ?_ ?_ ?_ ?_ ?_ | refine aggs_lt1 ?_ | refine aggs_lt2 ?_ ?_ | refine aggs_lt3 ?_ ?_ ?_ | refine fun (_ : Nat) => ?_) | refine fun (_ : (_ : Nat) < _) => ?_ | exact rfl | exact Nat.le_of_ble_eq_true rfl | (change (_ : Nat) ≤ _; omega) | (change (_ : Nat) = _; omega) | (change (_ : Int) = _; omega))); (all_goals try (conv => whnf)))
  · have h := of_decide_eq_false h
    obtain rfl : k = 64 := by omega
    repeat ((conv => whnf); first | refine sdO ?_ | refine nlO ?_ | refine goA ?_ | refine goB ?_ | (apply Exists.intro; (repeat apply Exists.intro); refine caO ?_) | (refine Or.inl ?_; (conv => whnf); (repeat apply Exists.intro); refine caO ?_) | (refine Or.inr ?_; (conv => whnf); first | ((repeat apply Exists.intro); refine caO ?_) | (refine Or.inl ?_; (conv => whnf); (repeat apply Exists.intro); refine caO ?_) | (refine Or.inr ?_; (conv => whnf); (repeat apply Exists.intro); refine caO ?_)))
    all_goals try (conv => whnf)
    intro j hj
    conv => whnf
    rw [rnds, ← runF_eq f g 64 (by omega)]
    rcases j with _ | _ | _ | _ | _ | _ | _ | _ | j
    all_goals first | exact rfl | omega
/-! ### The schedule -/
def wAt (b : Nat → BitVec 8) (i : Nat) : BitVec 32 := w4 (b (4 * i)) (b (4 * i + 1)) (b (4 * i + 2)) (b (4 * i + 3))
def C_sha_schedule : SpecP := fun A K => ∃ b, A [arr8 64 b] ∧ K (arr32 64 (at32 (sched (lw 64 b))))
def sc1 (b : Nat → BitVec 8) (k j : Nat) : BitVec 32 := if j < k then wAt b j else 0
def sc2 (b : Nat → BitVec 8) (k j : Nat) : BitVec 32 := at32 (padZ (extN (lw 16 (wAt b)) k)) j
theorem sc1_zero (b : Nat → BitVec 8) (j : Nat) : sc1 b 0 j = 0 := if_neg (by omega)
theorem sc1_step (b : Nat → BitVec 8) (k j : Nat) : (if j = k then wordAt (fun i => b (4 * k + i)) 0 else sc1 b k j) = sc1 b (k + 1) j := by
  unfold sc1
  by_cases h : j = k
  · subst h; rw [if_pos rfl, if_pos (by omega)]; rfl
  · rw [if_neg h]
    by_cases h2 : j < k
    · rw [if_pos h2, if_pos (by omega)]
    · rw [if_neg h2, if_neg (by omega)]
theorem at32_padZ (l : List (BitVec 32)) (j : Nat) : at32 (padZ l) j = at32 l j := by
  simp only [at32, padZ, List.getD_eq_getElem?_getD, List.getElem?_append, List.getElem?_replicate]
  by_cases h : j < l.length
  · rw [if_pos h]
  · rw [if_neg h, List.getElem?_eq_none (by omega)]
    split <;> rfl
theorem sc2_zero (b : Nat → BitVec 8) (j : Nat) : sc1 b 16 j = sc2 b 0 j := by
  unfold sc1 sc2
  rw [at32_padZ]
  by_cases h : j < 16
  · rw [if_pos h, extN, at32_lw _ _ _ h]
  · rw [if_neg h, extN, at32, List.getD_eq_getElem?_getD, List.getElem?_eq_none (by rw [lw_len]; omega)]; rfl
theorem sc2_step (b : Nat → BitVec 8) (k j : Nat) (hk : k < 48) : (if j = k + 16 then sS1 (sc2 b k (k + 14)) + sc2 b k (k + 9) + sS0 (sc2 b k (k + 1)) + sc2 b k k else sc2 b k j) = sc2 b (k + 1) j := by
  unfold sc2
  simp only [at32_padZ]
  have hl : (extN (lw 16 (wAt b)) k).length = k + 16 := by rw [extN_len, lw_len]; omega
  rw [extN]
  by_cases h : j = k + 16
  · subst h
    rw [if_pos rfl]
    conv => rhs; rw [at32, List.getD_eq_getElem?_getD, List.getElem?_append_right (by omega), hl, Nat.sub_self]
    simp only [List.getElem?_cons_zero, Option.getD_some, nxt, hl]
    rw [show k + 16 - 2 = k + 14 by omega, show k + 16 - 7 = k + 9 by omega, show k + 16 - 15 = k + 1 by omega, show k + 16 - 16 = k by omega]
  · rw [if_neg h]
    simp only [at32, List.getD_eq_getElem?_getD, List.getElem?_append]
    by_cases h2 : j < (extN (lw 16 (wAt b)) k).length
    · rw [if_pos h2]
    · rw [if_neg h2, List.getElem?_eq_none (by omega), List.getElem?_eq_none (by simp; omega)]
theorem sched_eq (b : Nat → BitVec 8) (j : Nat) : sc2 b 48 j = at32 (sched (lw 64 b)) j := by
  unfold sc2
  rw [at32_padZ, sched]
  have : lw 16 (wAt b) = L1 (lw 64 b) 16 := by
    unfold lw L1
    refine List.map_congr_left fun i hi => ?_
    have hi : i < 16 := by simpa using hi
    unfold wAt wat
    rw [at8_lw' _ _ _ (by omega), at8_lw' _ _ _ (by omega), at8_lw' _ _ _ (by omega), at8_lw' _ _ _ (by omega)]
  rw [this]
def L_sha_schedule_a (b : Nat → BitVec 8) : LI := ⟨Nat, (· ≤ 16), fun k => [(1, .ptr (ty 90) 8 []), (2, .ptr (ty 111) 16 []), (3, .ptr (ty 111) 1032 []), (6, .nat k)],
  fun k => [(8, .var (ty 90) (arr8 64 b)), (16, .var (ty 111) (arr32 64 fun _ => 0)), (1032, .var (ty 111) (arr32 64 (sc1 b k)))], fun k => 16 - k, some, some⟩
def L_sha_schedule_b (b : Nat → BitVec 8) : LI := ⟨Nat, (· ≤ 48), fun k => [(2, .ptr (ty 111) 16 []), (3, .ptr (ty 111) 1032 []), (19, .nat k)],
  fun k => [(16, .var (ty 111) (arr32 64 fun _ => 0)), (1032, .var (ty 111) (arr32 64 (sc2 b k)))], fun k => 48 - k, some, some⟩
attribute [irreducible] sc1 sc2
theorem g_sha_schedule : Gd 68 (pureP ty C_sha_schedule) := by
  refine goodP (E := PG [(75, pureP ty C_sha_word), (76, pureP ty C_sha_smallSigma1), (77, pureP ty C_sha_smallSigma0)]) (pgOK ⟨g_sha_word, g_sha_smallSigma1, g_sha_smallSigma0, trivial⟩) mixes Tryd.func68 (by kernel_rfl) (by kernel_rfl) ?_
  rintro A K ⟨b, hA, hK⟩
  refine ⟨_, _, loops [(3, L_sha_schedule_a b), (8, L_sha_schedule_b b)], hA, hK, by kernel_rfl, fun _ _ => trivial, ?_⟩
  repeat ((conv => whnf); first | refine sdO ?_ | refine nlO ?_ | refine goA ?_ | refine goB ?_ | (apply Exists.intro; (repeat apply Exists.intro); refine caO ?_) | (refine Or.inl ?_; (conv => whnf); (repeat apply Exists.intro); refine caO ?_) | (refine Or.inr ?_; (conv => whnf); first | ((repeat apply Exists.intro); refine caO ?_) | (refine Or.inl ?_; (conv => whnf); (repeat apply Exists.intro); refine caO ?_) | (refine Or.inr ?_; (conv => whnf); (repeat apply Exists.intro); refine caO ?_)))
  all_goals try (conv => whnf)
  refine Exists.intro (fun _ => True) (And.intro (Enter.mk (0 : Nat) (Nat.zero_le 16) trivial ?_) (fun (k : Nat) (hk : k ≤ 16) _ => ?_))
  · ((repeat' ((conv => whnf) <;> first | exact trivial | (with_reducible first | refine And.intro ?_ ?_ | refine rows_lt1 ?_ | refine rows_lt2 ?_ ?_ | refine rows_lt3 ?_ ?_ ?_ | refine rows_lt4 ?_ ?_ ?_ ?_ | refine rows_lt5 ?_ ?_ ?_ ?_ ?_ | refine ints_lt1 ?_ | refine ints_lt2 ?_ ?_ | refine ints_lt3 ?_ ?_ ?_ | refine rows_lt7 ?_ ?_ ?_ ?_ ?_ ?_ ?_ | refine aggs_lt1 ?_ | refine aggs_lt2 ?_ ?_ | refine aggs_lt3 ?_ ?_ ?_ | refine fun (_ : Nat) => ?_) | refine fun (_ : (_ : Nat) < _) => ?_ | exact rfl | exact Nat.le_of_ble_eq_true rfl | (change (_ : Nat) ≤ _; omega) | (change (_ : Nat) = _; omega) | (change (_ : Int) = _; omega))); (all_goals try (conv => whnf)))
    exact (sc1_zero b _).symm
  repeat ((conv => whnf); first | refine sdO ?_ | refine nlO ?_ | refine goA ?_ | refine goB ?_ | (apply Exists.intro; (repeat apply Exists.intro); refine caO ?_) | (refine Or.inl ?_; (conv => whnf); (repeat apply Exists.intro); refine caO ?_) | (refine Or.inr ?_; (conv => whnf); first | ((repeat apply Exists.intro); refine caO ?_) | (refine Or.inl ?_; (conv => whnf); (repeat apply Exists.intro); refine caO ?_) | (refine Or.inr ?_; (conv => whnf); (repeat apply Exists.intro); refine caO ?_)))
  all_goals try (conv => whnf)
  refine And.intro (fun h => ?_) (fun h => ?_)
  · have h := of_decide_eq_true h
    repeat ((conv => whnf); first | refine sdO ?_ | refine nlO ?_ | refine goA ?_ | refine goB ?_ | (apply Exists.intro; (repeat apply Exists.intro); refine caO ?_) | (refine Or.inl ?_; (conv => whnf); (repeat apply Exists.intro); refine caO ?_) | (refine Or.inr ?_; (conv => whnf); first | ((repeat apply Exists.intro); refine caO ?_) | (refine Or.inl ?_; (conv => whnf); (repeat apply Exists.intro); refine caO ?_) | (refine Or.inr ?_; (conv => whnf); (repeat apply Exists.intro); refine caO ?_)))
    all_goals try (conv => whnf)
    refine Again.mk (k + 1 : Nat) (show k + 1 ≤ 16 by omega) trivial (show 16 - (k + 1) < 16 - k by omega) ?_
    ((repeat' ((conv => whnf) <;> first | exact trivial | (with_reducible first | refine And.intro ?_ ?_ | refine rows_lt1 ?_ | refine rows_lt2 ?_ ?_ | refine rows_lt3 ?_ ?_ ?_ | refine rows_lt4 ?_ ?_ ?_ ?_ | refine rows_lt5 ?_ ?_ ?_ ?_ ?_ | refine ints_lt1 ?_ | refine ints_lt2 ?_ ?_ | refine ints_lt3 ?_ ?_ ?_ | refine rows_lt7 ?_ ?_ ?_ ?_ ?_ ?_ ?_ | refine aggs_lt1 ?_ | refine aggs_lt2 ?_ ?_ | refine aggs_lt3 ?_ ?_ ?_ | refine fun (_ : Nat) => ?_) | refine fun (_ : (_ : Nat) < _) => ?_ | exact rfl | exact Nat.le_of_ble_eq_true rfl | (change (_ : Nat) ≤ _; omega) | (change (_ : Nat) = _; omega) | (change (_ : Int) = _; omega))); (all_goals try (conv => whnf)))
    rename_i j hj
    exact sc1_step b k j
  · have h := of_decide_eq_false h
    obtain rfl : k = 16 := by omega
    repeat ((conv => whnf); first | refine sdO ?_ | refine nlO ?_ | refine goA ?_ | refine goB ?_ | (apply Exists.intro; (repeat apply Exists.intro); refine caO ?_) | (refine Or.inl ?_; (conv => whnf); (repeat apply Exists.intro); refine caO ?_) | (refine Or.inr ?_; (conv => whnf); first | ((repeat apply Exists.intro); refine caO ?_) | (refine Or.inl ?_; (conv => whnf); (repeat apply Exists.intro); refine caO ?_) | (refine Or.inr ?_; (conv => whnf); (repeat apply Exists.intro); refine caO ?_)))
    all_goals try (conv => whnf)
    refine Exists.intro (fun _ => True) (And.intro (Enter.mk (0 : Nat) (Nat.zero_le 48) trivial ?_) (fun (k : Nat) (hk : k ≤ 48) _ => ?_))
    · ((repeat' ((conv => whnf) <;> first | exact trivial | (with_reducible first | refine And.intro ?_ ?_ | refine rows_lt1 ?_ | refine rows_lt2 ?_ ?_ | refine rows_lt3 ?_ ?_ ?_ | refine rows_lt4 ?_ ?_ ?_ ?_ | refine rows_lt5 ?_ ?_ ?_ ?_ ?_ | refine ints_lt1 ?_ | refine ints_lt2 ?_ ?_ | refine ints_lt3 ?_ ?_ ?_ | refine rows_lt7 ?_ ?_ ?_ ?_ ?_ ?_ ?_ | refine aggs_lt1 ?_ | refine aggs_lt2 ?_ ?_ | refine aggs_lt3 ?_ ?_ ?_ | refine fun (_ : Nat) => ?_) | refine fun (_ : (_ : Nat) < _) => ?_ | exact rfl | exact Nat.le_of_ble_eq_true rfl | (change (_ : Nat) ≤ _; omega) | (change (_ : Nat) = _; omega) | (change (_ : Int) = _; omega))); (all_goals try (conv => whnf)))
      rename_i j hj
      exact sc2_zero b j
    repeat ((conv => whnf); first | refine sdO ?_ | refine nlO ?_ | refine goA ?_ | refine goB ?_ | (apply Exists.intro; (repeat apply Exists.intro); refine caO ?_) | (refine Or.inl ?_; (conv => whnf); (repeat apply Exists.intro); refine caO ?_) | (refine Or.inr ?_; (conv => whnf); first | ((repeat apply Exists.intro); refine caO ?_) | (refine Or.inl ?_; (conv => whnf); (repeat apply Exists.intro); refine caO ?_) | (refine Or.inr ?_; (conv => whnf); (repeat apply Exists.intro); refine caO ?_)))
    all_goals try (conv => whnf)
    refine And.intro (fun h => ?_) (fun h => ?_)
    · have h := of_decide_eq_true h
      repeat ((conv => whnf); first | refine sdO ?_ | refine nlO ?_ | refine goA ?_ | refine goB ?_ | (apply Exists.intro; (repeat apply Exists.intro); refine caO ?_) | (refine Or.inl ?_; (conv => whnf); (repeat apply Exists.intro); refine caO ?_) | (refine Or.inr ?_; (conv => whnf); first | ((repeat apply Exists.intro); refine caO ?_) | (refine Or.inl ?_; (conv => whnf); (repeat apply Exists.intro); refine caO ?_) | (refine Or.inr ?_; (conv => whnf); (repeat apply Exists.intro); refine caO ?_)))
      all_goals try (conv => whnf)
      refine Again.mk (k + 1 : Nat) (show k + 1 ≤ 48 by omega) trivial (show 48 - (k + 1) < 48 - k by omega) ?_
      ((repeat' ((conv => whnf) <;> first | exact trivial | (with_reducible first | refine And.intro ?_ ?_ | refine rows_lt1 ?_ | refine rows_lt2 ?_ ?_ | refine rows_lt3 ?_ ?_ ?_ | refine rows_lt4 ?_ ?_ ?_ ?_ | refine rows_lt5 ?_ ?_ ?_ ?_ ?_ | refine ints_lt1 ?_ | refine ints_lt2 ?_ ?_ | refine ints_lt3 ?_ ?_ ?_ | refine rows_lt7 ?_ ?_ ?_ ?_ ?_ ?_ ?_ | refine aggs_lt1 ?_ | refine aggs_lt2 ?_ ?_ | refine aggs_lt3 ?_ ?_ ?_ | refine fun (_ : Nat) => ?_) | refine fun (_ : (_ : Nat) < _) => ?_ | exact rfl | exact Nat.le_of_ble_eq_true rfl | (change (_ : Nat) ≤ _; omega) | (change (_ : Nat) = _; omega) | (change (_ : Int) = _; omega))); (all_goals try (conv => whnf)))
      rename_i j hj
      exact sc2_step b k j (by omega)
    · have h := of_decide_eq_false h
      obtain rfl : k = 48 := by omega
      repeat ((conv => whnf); first | refine sdO ?_ | refine nlO ?_ | refine goA ?_ | refine goB ?_ | (apply Exists.intro; (repeat apply Exists.intro); refine caO ?_) | (refine Or.inl ?_; (conv => whnf); (repeat apply Exists.intro); refine caO ?_) | (refine Or.inr ?_; (conv => whnf); first | ((repeat apply Exists.intro); refine caO ?_) | (refine Or.inl ?_; (conv => whnf); (repeat apply Exists.intro); refine caO ?_) | (refine Or.inr ?_; (conv => whnf); (repeat apply Exists.intro); refine caO ?_)))
      all_goals try (conv => whnf)
      intro j hj
      conv => whnf
      exact sched_eq b j
end Go.Proofs.YtldlleoabbcpdaaDoor
