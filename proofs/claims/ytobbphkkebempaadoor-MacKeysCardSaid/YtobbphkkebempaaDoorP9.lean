/- The laws of layer 1. -/
import Derived.Test.YtobbphkkebempaaDoorP8
namespace Go.Proofs.YtobbphkkebempaaDoor
open Go.RowKit
set_option maxRecDepth 100000
set_option maxHeartbeats 20000000
attribute [local irreducible] hsh rst sha256 press dig valN
theorem eqB_agg {u u' : Bool} {n : Nat} {F G : Nat → AV} (h : ∀ i, i < n → AEq (F i) (G i)) : eqB (.agg u n F) (.agg u' n G) = true := eqB_iff.2 h
theorem bad {b : Bool} {p : Prop} (h1 : b = true) (h2 : b = false) : p := by rw [h1] at h2; cases h2
theorem lw_parts (n a c : Nat) (b : Nat → BitVec 8) (h1 : a ≤ c) (h2 : c ≤ n) : lw a b ++ lw (c - a) (fun i => b (a + i)) ++ lw (n - c) (fun i => b (c + i)) = lw n b := by
  rw [← lw_add, show a + (c - a) = c by omega, ← lw_add, show c + (n - c) = n by omega]
def C_l1_ShaSums : SpecP := fun A K => ∃ l b c o, A [bsl l b, .u16 c, .u16 o] ∧ l ≤ maxLen ∧ K (.bo true)
theorem g_l1_ShaSums : Gd 3 (pureP ty C_l1_ShaSums) := by
  refine goodP (E := PG [(18, pureP ty C_l1_awake), (19, pureR ty C_r1_Cut), (20, pureP ty C_r1_Sum), (21, orC (pureP ty C_sha_Sum_a) (pureP ty C_sha_Sum_c)), (22, pureP ty C_sha_New), (23, pureP ty C_sha_State_Feed), (24, pureP ty C_sha_State_Sum)]) (pgOK ⟨g_l1_awake, g_r1_Cut, g_r1_Sum, good_or g_sha_Sum_a g_sha_Sum_c, g_sha_New, g_sha_State_Feed, g_sha_State_Sum, trivial⟩) mixes Tryd.func3 (by kernel_rfl) (by kernel_rfl) ?_
  rintro A K ⟨l, b, c, o, hA, hl, hK⟩
  refine ⟨_, _, fun _ => none, hA, hK, by kernel_rfl, trivial, ?_⟩
  have hc := c.isLt
  have ho := o.isLt
  repeat (first | ((conv => whnf); refine And.intro ?_ ?_; exact sideOf) | ((conv => whnf); refine And.intro (fun _ => ?_) (fun h => nomatch (show true = false from h))) | ((conv => whnf); refine And.intro (fun h => nomatch (show false = true from h)) (fun _ => ?_)) | ((conv => whnf); first | (apply Exists.intro; (repeat apply Exists.intro); refine And.intro ?_ ?_; exact leOf) | (refine Or.inl ?_; (conv => whnf); (repeat apply Exists.intro); refine And.intro ?_ ?_; exact leOf) | (refine Or.inr ?_; (conv => whnf); first | ((repeat apply Exists.intro); refine And.intro ?_ ?_; exact leOf) | (refine Or.inl ?_; (conv => whnf); (repeat apply Exists.intro); refine And.intro ?_ ?_; exact leOf) | (refine Or.inr ?_; (conv => whnf); (repeat apply Exists.intro); refine And.intro ?_ ?_; exact leOf))))
  all_goals try (conv => whnf)
  refine And.intro (fun _ => ?_) (bad (eqB_agg fun i hi => ?_))
  rotate_left
  · exact Eq.refl (at8 _ i)
  repeat (first | ((conv => whnf); refine And.intro ?_ ?_; exact sideOf) | ((conv => whnf); refine And.intro (fun _ => ?_) (fun h => nomatch (show true = false from h))) | ((conv => whnf); refine And.intro (fun h => nomatch (show false = true from h)) (fun _ => ?_)) | ((conv => whnf); first | (apply Exists.intro; (repeat apply Exists.intro); refine And.intro ?_ ?_; exact leOf) | (refine Or.inl ?_; (conv => whnf); (repeat apply Exists.intro); refine And.intro ?_ ?_; exact leOf) | (refine Or.inr ?_; (conv => whnf); first | ((repeat apply Exists.intro); refine And.intro ?_ ?_; exact leOf) | (refine Or.inl ?_; (conv => whnf); (repeat apply Exists.intro); refine And.intro ?_ ?_; exact leOf) | (refine Or.inr ?_; (conv => whnf); (repeat apply Exists.intro); refine And.intro ?_ ?_; exact leOf))))
  all_goals try (conv => whnf)
  refine And.intro (fun _ => ?_) (bad (eqB_agg fun i hi => ?_))
  rotate_left
  · conv => whnf
    simp only [Nat.sub_zero, Nat.zero_add]
    rw [lw_parts _ _ _ _ (by omega) (by omega)]
  repeat (first | ((conv => whnf); refine And.intro ?_ ?_; exact sideOf) | ((conv => whnf); refine And.intro (fun _ => ?_) (fun h => nomatch (show true = false from h))) | ((conv => whnf); refine And.intro (fun h => nomatch (show false = true from h)) (fun _ => ?_)) | ((conv => whnf); first | (apply Exists.intro; (repeat apply Exists.intro); refine And.intro ?_ ?_; exact leOf) | (refine Or.inl ?_; (conv => whnf); (repeat apply Exists.intro); refine And.intro ?_ ?_; exact leOf) | (refine Or.inr ?_; (conv => whnf); first | ((repeat apply Exists.intro); refine And.intro ?_ ?_; exact leOf) | (refine Or.inl ?_; (conv => whnf); (repeat apply Exists.intro); refine And.intro ?_ ?_; exact leOf) | (refine Or.inr ?_; (conv => whnf); (repeat apply Exists.intro); refine And.intro ?_ ?_; exact leOf))))
  all_goals try (conv => whnf)
  ((repeat' ((conv => whnf) <;> first | exact trivial | (with_reducible first | refine And.intro ?_ ?_ | refine rows_lt1 ?_ | refine rows_lt2 ?_ ?_ | refine rows_lt3 ?_ ?_ ?_ | refine rows_lt4 ?_ ?_ ?_ ?_ | refine fun (_ : Nat) => ?_) | refine fun (_ : (_ : Nat) < _) => ?_ | exact rfl | exact Nat.le_of_ble_eq_true rfl | (change (_ : Nat) ≤ _; omega) | (change (_ : Nat) = _; omega) | (change (_ : Int) = _; omega))); (all_goals try (conv => whnf)))
  refine eqB_agg fun i hi => ?_
  conv => whnf
  simp only [Nat.sub_zero, Nat.zero_add, List.nil_append]
  rw [lw_parts _ _ _ _ (by omega) (by omega)]
theorem dno {p q : Prop} [Decidable p] (h : ¬ p) (e : decide p = true) : q := absurd (of_decide_eq_true e) h
theorem dyes {p q : Prop} [Decidable p] (h : p) (e : decide p = false) : q := absurd h (of_decide_eq_false e)
theorem valN_val (b : Nat → BitVec 8) : ∀ k, valN b k = val (lw k b)
  | 0 => by unfold valN; rfl
  | k + 1 => by
    have e : valN b (k + 1) = 256 * valN b k + (b k).setWidth 64 := by rw [valN]
    rw [e, valN_val b k, lw_succ]; simp [val]
theorem pad_val (n : BitVec 64) (z : Nat) (hz : padZs n = z) : valN (fun i => at8 (padL n) (z + 1 + i)) 8 = 8#64 * n := by
  subst hz
  rw [valN_val]
  have : lw 8 (fun i => at8 (padL n) (padZs n + 1 + i)) = be (8#64 * n) 8 := by
    rw [← lw_at8 (be (8#64 * n) 8) 8 (be_len _ _)]
    exact congrArg (lw 8) (funext fun i => padL_end n i)
  rw [this, val_be]
theorem pad_mod (n : BitVec 64) : (n % BitVec.ofInt 64 64 + BitVec.ofNat 64 (padZs n + 9)) % BitVec.ofInt 64 64 = BitVec.ofInt 64 0 := by
  apply BitVec.eq_of_toNat_eq
  have hn := n.isLt
  rw [BitVec.toNat_umod, BitVec.toNat_add, BitVec.toNat_umod, BitVec.toNat_ofNat]
  simp only [BitVec.reduceOfInt, BitVec.reduceToNat]
  unfold padZs
  rw [BitVec.toNat_sub]
  simp only [BitVec.toNat_ofNat]
  omega
/-! ShaPads -/
def C_l1_ShaPads : SpecP := fun A K => ∃ n, A [.u64 n] ∧ K (.bo true)
def L_l1_ShaPads (n : BitVec 64) : LI := .plain Nat (· ≤ padZs n) (fun k => [(49, bsl (padZs n) (fun i => at8 (padL n) (1 + i))), (50, .nat (padZs n)), (51, .nat k)]) (fun k => padZs n - k)
theorem g_l1_ShaPads : Gd 6 (pureP ty C_l1_ShaPads) := by
  refine goodP (E := PG [(18, pureP ty C_l1_awake), (32, pureP ty C_sha_Pad), (28, pureP ty C_r1_Value)]) (pgOK ⟨g_l1_awake, g_sha_Pad, g_r1_Value, trivial⟩) mixes Tryd.func6 (by kernel_rfl) (by kernel_rfl) ?_
  rintro A K ⟨n, hA, hK⟩
  refine ⟨_, _, loops [(7, L_l1_ShaPads n)], hA, hK, by kernel_rfl, trivial, ?_⟩
  have hz : padZs n < 64 := by unfold padZs; omega
  repeat (first | ((conv => whnf); refine And.intro ?_ ?_; exact sideOf) | ((conv => whnf); refine And.intro (fun _ => ?_) (fun h => nomatch (show true = false from h))) | ((conv => whnf); refine And.intro (fun h => nomatch (show false = true from h)) (fun _ => ?_)) | ((conv => whnf); first | (apply Exists.intro; (repeat apply Exists.intro); refine And.intro ?_ ?_; exact leOf) | (refine Or.inl ?_; (conv => whnf); (repeat apply Exists.intro); refine And.intro ?_ ?_; exact leOf) | (refine Or.inr ?_; (conv => whnf); first | ((repeat apply Exists.intro); refine And.intro ?_ ?_; exact leOf) | (refine Or.inl ?_; (conv => whnf); (repeat apply Exists.intro); refine And.intro ?_ ?_; exact leOf) | (refine Or.inr ?_; (conv => whnf); (repeat apply Exists.intro); refine And.intro ?_ ?_; exact leOf))))
  all_goals try (conv => whnf)
  refine And.intro (dno (by simp only [Int.reduceToNat]; omega)) (fun _ => ?_)
  repeat (first | ((conv => whnf); refine And.intro ?_ ?_; exact sideOf) | ((conv => whnf); refine And.intro (fun _ => ?_) (fun h => nomatch (show true = false from h))) | ((conv => whnf); refine And.intro (fun h => nomatch (show false = true from h)) (fun _ => ?_)) | ((conv => whnf); first | (apply Exists.intro; (repeat apply Exists.intro); refine And.intro ?_ ?_; exact leOf) | (refine Or.inl ?_; (conv => whnf); (repeat apply Exists.intro); refine And.intro ?_ ?_; exact leOf) | (refine Or.inr ?_; (conv => whnf); first | ((repeat apply Exists.intro); refine And.intro ?_ ?_; exact leOf) | (refine Or.inl ?_; (conv => whnf); (repeat apply Exists.intro); refine And.intro ?_ ?_; exact leOf) | (refine Or.inr ?_; (conv => whnf); (repeat apply Exists.intro); refine And.intro ?_ ?_; exact leOf))))
  all_goals try (conv => whnf)
  refine And.intro (dno (fun h => h (pad_mod n))) (fun _ => ?_)
  repeat (first | ((conv => whnf); refine And.intro ?_ ?_; exact sideOf) | ((conv => whnf); refine And.intro (fun _ => ?_) (fun h => nomatch (show true = false from h))) | ((conv => whnf); refine And.intro (fun h => nomatch (show false = true from h)) (fun _ => ?_)) | ((conv => whnf); first | (apply Exists.intro; (repeat apply Exists.intro); refine And.intro ?_ ?_; exact leOf) | (refine Or.inl ?_; (conv => whnf); (repeat apply Exists.intro); refine And.intro ?_ ?_; exact leOf) | (refine Or.inr ?_; (conv => whnf); first | ((repeat apply Exists.intro); refine And.intro ?_ ?_; exact leOf) | (refine Or.inl ?_; (conv => whnf); (repeat apply Exists.intro); refine And.intro ?_ ?_; exact leOf) | (refine Or.inr ?_; (conv => whnf); (repeat apply Exists.intro); refine And.intro ?_ ?_; exact leOf))))
  all_goals try (conv => whnf)
  have ez : (((padZs n + 9 : Nat) : Int) - ((Int.toNat 8 : Nat) : Int)).toNat = padZs n + 1 := by simp only [Int.reduceToNat]; omega
  rw [ez]
  refine And.intro (dno (fun h => h (by rw [show padZs n + 9 - (padZs n + 1) = 8 by omega]; exact pad_val n _ rfl))) (fun _ => ?_)
  repeat (first | ((conv => whnf); refine And.intro ?_ ?_; exact sideOf) | ((conv => whnf); refine And.intro (fun _ => ?_) (fun h => nomatch (show true = false from h))) | ((conv => whnf); refine And.intro (fun h => nomatch (show false = true from h)) (fun _ => ?_)) | ((conv => whnf); first | (apply Exists.intro; (repeat apply Exists.intro); refine And.intro ?_ ?_; exact leOf) | (refine Or.inl ?_; (conv => whnf); (repeat apply Exists.intro); refine And.intro ?_ ?_; exact leOf) | (refine Or.inr ?_; (conv => whnf); first | ((repeat apply Exists.intro); refine And.intro ?_ ?_; exact leOf) | (refine Or.inl ?_; (conv => whnf); (repeat apply Exists.intro); refine And.intro ?_ ?_; exact leOf) | (refine Or.inr ?_; (conv => whnf); (repeat apply Exists.intro); refine And.intro ?_ ?_; exact leOf))))
  all_goals try (conv => whnf)
  refine Exists.intro (fun _ => True) (And.intro (Enter.mk (0 : Nat) (Nat.zero_le _) trivial ?_) (fun (k : Nat) (hk : k ≤ padZs n) _ => ?_))
  · ((repeat' ((conv => whnf) <;> first | exact trivial | (with_reducible first | refine And.intro ?_ ?_ | refine rows_lt1 ?_ | refine rows_lt2 ?_ ?_ | refine rows_lt3 ?_ ?_ ?_ | refine rows_lt4 ?_ ?_ ?_ ?_ | refine fun (_ : Nat) => ?_) | refine fun (_ : (_ : Nat) < _) => ?_ | exact rfl | exact Nat.le_of_ble_eq_true rfl | (change (_ : Nat) ≤ _; omega) | (change (_ : Nat) = _; omega) | (change (_ : Int) = _; omega))); (all_goals try (conv => whnf)))
  repeat (first | ((conv => whnf); refine And.intro ?_ ?_; exact sideOf) | ((conv => whnf); refine And.intro (fun _ => ?_) (fun h => nomatch (show true = false from h))) | ((conv => whnf); refine And.intro (fun h => nomatch (show false = true from h)) (fun _ => ?_)) | ((conv => whnf); first | (apply Exists.intro; (repeat apply Exists.intro); refine And.intro ?_ ?_; exact leOf) | (refine Or.inl ?_; (conv => whnf); (repeat apply Exists.intro); refine And.intro ?_ ?_; exact leOf) | (refine Or.inr ?_; (conv => whnf); first | ((repeat apply Exists.intro); refine And.intro ?_ ?_; exact leOf) | (refine Or.inl ?_; (conv => whnf); (repeat apply Exists.intro); refine And.intro ?_ ?_; exact leOf) | (refine Or.inr ?_; (conv => whnf); (repeat apply Exists.intro); refine And.intro ?_ ?_; exact leOf))))
  all_goals try (conv => whnf)
  refine And.intro (fun h => ?_) (fun h => ?_)
  · have h := of_decide_eq_true h
    repeat (first | ((conv => whnf); refine And.intro ?_ ?_; exact sideOf) | ((conv => whnf); refine And.intro (fun _ => ?_) (fun h => nomatch (show true = false from h))) | ((conv => whnf); refine And.intro (fun h => nomatch (show false = true from h)) (fun _ => ?_)) | ((conv => whnf); first | (apply Exists.intro; (repeat apply Exists.intro); refine And.intro ?_ ?_; exact leOf) | (refine Or.inl ?_; (conv => whnf); (repeat apply Exists.intro); refine And.intro ?_ ?_; exact leOf) | (refine Or.inr ?_; (conv => whnf); first | ((repeat apply Exists.intro); refine And.intro ?_ ?_; exact leOf) | (refine Or.inl ?_; (conv => whnf); (repeat apply Exists.intro); refine And.intro ?_ ?_; exact leOf) | (refine Or.inr ?_; (conv => whnf); (repeat apply Exists.intro); refine And.intro ?_ ?_; exact leOf))))
    all_goals try (conv => whnf)
    refine And.intro (dno (fun h2 => h2 (padL_mid n k h))) (fun _ => ?_)
    repeat (first | ((conv => whnf); refine And.intro ?_ ?_; exact sideOf) | ((conv => whnf); refine And.intro (fun _ => ?_) (fun h => nomatch (show true = false from h))) | ((conv => whnf); refine And.intro (fun h => nomatch (show false = true from h)) (fun _ => ?_)) | ((conv => whnf); first | (apply Exists.intro; (repeat apply Exists.intro); refine And.intro ?_ ?_; exact leOf) | (refine Or.inl ?_; (conv => whnf); (repeat apply Exists.intro); refine And.intro ?_ ?_; exact leOf) | (refine Or.inr ?_; (conv => whnf); first | ((repeat apply Exists.intro); refine And.intro ?_ ?_; exact leOf) | (refine Or.inl ?_; (conv => whnf); (repeat apply Exists.intro); refine And.intro ?_ ?_; exact leOf) | (refine Or.inr ?_; (conv => whnf); (repeat apply Exists.intro); refine And.intro ?_ ?_; exact leOf))))
    all_goals try (conv => whnf)
    refine Again.mk (k + 1 : Nat) (show k + 1 ≤ padZs n by omega) trivial (show padZs n - (k + 1) < padZs n - k by omega) ?_
    ((repeat' ((conv => whnf) <;> first | exact trivial | (with_reducible first | refine And.intro ?_ ?_ | refine rows_lt1 ?_ | refine rows_lt2 ?_ ?_ | refine rows_lt3 ?_ ?_ ?_ | refine rows_lt4 ?_ ?_ ?_ ?_ | refine fun (_ : Nat) => ?_) | refine fun (_ : (_ : Nat) < _) => ?_ | exact rfl | exact Nat.le_of_ble_eq_true rfl | (change (_ : Nat) ≤ _; omega) | (change (_ : Nat) = _; omega) | (change (_ : Int) = _; omega))); (all_goals try (conv => whnf)))
  · have h := of_decide_eq_false h
    repeat (first | ((conv => whnf); refine And.intro ?_ ?_; exact sideOf) | ((conv => whnf); refine And.intro (fun _ => ?_) (fun h => nomatch (show true = false from h))) | ((conv => whnf); refine And.intro (fun h => nomatch (show false = true from h)) (fun _ => ?_)) | ((conv => whnf); first | (apply Exists.intro; (repeat apply Exists.intro); refine And.intro ?_ ?_; exact leOf) | (refine Or.inl ?_; (conv => whnf); (repeat apply Exists.intro); refine And.intro ?_ ?_; exact leOf) | (refine Or.inr ?_; (conv => whnf); first | ((repeat apply Exists.intro); refine And.intro ?_ ?_; exact leOf) | (refine Or.inl ?_; (conv => whnf); (repeat apply Exists.intro); refine And.intro ?_ ?_; exact leOf) | (refine Or.inr ?_; (conv => whnf); (repeat apply Exists.intro); refine And.intro ?_ ?_; exact leOf))))
    all_goals try (conv => whnf)
end Go.Proofs.YtobbphkkebempaaDoor
