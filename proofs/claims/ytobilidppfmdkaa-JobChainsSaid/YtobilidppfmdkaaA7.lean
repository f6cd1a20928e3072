/- AES: what the laws and the reference share. -/
import Derived.Test.YtobilidppfmdkaaA6
namespace Go.Proofs.Ytobilidppfmdkaa
open Go.RowKit
set_option maxRecDepth 100000
set_option maxHeartbeats 20000000
def valN (b : Nat → BitVec 8) : Nat → BitVec 64
  | 0 => 0
  | k + 1 => 256 * valN b k + (b k).setWidth 64
def C_r1_Value : SpecP := fun A K => ∃ l b, A [bsl l b] ∧ N63 l ∧ K (.u64 (valN b l))
def L_r1_Value (l : Nat) (b : Nat → BitVec 8) : LI := .plain Nat (· ≤ l) (fun k => [(3, .u64 (valN b k)), (6, bsl l b), (7, .nat l), (8, .nat k)]) (fun k => l - k)
theorem g_r1_Value : Gd 22 (pureP ty C_r1_Value) := by
  refine goodP (E := PG []) (pgOK trivial) mixes Try.func22 (by kernel_rfl) (by kernel_rfl) ?_
  rintro A K ⟨l, b, hA, hl, hK⟩
  refine ⟨_, _, loops [(3, L_r1_Value l b)], hA, hK, by kernel_rfl, trivial, ?_⟩
  repeat (first | ((conv => whnf); refine And.intro ?_ ?_; exact sideOf) | ((conv => whnf); refine NilE.some ?_ ?_; exact sideOf) | ((conv => whnf); refine And.intro (fun _ => ?_) (fun h => nomatch (show true = false from h))) | ((conv => whnf); refine And.intro (fun h => nomatch (show false = true from h)) (fun _ => ?_)) | ((conv => whnf); first | (apply Exists.intro; (repeat apply Exists.intro); refine And.intro ?_ ?_; exact leOf) | (refine Or.inl ?_; (conv => whnf); (repeat apply Exists.intro); refine And.intro ?_ ?_; exact leOf) | (refine Or.inr ?_; (conv => whnf); first | ((repeat apply Exists.intro); refine And.intro ?_ ?_; exact leOf) | (refine Or.inl ?_; (conv => whnf); (repeat apply Exists.intro); refine And.intro ?_ ?_; exact leOf) | (refine Or.inr ?_; (conv => whnf); (repeat apply Exists.intro); refine And.intro ?_ ?_; exact leOf))))
  all_goals try (conv => whnf)
  refine Exists.intro (fun _ => True) (And.intro (Enter.mk (0 : Nat) (Nat.zero_le l) trivial ?_) (fun (k : Nat) (hk : k ≤ l) _ => ?_))
  · ((repeat' ((conv => whnf) <;> first | exact trivial | (with_reducible first | refine And.intro ?_ ?_ | refine rows_lt1 ?_ | refine rows_lt2 ?_ ?_ | refine rows_lt3 ?_ ?_ ?_ | refine rows_lt4 ?_ ?_ ?_ ?_ | refine rows_lt5 ?_ ?_ ?_ ?_ ?_ | refine aggs_lt1 ?_ | refine aggs_lt2 ?_ ?_ | refine aggs_lt3 ?_ ?_ ?_ | refine fun (_ : Nat) => ?_) | refine fun (_ : (_ : Nat) < _) => ?_ | exact rfl | exact Nat.le_of_ble_eq_true rfl | (change (_ : Nat) ≤ _; omega) | (change (_ : Nat) = _; omega) | (change (_ : Int) = _; omega))); (all_goals try (conv => whnf)))
  repeat (first | ((conv => whnf); refine And.intro ?_ ?_; exact sideOf) | ((conv => whnf); refine NilE.some ?_ ?_; exact sideOf) | ((conv => whnf); refine And.intro (fun _ => ?_) (fun h => nomatch (show true = false from h))) | ((conv => whnf); refine And.intro (fun h => nomatch (show false = true from h)) (fun _ => ?_)) | ((conv => whnf); first | (apply Exists.intro; (repeat apply Exists.intro); refine And.intro ?_ ?_; exact leOf) | (refine Or.inl ?_; (conv => whnf); (repeat apply Exists.intro); refine And.intro ?_ ?_; exact leOf) | (refine Or.inr ?_; (conv => whnf); first | ((repeat apply Exists.intro); refine And.intro ?_ ?_; exact leOf) | (refine Or.inl ?_; (conv => whnf); (repeat apply Exists.intro); refine And.intro ?_ ?_; exact leOf) | (refine Or.inr ?_; (conv => whnf); (repeat apply Exists.intro); refine And.intro ?_ ?_; exact leOf))))
  all_goals try (conv => whnf)
  refine And.intro (fun h => ?_) (fun h => ?_)
  · have h := of_decide_eq_true h
    unfold N63 at hl
    repeat (first | ((conv => whnf); refine And.intro ?_ ?_; exact sideOf) | ((conv => whnf); refine NilE.some ?_ ?_; exact sideOf) | ((conv => whnf); refine And.intro (fun _ => ?_) (fun h => nomatch (show true = false from h))) | ((conv => whnf); refine And.intro (fun h => nomatch (show false = true from h)) (fun _ => ?_)) | ((conv => whnf); first | (apply Exists.intro; (repeat apply Exists.intro); refine And.intro ?_ ?_; exact leOf) | (refine Or.inl ?_; (conv => whnf); (repeat apply Exists.intro); refine And.intro ?_ ?_; exact leOf) | (refine Or.inr ?_; (conv => whnf); first | ((repeat apply Exists.intro); refine And.intro ?_ ?_; exact leOf) | (refine Or.inl ?_; (conv => whnf); (repeat apply Exists.intro); refine And.intro ?_ ?_; exact leOf) | (refine Or.inr ?_; (conv => whnf); (repeat apply Exists.intro); refine And.intro ?_ ?_; exact leOf))))
    all_goals try (conv => whnf)
    refine Again.mk (k + 1 : Nat) (show k + 1 ≤ l by omega) trivial (show l - (k + 1) < l - k by omega) ?_
    ((repeat' ((conv => whnf) <;> first | exact trivial | (with_reducible first | refine And.intro ?_ ?_ | refine rows_lt1 ?_ | refine rows_lt2 ?_ ?_ | refine rows_lt3 ?_ ?_ ?_ | refine rows_lt4 ?_ ?_ ?_ ?_ | refine rows_lt5 ?_ ?_ ?_ ?_ ?_ | refine aggs_lt1 ?_ | refine aggs_lt2 ?_ ?_ | refine aggs_lt3 ?_ ?_ ?_ | refine fun (_ : Nat) => ?_) | refine fun (_ : (_ : Nat) < _) => ?_ | exact rfl | exact Nat.le_of_ble_eq_true rfl | (change (_ : Nat) ≤ _; omega) | (change (_ : Nat) = _; omega) | (change (_ : Int) = _; omega))); (all_goals try (conv => whnf)))
  · have h := of_decide_eq_false h
    obtain rfl : k = l := by omega
    repeat (first | ((conv => whnf); refine And.intro ?_ ?_; exact sideOf) | ((conv => whnf); refine NilE.some ?_ ?_; exact sideOf) | ((conv => whnf); refine And.intro (fun _ => ?_) (fun h => nomatch (show true = false from h))) | ((conv => whnf); refine And.intro (fun h => nomatch (show false = true from h)) (fun _ => ?_)) | ((conv => whnf); first | (apply Exists.intro; (repeat apply Exists.intro); refine And.intro ?_ ?_; exact leOf) | (refine Or.inl ?_; (conv => whnf); (repeat apply Exists.intro); refine And.intro ?_ ?_; exact leOf) | (refine Or.inr ?_; (conv => whnf); first | ((repeat apply Exists.intro); refine And.intro ?_ ?_; exact leOf) | (refine Or.inl ?_; (conv => whnf); (repeat apply Exists.intro); refine And.intro ?_ ?_; exact leOf) | (refine Or.inr ?_; (conv => whnf); (repeat apply Exists.intro); refine And.intro ?_ ?_; exact leOf))))
    all_goals try (conv => whnf)
theorem snoc_at {b : Nat → BitVec 8} {v : BitVec 8} {a x : Nat} (hv : v = b a) (hx : x < a + 1) : (if x < a then b x else asU8 (litA (.int .u8) [(0, .u8 v)] (x - a))) = b x := by
  by_cases h : x < a
  · rw [if_pos h]
  · rw [if_neg h, show x - a = 0 by omega, show x = a by omega]; exact hv
def C_r1_Cut : SpecR := fun A K => ∃ l b n, A [bsl l b, .nat n] ∧ l ≤ maxLen ∧ (l ≤ 1000000000 ∨ n ≤ 1000000000) ∧ K (.gsl 5 8 (min l n)) [(8, .grow 5 (min l n) (bys b))]
def L_r1_Cut (l : Nat) (b : Nat → BitVec 8) (n : Nat) : LI := ⟨Nat, (· ≤ l), fun k => [(1, .nat n), (5, .gsl 5 8 (min k n)), (8, bsl l b), (9, .nat l), (10, .nat k)], fun k => [(8, .grow 5 (min k n) (bys b))], fun k => l - k, noK, some⟩
theorem g_r1_Cut : Gd 7 (pureR ty C_r1_Cut) := by
  refine goodR (E := PG []) (pgOK trivial) mixes Try.func7 (by kernel_rfl) (by kernel_rfl) ?_
  rintro A K ⟨l, b, n, hA, hl, hln, hK⟩
  unfold maxLen at hl
  refine ⟨_, _, _, loops [(3, L_r1_Cut l b n)], hA, hK, by kernel_rfl, by kernel_rfl, ⟨fun _ _ => trivial, trivial⟩, trivial, ?_⟩
  repeat (first | ((conv => whnf); refine And.intro ?_ ?_; exact sideOf) | ((conv => whnf); refine NilE.some ?_ ?_; exact sideOf) | ((conv => whnf); refine And.intro (fun _ => ?_) (fun h => nomatch (show true = false from h))) | ((conv => whnf); refine And.intro (fun h => nomatch (show false = true from h)) (fun _ => ?_)) | ((conv => whnf); first | (apply Exists.intro; (repeat apply Exists.intro); refine And.intro ?_ ?_; exact leOf) | (refine Or.inl ?_; (conv => whnf); (repeat apply Exists.intro); refine And.intro ?_ ?_; exact leOf) | (refine Or.inr ?_; (conv => whnf); first | ((repeat apply Exists.intro); refine And.intro ?_ ?_; exact leOf) | (refine Or.inl ?_; (conv => whnf); (repeat apply Exists.intro); refine And.intro ?_ ?_; exact leOf) | (refine Or.inr ?_; (conv => whnf); (repeat apply Exists.intro); refine And.intro ?_ ?_; exact leOf))))
  all_goals try (conv => whnf)
  refine Exists.intro (fun _ => True) (And.intro (Enter.mk (0 : Nat) (Nat.zero_le l) trivial ?_) (fun (k : Nat) (hk : k ≤ l) _ => ?_))
  · ((repeat' ((conv => whnf) <;> first | exact trivial | (with_reducible first | refine And.intro ?_ ?_ | refine rows_lt1 ?_ | refine rows_lt2 ?_ ?_ | refine rows_lt3 ?_ ?_ ?_ | refine rows_lt4 ?_ ?_ ?_ ?_ | refine rows_lt5 ?_ ?_ ?_ ?_ ?_ | refine aggs_lt1 ?_ | refine aggs_lt2 ?_ ?_ | refine aggs_lt3 ?_ ?_ ?_ | refine fun (_ : Nat) => ?_) | refine fun (_ : (_ : Nat) < _) => ?_ | exact rfl | exact Nat.le_of_ble_eq_true rfl | (change (_ : Nat) ≤ _; omega) | (change (_ : Nat) = _; omega) | (change (_ : Int) = _; omega))); (all_goals try (conv => whnf)))
  repeat (first | ((conv => whnf); refine And.intro ?_ ?_; exact sideOf) | ((conv => whnf); refine NilE.some ?_ ?_; exact sideOf) | ((conv => whnf); refine And.intro (fun _ => ?_) (fun h => nomatch (show true = false from h))) | ((conv => whnf); refine And.intro (fun h => nomatch (show false = true from h)) (fun _ => ?_)) | ((conv => whnf); first | (apply Exists.intro; (repeat apply Exists.intro); refine And.intro ?_ ?_; exact leOf) | (refine Or.inl ?_; (conv => whnf); (repeat apply Exists.intro); refine And.intro ?_ ?_; exact leOf) | (refine Or.inr ?_; (conv => whnf); first | ((repeat apply Exists.intro); refine And.intro ?_ ?_; exact leOf) | (refine Or.inl ?_; (conv => whnf); (repeat apply Exists.intro); refine And.intro ?_ ?_; exact leOf) | (refine Or.inr ?_; (conv => whnf); (repeat apply Exists.intro); refine And.intro ?_ ?_; exact leOf))))
  all_goals try (conv => whnf)
  refine And.intro (fun h => ?_) (fun h => ?_)
  · have h := of_decide_eq_true h
    repeat (first | ((conv => whnf); refine And.intro ?_ ?_; exact sideOf) | ((conv => whnf); refine NilE.some ?_ ?_; exact sideOf) | ((conv => whnf); refine And.intro (fun _ => ?_) (fun h => nomatch (show true = false from h))) | ((conv => whnf); refine And.intro (fun h => nomatch (show false = true from h)) (fun _ => ?_)) | ((conv => whnf); first | (apply Exists.intro; (repeat apply Exists.intro); refine And.intro ?_ ?_; exact leOf) | (refine Or.inl ?_; (conv => whnf); (repeat apply Exists.intro); refine And.intro ?_ ?_; exact leOf) | (refine Or.inr ?_; (conv => whnf); first | ((repeat apply Exists.intro); refine And.intro ?_ ?_; exact leOf) | (refine Or.inl ?_; (conv => whnf); (repeat apply Exists.intro); refine And.intro ?_ ?_; exact leOf) | (refine Or.inr ?_; (conv => whnf); (repeat apply Exists.intro); refine And.intro ?_ ?_; exact leOf))))
    all_goals try (conv => whnf)
    refine And.intro (fun h2 => ?_) (fun h2 => ?_)
    · have h2 := of_decide_eq_true h2
      repeat (first | ((conv => whnf); refine And.intro ?_ ?_; exact sideOf) | ((conv => whnf); refine NilE.some ?_ ?_; exact sideOf) | ((conv => whnf); refine And.intro (fun _ => ?_) (fun h => nomatch (show true = false from h))) | ((conv => whnf); refine And.intro (fun h => nomatch (show false = true from h)) (fun _ => ?_)) | ((conv => whnf); first | (apply Exists.intro; (repeat apply Exists.intro); refine And.intro ?_ ?_; exact leOf) | (refine Or.inl ?_; (conv => whnf); (repeat apply Exists.intro); refine And.intro ?_ ?_; exact leOf) | (refine Or.inr ?_; (conv => whnf); first | ((repeat apply Exists.intro); refine And.intro ?_ ?_; exact leOf) | (refine Or.inl ?_; (conv => whnf); (repeat apply Exists.intro); refine And.intro ?_ ?_; exact leOf) | (refine Or.inr ?_; (conv => whnf); (repeat apply Exists.intro); refine And.intro ?_ ?_; exact leOf))))
      all_goals try (conv => whnf)
      refine Again.mk (k + 1 : Nat) (show k + 1 ≤ l by omega) trivial (show l - (k + 1) < l - k by omega) ?_
      ((repeat' ((conv => whnf) <;> first | exact trivial | (with_reducible first | refine And.intro ?_ ?_ | refine rows_lt1 ?_ | refine rows_lt2 ?_ ?_ | refine rows_lt3 ?_ ?_ ?_ | refine rows_lt4 ?_ ?_ ?_ ?_ | refine rows_lt5 ?_ ?_ ?_ ?_ ?_ | refine aggs_lt1 ?_ | refine aggs_lt2 ?_ ?_ | refine aggs_lt3 ?_ ?_ ?_ | refine fun (_ : Nat) => ?_) | refine fun (_ : (_ : Nat) < _) => ?_ | exact rfl | exact Nat.le_of_ble_eq_true rfl | (change (_ : Nat) ≤ _; omega) | (change (_ : Nat) = _; omega) | (change (_ : Int) = _; omega))); (all_goals try (conv => whnf)))
      rename_i j hj
      exact snoc_at (a := min k n) (by congr 1; omega) hj
    · have h2 := of_decide_eq_false h2
      repeat (first | ((conv => whnf); refine And.intro ?_ ?_; exact sideOf) | ((conv => whnf); refine NilE.some ?_ ?_; exact sideOf) | ((conv => whnf); refine And.intro (fun _ => ?_) (fun h => nomatch (show true = false from h))) | ((conv => whnf); refine And.intro (fun h => nomatch (show false = true from h)) (fun _ => ?_)) | ((conv => whnf); first | (apply Exists.intro; (repeat apply Exists.intro); refine And.intro ?_ ?_; exact leOf) | (refine Or.inl ?_; (conv => whnf); (repeat apply Exists.intro); refine And.intro ?_ ?_; exact leOf) | (refine Or.inr ?_; (conv => whnf); first | ((repeat apply Exists.intro); refine And.intro ?_ ?_; exact leOf) | (refine Or.inl ?_; (conv => whnf); (repeat apply Exists.intro); refine And.intro ?_ ?_; exact leOf) | (refine Or.inr ?_; (conv => whnf); (repeat apply Exists.intro); refine And.intro ?_ ?_; exact leOf))))
      all_goals try (conv => whnf)
      refine Again.mk (k + 1 : Nat) (show k + 1 ≤ l by omega) trivial (show l - (k + 1) < l - k by omega) ?_
      ((repeat' ((conv => whnf) <;> first | exact trivial | (with_reducible first | refine And.intro ?_ ?_ | refine rows_lt1 ?_ | refine rows_lt2 ?_ ?_ | refine rows_lt3 ?_ ?_ ?_ | refine rows_lt4 ?_ ?_ ?_ ?_ | refine rows_lt5 ?_ ?_ ?_ ?_ ?_ | refine aggs_lt1 ?_ | refine aggs_lt2 ?_ ?_ | refine aggs_lt3 ?_ ?_ ?_ | refine fun (_ : Nat) => ?_) | refine fun (_ : (_ : Nat) < _) => ?_ | exact rfl | exact Nat.le_of_ble_eq_true rfl | (change (_ : Nat) ≤ _; omega) | (change (_ : Nat) = _; omega) | (change (_ : Int) = _; omega))); (all_goals try (conv => whnf)))
  · have h := of_decide_eq_false h
    obtain rfl : k = l := by omega
    repeat (first | ((conv => whnf); refine And.intro ?_ ?_; exact sideOf) | ((conv => whnf); refine NilE.some ?_ ?_; exact sideOf) | ((conv => whnf); refine And.intro (fun _ => ?_) (fun h => nomatch (show true = false from h))) | ((conv => whnf); refine And.intro (fun h => nomatch (show false = true from h)) (fun _ => ?_)) | ((conv => whnf); first | (apply Exists.intro; (repeat apply Exists.intro); refine And.intro ?_ ?_; exact leOf) | (refine Or.inl ?_; (conv => whnf); (repeat apply Exists.intro); refine And.intro ?_ ?_; exact leOf) | (refine Or.inr ?_; (conv => whnf); first | ((repeat apply Exists.intro); refine And.intro ?_ ?_; exact leOf) | (refine Or.inl ?_; (conv => whnf); (repeat apply Exists.intro); refine And.intro ?_ ?_; exact leOf) | (refine Or.inr ?_; (conv => whnf); (repeat apply Exists.intro); refine And.intro ?_ ?_; exact leOf))))
    all_goals try (conv => whnf)
    refine ⟨some, ?_⟩
    ((repeat' ((conv => whnf) <;> first | exact trivial | (with_reducible first | refine And.intro ?_ ?_ | refine rows_lt1 ?_ | refine rows_lt2 ?_ ?_ | refine rows_lt3 ?_ ?_ ?_ | refine rows_lt4 ?_ ?_ ?_ ?_ | refine rows_lt5 ?_ ?_ ?_ ?_ ?_ | refine aggs_lt1 ?_ | refine aggs_lt2 ?_ ?_ | refine aggs_lt3 ?_ ?_ ?_ | refine fun (_ : Nat) => ?_) | refine fun (_ : (_ : Nat) < _) => ?_ | exact rfl | exact Nat.le_of_ble_eq_true rfl | (change (_ : Nat) ≤ _; omega) | (change (_ : Nat) = _; omega) | (change (_ : Int) = _; omega))); (all_goals try (conv => whnf)))
def hxs : List UInt8 := [48, 49, 50, 51, 52, 53, 54, 55, 56, 57, 97, 98, 99, 100, 101, 102]
theorem hx_dig (n : Nat) (h : n < 16) : (hxs.take (n + 1)).drop n = [hexd n] := by
  have : ∀ n : Fin 16, (hxs.take (n.val + 1)).drop n.val = [hexd n.val] := by decide
  exact this ⟨n, h⟩
theorem hex_div (v : BitVec 8) : (v / BitVec.ofInt 8 16).toNat = v.toNat / 16 ∧ (v / BitVec.ofInt 8 16 + BitVec.ofInt 8 1).toNat = v.toNat / 16 + 1 ∧ (v % BitVec.ofInt 8 16).toNat = v.toNat % 16 ∧ (v % BitVec.ofInt 8 16 + BitVec.ofInt 8 1).toNat = v.toNat % 16 + 1 := by
  have hv := v.isLt
  have e1 : (v / BitVec.ofInt 8 16).toNat = v.toNat / 16 := by rw [BitVec.toNat_udiv]; rfl
  have e2 : (v % BitVec.ofInt 8 16).toNat = v.toNat % 16 := by rw [BitVec.toNat_umod]; rfl
  refine ⟨e1, ?_, e2, ?_⟩
  · rw [BitVec.toNat_add, e1]; simp only [BitVec.reduceOfInt, BitVec.reduceToNat]; omega
  · rw [BitVec.toNat_add, e2]; simp only [BitVec.reduceOfInt, BitVec.reduceToNat]; omega
theorem lw_succ {α : Type} (k : Nat) (f : Nat → α) : lw (k + 1) f = lw k f ++ [f k] := by simp [lw, List.range_succ]
theorem hexL_succ (b : Nat → BitVec 8) (k : Nat) : hexL (lw k b) ++ ((hxs.take ((b k).toNat / 16 + 1)).drop ((b k).toNat / 16) ++ (hxs.take ((b k).toNat % 16 + 1)).drop ((b k).toNat % 16)) = hexL (lw (k + 1) b) := by
  have hv := (b k).isLt
  rw [hx_dig _ (by omega), hx_dig _ (by omega), lw_succ]
  simp [hexL]
def C_r1_Hex : SpecP := fun A K => ∃ l b, A [bsl l b] ∧ l ≤ 1000000 ∧ K (.str (hexL (lw l b)))
def L_r1_Hex (l : Nat) (b : Nat → BitVec 8) : LI := .plain Nat (· ≤ l) (fun k => [(3, .str (hexL (lw k b))), (6, bsl l b), (7, .nat l), (8, .nat k)]) (fun k => l - k)
theorem g_r1_Hex : Gd 17 (pureP ty C_r1_Hex) := by
  refine goodP (E := PG []) (pgOK trivial) mixes Try.func17 (by kernel_rfl) (by kernel_rfl) ?_
  rintro A K ⟨l, b, hA, hl, hK⟩
  refine ⟨_, _, loops [(3, L_r1_Hex l b)], hA, hK, by kernel_rfl, trivial, ?_⟩
  repeat (first | ((conv => whnf); refine And.intro ?_ ?_; exact sideOf) | ((conv => whnf); refine NilE.some ?_ ?_; exact sideOf) | ((conv => whnf); refine And.intro (fun _ => ?_) (fun h => nomatch (show true = false from h))) | ((conv => whnf); refine And.intro (fun h => nomatch (show false = true from h)) (fun _ => ?_)) | ((conv => whnf); first | (apply Exists.intro; (repeat apply Exists.intro); refine And.intro ?_ ?_; exact leOf) | (refine Or.inl ?_; (conv => whnf); (repeat apply Exists.intro); refine And.intro ?_ ?_; exact leOf) | (refine Or.inr ?_; (conv => whnf); first | ((repeat apply Exists.intro); refine And.intro ?_ ?_; exact leOf) | (refine Or.inl ?_; (conv => whnf); (repeat apply Exists.intro); refine And.intro ?_ ?_; exact leOf) | (refine Or.inr ?_; (conv => whnf); (repeat apply Exists.intro); refine And.intro ?_ ?_; exact leOf))))
  all_goals try (conv => whnf)
  refine Exists.intro (fun _ => True) (And.intro (Enter.mk (0 : Nat) (Nat.zero_le l) trivial ?_) (fun (k : Nat) (hk : k ≤ l) _ => ?_))
  · ((repeat' ((conv => whnf) <;> first | exact trivial | (with_reducible first | refine And.intro ?_ ?_ | refine rows_lt1 ?_ | refine rows_lt2 ?_ ?_ | refine rows_lt3 ?_ ?_ ?_ | refine rows_lt4 ?_ ?_ ?_ ?_ | refine rows_lt5 ?_ ?_ ?_ ?_ ?_ | refine aggs_lt1 ?_ | refine aggs_lt2 ?_ ?_ | refine aggs_lt3 ?_ ?_ ?_ | refine fun (_ : Nat) => ?_) | refine fun (_ : (_ : Nat) < _) => ?_ | exact rfl | exact Nat.le_of_ble_eq_true rfl | (change (_ : Nat) ≤ _; omega) | (change (_ : Nat) = _; omega) | (change (_ : Int) = _; omega))); (all_goals try (conv => whnf)))
  repeat (first | ((conv => whnf); refine And.intro ?_ ?_; exact sideOf) | ((conv => whnf); refine NilE.some ?_ ?_; exact sideOf) | ((conv => whnf); refine And.intro (fun _ => ?_) (fun h => nomatch (show true = false from h))) | ((conv => whnf); refine And.intro (fun h => nomatch (show false = true from h)) (fun _ => ?_)) | ((conv => whnf); first | (apply Exists.intro; (repeat apply Exists.intro); refine And.intro ?_ ?_; exact leOf) | (refine Or.inl ?_; (conv => whnf); (repeat apply Exists.intro); refine And.intro ?_ ?_; exact leOf) | (refine Or.inr ?_; (conv => whnf); first | ((repeat apply Exists.intro); refine And.intro ?_ ?_; exact leOf) | (refine Or.inl ?_; (conv => whnf); (repeat apply Exists.intro); refine And.intro ?_ ?_; exact leOf) | (refine Or.inr ?_; (conv => whnf); (repeat apply Exists.intro); refine And.intro ?_ ?_; exact leOf))))
  all_goals try (conv => whnf)
  refine And.intro (fun h => ?_) (fun h => ?_)
  · have h := of_decide_eq_true h
    obtain ⟨e1, e2, e3, e4⟩ := hex_div (b k)
    have hv := (b k).isLt
    have es : (({ data := #[48, 49, 50, 51, 52, 53, 54, 55, 56, 57, 97, 98, 99, 100, 101, 102] } : ByteArray).data.toList).length = 16 := rfl
    have d1 : (List.drop (b k / BitVec.ofInt 8 16).toNat (List.take (b k / BitVec.ofInt 8 16 + BitVec.ofInt 8 1).toNat ({ data := #[48, 49, 50, 51, 52, 53, 54, 55, 56, 57, 97, 98, 99, 100, 101, 102] } : ByteArray).data.toList)).length = 1 := by
      rw [List.length_drop, List.length_take, es]; omega
    have d2 : (List.drop (b k % BitVec.ofInt 8 16).toNat (List.take (b k % BitVec.ofInt 8 16 + BitVec.ofInt 8 1).toNat ({ data := #[48, 49, 50, 51, 52, 53, 54, 55, 56, 57, 97, 98, 99, 100, 101, 102] } : ByteArray).data.toList)).length = 1 := by
      rw [List.length_drop, List.length_take, es]; omega
    have hh := hexL_len (lw k b)
    rw [lw_len] at hh
    have d3 : (List.drop (b k / BitVec.ofInt 8 16).toNat (List.take (b k / BitVec.ofInt 8 16 + BitVec.ofInt 8 1).toNat ({ data := #[48, 49, 50, 51, 52, 53, 54, 55, 56, 57, 97, 98, 99, 100, 101, 102] } : ByteArray).data.toList) ++ List.drop (b k % BitVec.ofInt 8 16).toNat (List.take (b k % BitVec.ofInt 8 16 + BitVec.ofInt 8 1).toNat ({ data := #[48, 49, 50, 51, 52, 53, 54, 55, 56, 57, 97, 98, 99, 100, 101, 102] } : ByteArray).data.toList)).length = 2 := by
      rw [List.length_append, d1, d2]
    repeat (first | ((conv => whnf); refine And.intro ?_ ?_; exact sideOf) | ((conv => whnf); refine NilE.some ?_ ?_; exact sideOf) | ((conv => whnf); refine And.intro (fun _ => ?_) (fun h => nomatch (show true = false from h))) | ((conv => whnf); refine And.intro (fun h => nomatch (show false = true from h)) (fun _ => ?_)) | ((conv => whnf); first | (apply Exists.intro; (repeat apply Exists.intro); refine And.intro ?_ ?_; exact leOf) | (refine Or.inl ?_; (conv => whnf); (repeat apply Exists.intro); refine And.intro ?_ ?_; exact leOf) | (refine Or.inr ?_; (conv => whnf); first | ((repeat apply Exists.intro); refine And.intro ?_ ?_; exact leOf) | (refine Or.inl ?_; (conv => whnf); (repeat apply Exists.intro); refine And.intro ?_ ?_; exact leOf) | (refine Or.inr ?_; (conv => whnf); (repeat apply Exists.intro); refine And.intro ?_ ?_; exact leOf))))
    all_goals try (conv => whnf)
    refine Again.mk (k + 1 : Nat) (show k + 1 ≤ l by omega) trivial (show l - (k + 1) < l - k by omega) ?_
    ((repeat' ((conv => whnf) <;> first | exact trivial | (with_reducible first | refine And.intro ?_ ?_ | refine rows_lt1 ?_ | refine rows_lt2 ?_ ?_ | refine rows_lt3 ?_ ?_ ?_ | refine rows_lt4 ?_ ?_ ?_ ?_ | refine rows_lt5 ?_ ?_ ?_ ?_ ?_ | refine aggs_lt1 ?_ | refine aggs_lt2 ?_ ?_ | refine aggs_lt3 ?_ ?_ ?_ | refine fun (_ : Nat) => ?_) | refine fun (_ : (_ : Nat) < _) => ?_ | exact rfl | exact Nat.le_of_ble_eq_true rfl | (change (_ : Nat) ≤ _; omega) | (change (_ : Nat) = _; omega) | (change (_ : Int) = _; omega))); (all_goals try (conv => whnf)))
    rw [e1, e2, e3, e4]
    exact hexL_succ b k
  · have h := of_decide_eq_false h
    obtain rfl : k = l := by omega
    repeat (first | ((conv => whnf); refine And.intro ?_ ?_; exact sideOf) | ((conv => whnf); refine NilE.some ?_ ?_; exact sideOf) | ((conv => whnf); refine And.intro (fun _ => ?_) (fun h => nomatch (show true = false from h))) | ((conv => whnf); refine And.intro (fun h => nomatch (show false = true from h)) (fun _ => ?_)) | ((conv => whnf); first | (apply Exists.intro; (repeat apply Exists.intro); refine And.intro ?_ ?_; exact leOf) | (refine Or.inl ?_; (conv => whnf); (repeat apply Exists.intro); refine And.intro ?_ ?_; exact leOf) | (refine Or.inr ?_; (conv => whnf); first | ((repeat apply Exists.intro); refine And.intro ?_ ?_; exact leOf) | (refine Or.inl ?_; (conv => whnf); (repeat apply Exists.intro); refine And.intro ?_ ?_; exact leOf) | (refine Or.inr ?_; (conv => whnf); (repeat apply Exists.intro); refine And.intro ?_ ?_; exact leOf))))
    all_goals try (conv => whnf)

def C_l3_key : SpecP := fun A K => ∃ p u, A [arr8 32 p, .bo u] ∧ K (bsf (if u then 32 else 16) p)
def C_aes_New4 : SpecP := fun A K => ∃ b, A [bsl 16 b] ∧ K (tupOf [kyA 10 (at32 (ksch 4 b)), .nat 0])
def C_aes_New8 : SpecP := fun A K => ∃ b, A [bsl 32 b] ∧ K (tupOf [kyA 14 (at32 (ksch 8 b)), .nat 0])
/-! ### The example -/
def exK : List (BitVec 32) := [66051, 67438087, 134810123, 202182159, 3601495293, 3534713594, 3668343025, 3601561342, 3063074571, 1681767921, 3197879552, 1748022270, 3070194766, 3535980991, 1817775295, 74039105, 1207433148, 2503294467, 4184617660, 4244999677, 1017816040, 2845810155, 1358147415, 2918589098, 1580797821, 4154888854, 2807381441, 178462571, 351891482, 3814711948, 1141563213, 1319747622, 1195607861, 2753324473, 3759586036, 2931784402, 1419326161, 4035270504, 278130076, 3190593358, 319888767, 3818146327, 4077365131, 1294676165]
def exS (i : Nat) : List (BitVec 8) := nth [] [[0, 16, 32, 48, 64, 80, 96, 112, 128, 144, 160, 176, 192, 208, 224, 240],
  [137, 216, 16, 232, 133, 90, 206, 104, 45, 24, 67, 216, 203, 18, 143, 228],
  [73, 21, 89, 143, 85, 229, 215, 160, 218, 202, 148, 250, 31, 10, 99, 247],
  [250, 99, 106, 40, 37, 179, 57, 201, 64, 102, 138, 49, 87, 36, 77, 23],
  [36, 114, 64, 35, 105, 102, 179, 250, 110, 210, 117, 50, 136, 66, 91, 108],
  [200, 22, 119, 188, 155, 122, 201, 59, 37, 2, 121, 146, 176, 38, 25, 150],
  [198, 47, 225, 9, 247, 94, 237, 195, 204, 121, 57, 93, 132, 249, 207, 93],
  [209, 135, 108, 15, 121, 196, 48, 10, 180, 85, 148, 173, 214, 111, 244, 31],
  [253, 227, 186, 210, 5, 229, 208, 215, 53, 71, 150, 78, 241, 254, 55, 241],
  [189, 110, 124, 61, 242, 181, 119, 158, 11, 97, 33, 110, 139, 16, 182, 137]] i
def exC : List (BitVec 8) := [105, 196, 224, 216, 106, 123, 4, 48, 216, 205, 183, 128, 112, 180, 197, 90]
theorem exK_eq : ksch 4 (fun j => BitVec.ofNat 8 j) = exK := by decide +kernel
theorem exS_zero : ∀ j : Fin 16, mkB (at32 exK) 0 (fun j => BitVec.ofNat 8 (17 * j)) j.val = at8 (exS 0) j.val := by decide +kernel
theorem exS_step : ∀ (i : Fin 9) (j : Fin 16), mkB (at32 exK) (i.val + 1) (miB gE (shB 1 (suB sbN (at8 (exS i.val))))) j.val = at8 (exS (i.val + 1)) j.val := by decide +kernel
theorem exS_end : ∀ j : Fin 16, mkB (at32 exK) 10 (shB 1 (suB sbN (at8 (exS 9)))) j.val = at8 exC j.val := by decide +kernel
theorem ex_eS : ∀ i, i ≤ 9 → q16 (eS (at32 exK) (fun j => BitVec.ofNat 8 (17 * j)) i) (at8 (exS i))
  | 0, _ => fun j hj => exS_zero ⟨j, hj⟩
  | i + 1, h => q16_trans (mkB_c (miB_c (fun _ _ => rfl) (shB_c (suB_c (ex_eS i (by omega)))))) (fun j hj => exS_step ⟨i, by omega⟩ ⟨j, hj⟩)
theorem ex_enc : q16 (enc 10 (at32 exK) (fun j => BitVec.ofNat 8 (17 * j))) (at8 exC) :=
  q16_trans (mkB_c (shB_c (suB_c (ex_eS 9 (by omega))))) (fun j hj => exS_end ⟨j, hj⟩)
end Go.Proofs.Ytobilidppfmdkaa
