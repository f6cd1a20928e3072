/- Digits; the first law's example. -/
import Derived.Test.YtjhcehfliacjeaaDoorP7
namespace Go.Proofs.YtjhcehfliacjeaaDoor
open Go.RowKit
set_option maxRecDepth 100000
set_option maxHeartbeats 20000000
def hxs : List UInt8 := [48, 49, 50, 51, 52, 53, 54, 55, 56, 57, 97, 98, 99, 100, 101, 102]
theorem hx_dig (n : Nat) (h : n < 16) : (hxs.take (n + 1)).drop n = [hexd n] := by
  have : ∀ n : Fin 16, (hxs.take (n.val + 1)).drop n.val = [hexd n.val] := by decide
  exact this ⟨n, h⟩
theorem hex_div (v : BitVec 8) : (v / BitVec.ofInt 8 16).toNat = v.toNat / 16 ∧ (v / BitVec.ofInt 8 16 + BitVec.ofInt 8 1).toNat = v.toNat / 16 + 1 ∧ (v % BitVec.ofInt 8 16).toNat = v.toNat % 16 ∧ (v % BitVec.ofInt 8 16 + BitVec.ofInt 8 1).toNat = v.toNat % 16 + 1 := by
  have hv := v.isLt
  have e1 : (v / BitVec.ofInt 8 16).toNat = v.toNat / 16 := by rw [BitVec.toNat_udiv]; rfl
  have e2 : (v % BitVec.ofInt 8 16).toNat = v.toNat % 16 := by rw [BitVec.toNat_umod]; rfl
  refine ⟨e1, ?_, e2, ?_⟩
  · rw [BitVec.toNat_add, e1]; simp only [BitVec.reduceOfInt, BitVec.reduceToNat]; omega
  · rw [BitVec.toNat_add, e2]; simp only [BitVec.reduceOfInt, BitVec.reduceToNat]; omega
theorem lw_succ {α : Type} (k : Nat) (f : Nat → α) : lw (k + 1) f = lw k f ++ [f k] := by simp [lw, List.range_succ]
theorem hexL_succ (b : Nat → BitVec 8) (k : Nat) : hexL (lw k b) ++ ((hxs.take ((b k).toNat / 16 + 1)).drop ((b k).toNat / 16) ++ (hxs.take ((b k).toNat % 16 + 1)).drop ((b k).toNat % 16)) = hexL (lw (k + 1) b) := by
  have hv := (b k).isLt
  rw [hx_dig _ (by omega), hx_dig _ (by omega), lw_succ]
  simp [hexL]
def C_r1_Hex : SpecP := fun A K => ∃ l b, A [bsl l b] ∧ l ≤ 1000000 ∧ K (.str (hexL (lw l b)))
def L_r1_Hex (l : Nat) (b : Nat → BitVec 8) : LI := .plain Nat (· ≤ l) (fun k => [(3, .str (hexL (lw k b))), (6, bsl l b), (7, .nat l), (8, .nat k)]) (fun k => l - k)
theorem g_r1_Hex : Gd 21 (pureP ty C_r1_Hex) := by
  refine goodP (E := PG []) (pgOK trivial) mixes Tryd.func21 (by kernel_rfl) (by kernel_rfl) ?_
  rintro A K ⟨l, b, hA, hl, hK⟩
  refine ⟨_, _, loops [(3, L_r1_Hex l b)], hA, hK, by kernel_rfl, trivial, ?_⟩
  repeat (first | ((conv => whnf); refine And.intro ?_ ?_; exact sideOf) | ((conv => whnf); refine NilE.some ?_ ?_; exact sideOf) | ((conv => whnf); refine And.intro (fun _ => ?_) (fun h => nomatch (show true = false from h))) | ((conv => whnf); refine And.intro (fun h => nomatch (show false = true from h)) (fun _ => ?_)) | ((conv => whnf); first | (apply Exists.intro; (repeat apply Exists.intro); refine And.intro ?_ ?_; exact leOf) | (refine Or.inl ?_; (conv => whnf); (repeat apply Exists.intro); refine And.intro ?_ ?_; exact leOf) | (refine Or.inr ?_; (conv => whnf); first | ((repeat apply Exists.intro); refine And.intro ?_ ?_; exact leOf) | (refine Or.inl ?_; (conv => whnf); (repeat apply Exists.intro); refine And.intro ?_ ?_; exact leOf) | (refine Or.inr ?_; (conv => whnf); (repeat apply Exists.intro); refine And.intro ?_ ?_; exact leOf))))
  all_goals try (conv => whnf)
  refine Exists.intro (fun _ => True) (And.intro (Enter.mk (0 : Nat) (Nat.zero_le l) trivial ?_) (fun (k : Nat) (hk : k ≤ l) _ => ?_))
  · ((repeat' ((conv => whnf) <;> first | exact trivial | (with_reducible first | refine And.intro ?_ ?_ | refine rows_lt1 ?_ | refine rows_lt2 ?_ ?_ | refine rows_lt3 ?_ ?_ ?_ | refine rows_lt4 ?_ ?_ ?_ ?_ | refine rows_lt5 ?_ ?_ ?_ ?_ ?_ | refine aggs_lt1 ?_ | refine aggs_lt2 ?_ ?_ | refine aggs_lt3 ?_ ?_ ?_ | refine fun (_ : Nat) => ?_) | refine fun (_ : (_ : Nat) < _) => ?_ | exact rfl | exact Nat.le_of_ble_eq_true rfl | (change (_ : Nat) ≤ _; omega) | (change (_ : Nat) = _; omega) | (change (_ : Int) = _; omega))); (all_goals try (conv => whnf)))
  repeat (first | ((conv => whnf); refine And.intro ?_ ?_; exact sideOf) | ((conv => whnf); refine NilE.some ?_ ?_; exact sideOf) | ((conv => whnf); refine And.intro (fun _ => ?_) (fun h => nomatch (show true = false from h))) | ((conv => whnf); refine And.intro (fun h => nomatch (show false = true from h)) (fun _ => ?_)) | ((conv => whnf); first | (apply Exists.intro; (repeat apply Exists.intro); refine And.intro ?_ ?_; exact leOf) | (refine Or.inl ?_; (conv => whnf); (repeat apply Exists.intro); refine And.intro ?_ ?_; exact leOf) | (refine Or.inr ?_; (conv => whnf); first | ((repeat apply Exists.intro); refine And.intro ?_ ?_; exact leOf) | (refine Or.inl ?_; (conv => whnf); (repeat apply Exists.intro); refine And.intro ?_ ?_; exact leOf) | (refine Or.inr ?_; (conv => whnf); (repeat apply Exists.intro); refine And.intro ?_ ?_; exact leOf))))
  all_goals try (conv => whnf)
  refine And.intro (fun h => ?_) (fun h => ?_)
  · have h := of_decide_eq_true h
    obtain ⟨e1, e2, e3, e4⟩ := hex_div (b k)
    have hv := (b k).isLt
    have es : (({ data := #[48, 49, 50, 51, 52, 53, 54, 55, 56, 57, 97, 98, 99, 100, 101, 102] } : ByteArray).data.toList).length = 16 := rfl
    have d1 : (List.drop (b k / BitVec.ofInt 8 16).toNat (List.take (b k / BitVec.ofInt 8 16 + BitVec.ofInt 8 1).toNat ({ data := #[48, 49, 50, 51, 52, 53, 54, 55, 56, 57, 97, 98, 99, 100, 101, 102] } : ByteArray).data.toList)).length = 1 := by
      rw [List.length_drop, List.length_take, es]; omega
    have d2 : (List.drop (b k % BitVec.ofInt 8 16).toNat (List.take (b k % BitVec.ofInt 8 16 + BitVec.ofInt 8 1).toNat ({ data := #[48, 49, 50, 51, 52, 53, 54, 55, 56, 57, 97, 98, 99, 100, 101, 102] } : ByteArray).data.toList)).length = 1 := by
      rw [List.length_drop, List.length_take, es]; omega
    have hh := hexL_len (lw k b)
    rw [lw_len] at hh
    have d3 : (List.drop (b k / BitVec.ofInt 8 16).toNat (List.take (b k / BitVec.ofInt 8 16 + BitVec.ofInt 8 1).toNat ({ data := #[48, 49, 50, 51, 52, 53, 54, 55, 56, 57, 97, 98, 99, 100, 101, 102] } : ByteArray).data.toList) ++ List.drop (b k % BitVec.ofInt 8 16).toNat (List.take (b k % BitVec.ofInt 8 16 + BitVec.ofInt 8 1).toNat ({ data := #[48, 49, 50, 51, 52, 53, 54, 55, 56, 57, 97, 98, 99, 100, 101, 102] } : ByteArray).data.toList)).length = 2 := by
      rw [List.length_append, d1, d2]
    repeat (first | ((conv => whnf); refine And.intro ?_ ?_; exact sideOf) | ((conv => whnf); refine NilE.some ?_ ?_; exact sideOf) | ((conv => whnf); refine And.intro (fun _ => ?_) (fun h => nomatch (show true = false from h))) | ((conv => whnf); refine And.intro (fun h => nomatch (show false = true from h)) (fun _ => ?_)) | ((conv => whnf); first | (apply Exists.intro; (repeat apply Exists.intro); refine And.intro ?_ ?_; exact leOf) | (refine Or.inl ?_; (conv => whnf); (repeat apply Exists.intro); refine And.intro ?_ ?_; exact leOf) | (refine Or.inr ?_; (conv => whnf); first | ((repeat apply Exists.intro); refine And.intro ?_ ?_; exact leOf) | (refine Or.inl ?_; (conv => whnf); (repeat apply Exists.intro); refine And.intro ?_ ?_; exact leOf) | (refine Or.inr ?_; (conv => whnf); (repeat apply Exists.intro); refine And.intro ?_ ?_; exact leOf))))
    all_goals try (conv => whnf)
    refine Again.mk (k + 1 : Nat) (show k + 1 ≤ l by omega) trivial (show l - (k + 1) < l - k by omega) ?_
    ((repeat' ((conv => whnf) <;> first | exact trivial | (with_reducible first | refine And.intro ?_ ?_ | refine rows_lt1 ?_ | refine rows_lt2 ?_ ?_ | refine rows_lt3 ?_ ?_ ?_ | refine rows_lt4 ?_ ?_ ?_ ?_ | refine rows_lt5 ?_ ?_ ?_ ?_ ?_ | refine aggs_lt1 ?_ | refine aggs_lt2 ?_ ?_ | refine aggs_lt3 ?_ ?_ ?_ | refine fun (_ : Nat) => ?_) | refine fun (_ : (_ : Nat) < _) => ?_ | exact rfl | exact Nat.le_of_ble_eq_true rfl | (change (_ : Nat) ≤ _; omega) | (change (_ : Nat) = _; omega) | (change (_ : Int) = _; omega))); (all_goals try (conv => whnf)))
    rw [e1, e2, e3, e4]
    exact hexL_succ b k
  · have h := of_decide_eq_false h
    obtain rfl : k = l := by omega
    repeat (first | ((conv => whnf); refine And.intro ?_ ?_; exact sideOf) | ((conv => whnf); refine NilE.some ?_ ?_; exact sideOf) | ((conv => whnf); refine And.intro (fun _ => ?_) (fun h => nomatch (show true = false from h))) | ((conv => whnf); refine And.intro (fun h => nomatch (show false = true from h)) (fun _ => ?_)) | ((conv => whnf); first | (apply Exists.intro; (repeat apply Exists.intro); refine And.intro ?_ ?_; exact leOf) | (refine Or.inl ?_; (conv => whnf); (repeat apply Exists.intro); refine And.intro ?_ ?_; exact leOf) | (refine Or.inr ?_; (conv => whnf); first | ((repeat apply Exists.intro); refine And.intro ?_ ?_; exact leOf) | (refine Or.inl ?_; (conv => whnf); (repeat apply Exists.intro); refine And.intro ?_ ?_; exact leOf) | (refine Or.inr ?_; (conv => whnf); (repeat apply Exists.intro); refine And.intro ?_ ?_; exact leOf))))
    all_goals try (conv => whnf)
/-! ### The sum of one part, of two, of three -/
def C_sha_Sum_a : SpecP := fun A K => ∃ l0 b0, A [prt [(l0, b0)]] ∧ l0 ≤ 1000000000 ∧ K (arr8 32 (at8 (sha256 (lw l0 b0))))
def C_sha_Sum_b : SpecP := fun A K => ∃ l0 b0 l1 b1, A [prt [(l0, b0), (l1, b1)]] ∧ l0 ≤ 1000000000 ∧ l1 ≤ 1000000000 ∧ K (arr8 32 (at8 (sha256 (lw l0 b0 ++ lw l1 b1))))
def C_sha_Sum_c : SpecP := fun A K => ∃ l0 b0 l1 b1 l2 b2, A [prt [(l0, b0), (l1, b1), (l2, b2)]] ∧ l0 ≤ 1000000000 ∧ l1 ≤ 1000000000 ∧ l2 ≤ 1000000000 ∧ K (arr8 32 (at8 (sha256 (lw l0 b0 ++ lw l1 b1 ++ lw l2 b2))))
theorem g_sha_Sum_a : Gd 28 (pureP ty C_sha_Sum_a) := good_imp g_sha_Sum fun args m key K ⟨l0, b0, hA, h0, hK⟩ =>
  ⟨[(l0, b0)], hA, fun i => (by rcases i with _ | i <;> first | exact h0 | exact Nat.zero_le _), (show 1 ≤ 1000000 by omega), (by
    have e : cat [(l0, b0)] = lw l0 b0 := by simp [cat]
    rw [e]; exact hK)⟩
theorem g_sha_Sum_b : Gd 28 (pureP ty C_sha_Sum_b) := good_imp g_sha_Sum fun args m key K ⟨l0, b0, l1, b1, hA, h0, h1, hK⟩ =>
  ⟨[(l0, b0), (l1, b1)], hA, fun i => (by rcases i with _ | _ | i <;> first | exact h0 | exact h1 | exact Nat.zero_le _), (show 2 ≤ 1000000 by omega), (by
    have e : cat [(l0, b0), (l1, b1)] = lw l0 b0 ++ lw l1 b1 := by simp [cat]
    rw [e]; exact hK)⟩
theorem g_sha_Sum_c : Gd 28 (pureP ty C_sha_Sum_c) := good_imp g_sha_Sum fun args m key K ⟨l0, b0, l1, b1, l2, b2, hA, h0, h1, h2, hK⟩ =>
  ⟨[(l0, b0), (l1, b1), (l2, b2)], hA, fun i => (by rcases i with _ | _ | _ | i <;> first | exact h0 | exact h1 | exact h2 | exact Nat.zero_le _), (by show 3 ≤ 1000000; omega), (by
    have e : cat [(l0, b0), (l1, b1), (l2, b2)] = lw l0 b0 ++ lw l1 b1 ++ lw l2 b2 := by simp [cat]
    rw [e]; exact hK)⟩
theorem abc_hex : hexL (sha256 [97, 98, 99]) = [98, 97, 55, 56, 49, 54, 98, 102, 56, 102, 48, 49, 99, 102, 101, 97, 52, 49, 52, 49, 52, 48, 100, 101, 53, 100, 97, 101, 50, 50, 50, 51, 98, 48, 48, 51, 54, 49, 97, 51, 57, 54, 49, 55, 55, 97, 57, 99, 98, 52, 49, 48, 102, 102, 54, 49, 102, 50, 48, 48, 49, 53, 97, 100] := by decide +kernel
theorem lw_all (D : Msg) (h : D.length = 32) : lw (32 - 0) (fun x => at8 D (0 + x)) = D := by
  simp only [Nat.zero_add]; exact lw_at8 D 32 h
attribute [local irreducible] hsh rst sha256 press dig
end Go.Proofs.YtjhcehfliacjeaaDoor
