/- Digits; the first law's example. -/
import Derived.Test.YtldlleoabbcpdaaDoorP7
namespace Go.Proofs.YtldlleoabbcpdaaDoor
open Go.RowKit
set_option maxRecDepth 100000
set_option maxHeartbeats 20000000
def hxs : List UInt8 := [48, 49, 50, 51, 52, 53, 54, 55, 56, 57, 97, 98, 99, 100, 101, 102]
theorem hx_dig (n : Nat) (h : n < 16) : (hxs.take (n + 1)).drop n = [hexd n] := by
  have : ∀ n : Fin 16, (hxs.take (n.val + 1)).drop n.val = [hexd n.val] := by decide
  exact this ⟨n, h⟩
theorem hex_div (v : BitVec 8) : (v / BitVec.ofInt 8 16).toNat = v.toNat / 16 ∧ (v / BitVec.ofInt 8 16 + BitVec.ofInt 8 1).toNat = v.toNat / 16 + 1 ∧ (v % BitVec.ofInt 8 16).toNat = v.toNat % 16 ∧ (v % BitVec.ofInt 8 16 + BitVec.ofInt 8 1).toNat = v.toNat % 16 + 1 := by
  have hv := v.isLt
  have e1 : (v / BitVec.ofInt 8 16).toNat = v.toNat / 16 := by rw [BitVec.toNat_udiv]; rfl
  have e2 : (v % BitVec.ofInt 8 16).toNat = v.toNat % 16 := by rw [BitVec.toNat_umod]; rfl
  refine ⟨e1, ?_, e2, ?_⟩
  · rw [BitVec.toNat_add, e1]; simp only [BitVec.reduceOfInt, BitVec.reduceToNat]; omega
  · rw [BitVec.toNat_add, e2]; simp only [BitVec.reduceOfInt, BitVec.reduceToNat]; omega
theorem lw_succ {α : Type} (k : Nat) (f : Nat → α) : lw (k + 1) f = lw k f ++ [f k] := by simp [lw, List.range_succ]
theorem hexL_succ (b : Nat → BitVec 8) (k : Nat) : hexL (lw k b) ++ ((hxs.take ((b k).toNat / 16 + 1)).drop ((b k).toNat / 16) ++ (hxs.take ((b k).toNat % 16 + 1)).drop ((b k).toNat % 16)) = hexL (lw (k + 1) b) := by
  have hv := (b k).isLt
  rw [hx_dig _ (by omega), hx_dig _ (by omega), lw_succ]
  simp [hexL]
/-! ### The sum of one part, of two, of three -/
def C_sha_Sum_a : SpecP := fun A K => ∃ l0 b0, A [prt [(l0, b0)]] ∧ l0 ≤ 1000000000 ∧ K (arr8 32 (at8 (sha256 (lw l0 b0))))
def C_sha_Sum_b : SpecP := fun A K => ∃ l0 b0 l1 b1, A [prt [(l0, b0), (l1, b1)]] ∧ l0 ≤ 1000000000 ∧ l1 ≤ 1000000000 ∧ K (arr8 32 (at8 (sha256 (lw l0 b0 ++ lw l1 b1))))
def C_sha_Sum_c : SpecP := fun A K => ∃ l0 b0 l1 b1 l2 b2, A [prt [(l0, b0), (l1, b1), (l2, b2)]] ∧ l0 ≤ 1000000000 ∧ l1 ≤ 1000000000 ∧ l2 ≤ 1000000000 ∧ K (arr8 32 (at8 (sha256 (lw l0 b0 ++ lw l1 b1 ++ lw l2 b2))))
theorem g_sha_Sum_a : Gd 28 (pureP ty C_sha_Sum_a) := good_imp g_sha_Sum fun args m key K ⟨l0, b0, hA, h0, hK⟩ =>
  ⟨[(l0, b0)], hA, fun i => (by rcases i with _ | i <;> first | exact h0 | exact Nat.zero_le _), (show 1 ≤ 1000000 by omega), (by
    have e : cat [(l0, b0)] = lw l0 b0 := by simp [cat]
    rw [e]; exact hK)⟩
theorem g_sha_Sum_b : Gd 28 (pureP ty C_sha_Sum_b) := good_imp g_sha_Sum fun args m key K ⟨l0, b0, l1, b1, hA, h0, h1, hK⟩ =>
  ⟨[(l0, b0), (l1, b1)], hA, fun i => (by rcases i with _ | _ | i <;> first | exact h0 | exact h1 | exact Nat.zero_le _), (show 2 ≤ 1000000 by omega), (by
    have e : cat [(l0, b0), (l1, b1)] = lw l0 b0 ++ lw l1 b1 := by simp [cat]
    rw [e]; exact hK)⟩
theorem g_sha_Sum_c : Gd 28 (pureP ty C_sha_Sum_c) := good_imp g_sha_Sum fun args m key K ⟨l0, b0, l1, b1, l2, b2, hA, h0, h1, h2, hK⟩ =>
  ⟨[(l0, b0), (l1, b1), (l2, b2)], hA, fun i => (by rcases i with _ | _ | _ | i <;> first | exact h0 | exact h1 | exact h2 | exact Nat.zero_le _), (by show 3 ≤ 1000000; omega), (by
    have e : cat [(l0, b0), (l1, b1), (l2, b2)] = lw l0 b0 ++ lw l1 b1 ++ lw l2 b2 := by simp [cat]
    rw [e]; exact hK)⟩
theorem abc_hex : hexL (sha256 [97, 98, 99]) = [98, 97, 55, 56, 49, 54, 98, 102, 56, 102, 48, 49, 99, 102, 101, 97, 52, 49, 52, 49, 52, 48, 100, 101, 53, 100, 97, 101, 50, 50, 50, 51, 98, 48, 48, 51, 54, 49, 97, 51, 57, 54, 49, 55, 55, 97, 57, 99, 98, 52, 49, 48, 102, 102, 54, 49, 102, 50, 48, 48, 49, 53, 97, 100] := by decide +kernel
theorem lw_all (D : Msg) (h : D.length = 32) : lw (32 - 0) (fun x => at8 D (0 + x)) = D := by
  simp only [Nat.zero_add]; exact lw_at8 D 32 h
attribute [local irreducible] hsh rst sha256 press dig
end Go.Proofs.YtldlleoabbcpdaaDoor
