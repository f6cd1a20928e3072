/- The reference's turn and roots. -/
import Derived.Test.YtelcblmconophaaDoorR2
namespace Go.Proofs.YtelcblmconophaaDoor
open Go.RowKit
theorem rot_add (x : BitVec 32) (n : Nat) (h1 : 0 < n) (h2 : n < 32) : x >>> n + x <<< (32 - n) = rotr x n := by
  have hz : (x >>> n) &&& (x <<< (32 - n)) = 0#32 := by
    apply BitVec.eq_of_getLsbD_eq
    intro i hi
    simp only [BitVec.getLsbD_and, BitVec.getLsbD_ushiftRight, BitVec.getLsbD_shiftLeft, BitVec.getLsbD_zero]
    by_cases h : i < 32 - n
    · simp [h]
    · have : x.getLsbD (n + i) = false := BitVec.getLsbD_of_ge x (n + i) (by omega)
      simp [this]
  rw [BitVec.add_eq_or_of_and_eq_zero _ _ hz, rotr, BitVec.or_comm]
theorem not_sub (y : BitVec 32) : 4294967295#32 - y = ~~~y := by
  apply BitVec.eq_of_toNat_eq
  rw [BitVec.toNat_sub, BitVec.toNat_not]
  have := y.isLt
  simp only [BitVec.toNat_ofNat]
  omega
@[go_sem high] theorem wsub32 (y : BitVec 32) : IntKind.u32.wrap (4294967295 - U32 y) = U32 (~~~y) := by
  rw [← not_sub, IntKind.wrap_u32']
  unfold U32
  rw [BitVec.toNat_sub]
  simp only [BitVec.toNat_ofNat]
  have := y.isLt
  omega
set_option maxHeartbeats 1000000 in
theorem turn_walk0 (x : BitVec 32) (n : Nat) (w : World) (hn : n ∈ [2,13,22,6,11,25,7,18,17,19]) :
    Calls Tryd.prog 42 #[.int .u32 (U32 x), .int .i64 (n : Int)] w fun e w' => e = .returned (.int .u32 (U32 (rotr x n))) ∧ ∃ k, w' = w.drewN k := by
  have hr : ∀ n, n ∈ [2,13,22,6,11,25,7,18,17,19] → x >>> n + x <<< (32 - n) = rotr x n := fun n h => rot_add x n (by simp at h; omega) (by simp at h; omega)
  have HR := Lib.hid (hr n hn)
  clear hr
  simp only [List.mem_cons, List.not_mem_nil, or_false] at hn
  rcases hn with rfl | rfl | rfl | rfl | rfl | rfl | rfl | rfl | rfl | rfl
  all_goals
    go_enter Tryd.func42, Tryd.ntmps42
    go_wp2_with fail
    go_quiet (fail)
    go_wp2_with fail
    go_ret
    exact ⟨by rw [← HR.out]; rfl, nq, rfl⟩
theorem turn_walk (x : BitVec 32) (n : Nat) (m : Int) (w : World) (hm : m = n) (hn : n ∈ [2,13,22,6,11,25,7,18,17,19]) :
    Calls Tryd.prog 42 #[.int .u32 (U32 x), .int .i64 m] w fun e w' => e = .returned (.int .u32 (U32 (rotr x n))) ∧ ∃ k, w' = w.drewN k := by
  subst hm; exact turn_walk0 x n w hn
theorem KK_size : (e32 KK).size = 64 := rfl
set_option maxHeartbeats 1000000 in
theorem roots_walk (w : World) :
    Calls Tryd.prog 43 #[] w fun e w' => e = .returned (.agg (e32 KK)) ∧ Below w.heap.size w w' := by
  go_enter Tryd.func43, Tryd.ntmps43
  go_wp2_with (first
    | (refine wpL_build rfl 68 _ rfl _ rfl (e32 KK) ?_ ?_
       · kernel_rfl
       rw [zeros68]
       generalize hW : World.alloc w _ = w1
       obtain ⟨b0, hb, hs⟩ := facts1 hW
       clear hW)
    | (refine wpL_store b0 rfl 68 (.tmp 0) (.tmp 1) rfl 0 (e32 KK) rfl rfl i68 (by rw [KK_size, e32_size, padZ_len _ (by simp)]; omega) (e32_one _) ?_
       intro w4 b4 hs4 hg4
       rw [spl_all _ _ (by rw [KK_size, e32_size, padZ_len _ (by simp)])] at b4
       replace hb := hb.grown hg4 hb.size (by intro k hk; cases hk; omega)))
  exact ret_row Tryd.results43 b4 rfl Tryd.underlying68 rfl i68 rfl ⟨rfl, hb⟩
end Go.Proofs.YtelcblmconophaaDoor
