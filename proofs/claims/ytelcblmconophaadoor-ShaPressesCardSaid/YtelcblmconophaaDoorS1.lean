import Derived.Test.YtelcblmconophaaDoorB0
namespace Go.Proofs.YtelcblmconophaaDoor
open Go.RowKit
def rotr (x : BitVec 32) (n : Nat) : BitVec 32 := x <<< (32 - n) ||| x >>> n
def bS0 (x : BitVec 32) : BitVec 32 := rotr x 2 ^^^ rotr x 13 ^^^ rotr x 22
def bS1 (x : BitVec 32) : BitVec 32 := rotr x 6 ^^^ rotr x 11 ^^^ rotr x 25
def sS0 (x : BitVec 32) : BitVec 32 := rotr x 7 ^^^ rotr x 18 ^^^ x >>> 3
def sS1 (x : BitVec 32) : BitVec 32 := rotr x 17 ^^^ rotr x 19 ^^^ x >>> 10
def cho (x y z : BitVec 32) : BitVec 32 := x &&& y ^^^ ~~~x &&& z
def maj (x y z : BitVec 32) : BitVec 32 := x &&& y ^^^ x &&& z ^^^ y &&& z
@[local go_sem] theorem rk2 : bits .and .u64 (IntKind.u64.wrap (-2)) 31 = 30 := by decide
@[local go_sem] theorem rk13 : bits .and .u64 (IntKind.u64.wrap (-13)) 31 = 19 := by decide
@[local go_sem] theorem rk22 : bits .and .u64 (IntKind.u64.wrap (-22)) 31 = 10 := by decide
@[local go_sem] theorem rk6 : bits .and .u64 (IntKind.u64.wrap (-6)) 31 = 26 := by decide
@[local go_sem] theorem rk11 : bits .and .u64 (IntKind.u64.wrap (-11)) 31 = 21 := by decide
@[local go_sem] theorem rk25 : bits .and .u64 (IntKind.u64.wrap (-25)) 31 = 7 := by decide
@[local go_sem] theorem rk7 : bits .and .u64 (IntKind.u64.wrap (-7)) 31 = 25 := by decide
@[local go_sem] theorem rk18 : bits .and .u64 (IntKind.u64.wrap (-18)) 31 = 14 := by decide
@[local go_sem] theorem rk17 : bits .and .u64 (IntKind.u64.wrap (-17)) 31 = 15 := by decide
@[local go_sem] theorem rk19 : bits .and .u64 (IntKind.u64.wrap (-19)) 31 = 13 := by decide
set_option maxHeartbeats 400000 in
theorem rot_walk (x : BitVec 32) (n : Nat) (w : World) (hn : n ∈ [2,13,22,6,11,25,7,18,17,19]) :
    Calls Tryd.prog 54 #[.int .u32 (U32 x), .int .i64 (n : Int)] w fun e w' => e = .returned (.int .u32 (U32 (rotr x n))) ∧ w = w' := by
  simp only [List.mem_cons, List.not_mem_nil, or_false] at hn
  rcases hn with rfl | rfl | rfl | rfl | rfl | rfl | rfl | rfl | rfl | rfl
  all_goals
    go_enter Tryd.func54, Tryd.ntmps54
    go_wp2
    go_ret
    exact ⟨rfl, rfl⟩

theorem right_walk (x : BitVec 32) (n : Nat) (m : Int) (w : World) (hm : m = n) (hn : n ∈ [2,13,22,6,11,25,7,18,17,19]) :
    Calls Tryd.prog 54 #[.int .u32 (U32 x), .int .i64 m] w fun e w' => e = .returned (.int .u32 (U32 (rotr x n))) ∧ w = w' := by
  subst hm; exact rot_walk x n w hn
set_option maxHeartbeats 400000 in
theorem sS0_walk (x : BitVec 32) (w : World) :
    Calls Tryd.prog 53 #[.int .u32 (U32 x)] w fun e w' => e = .returned (.int .u32 (U32 (sS0 x))) ∧ w = w' := by
  go_enter Tryd.func53, Tryd.ntmps53
  go_wp2_with fail
  refine (right_walk _ 7 _ _ (by rfl) (by decide)).mono ?_; rintro e w' ⟨rfl, rfl⟩
  go_wp2_with fail
  refine (right_walk _ 18 _ _ (by rfl) (by decide)).mono ?_; rintro e w' ⟨rfl, rfl⟩
  go_wp2_with fail
  go_ret
  exact ⟨rfl, rfl⟩
set_option maxHeartbeats 400000 in
theorem sS1_walk (x : BitVec 32) (w : World) :
    Calls Tryd.prog 52 #[.int .u32 (U32 x)] w fun e w' => e = .returned (.int .u32 (U32 (sS1 x))) ∧ w = w' := by
  go_enter Tryd.func52, Tryd.ntmps52
  go_wp2_with fail
  refine (right_walk _ 17 _ _ (by rfl) (by decide)).mono ?_; rintro e w' ⟨rfl, rfl⟩
  go_wp2_with fail
  refine (right_walk _ 19 _ _ (by rfl) (by decide)).mono ?_; rintro e w' ⟨rfl, rfl⟩
  go_wp2_with fail
  go_ret
  exact ⟨rfl, rfl⟩
set_option maxHeartbeats 400000 in
theorem bS0_walk (x : BitVec 32) (w : World) :
    Calls Tryd.prog 50 #[.int .u32 (U32 x)] w fun e w' => e = .returned (.int .u32 (U32 (bS0 x))) ∧ w = w' := by
  go_enter Tryd.func50, Tryd.ntmps50
  go_wp2_with fail
  refine (right_walk _ 2 _ _ (by rfl) (by decide)).mono ?_; rintro e w' ⟨rfl, rfl⟩
  go_wp2_with fail
  refine (right_walk _ 13 _ _ (by rfl) (by decide)).mono ?_; rintro e w' ⟨rfl, rfl⟩
  go_wp2_with fail
  refine (right_walk _ 22 _ _ (by rfl) (by decide)).mono ?_; rintro e w' ⟨rfl, rfl⟩
  go_wp2_with fail
  go_ret
  exact ⟨rfl, rfl⟩
set_option maxHeartbeats 400000 in
theorem bS1_walk (x : BitVec 32) (w : World) :
    Calls Tryd.prog 48 #[.int .u32 (U32 x)] w fun e w' => e = .returned (.int .u32 (U32 (bS1 x))) ∧ w = w' := by
  go_enter Tryd.func48, Tryd.ntmps48
  go_wp2_with fail
  refine (right_walk _ 6 _ _ (by rfl) (by decide)).mono ?_; rintro e w' ⟨rfl, rfl⟩
  go_wp2_with fail
  refine (right_walk _ 11 _ _ (by rfl) (by decide)).mono ?_; rintro e w' ⟨rfl, rfl⟩
  go_wp2_with fail
  refine (right_walk _ 25 _ _ (by rfl) (by decide)).mono ?_; rintro e w' ⟨rfl, rfl⟩
  go_wp2_with fail
  go_ret
  exact ⟨rfl, rfl⟩
set_option maxHeartbeats 400000 in
theorem cho_walk (x y z : BitVec 32) (w : World) :
    Calls Tryd.prog 49 #[.int .u32 (U32 x), .int .u32 (U32 y), .int .u32 (U32 z)] w fun e w' => e = .returned (.int .u32 (U32 (cho x y z))) ∧ w = w' := by
  go_enter Tryd.func49, Tryd.ntmps49
  go_wp2_with fail
  go_ret
  exact ⟨rfl, rfl⟩
set_option maxHeartbeats 400000 in
theorem maj_walk (x y z : BitVec 32) (w : World) :
    Calls Tryd.prog 51 #[.int .u32 (U32 x), .int .u32 (U32 y), .int .u32 (U32 z)] w fun e w' => e = .returned (.int .u32 (U32 (maj x y z))) ∧ w = w' := by
  go_enter Tryd.func51, Tryd.ntmps51
  go_wp2_with fail
  go_ret
  exact ⟨rfl, rfl⟩
end Go.Proofs.YtelcblmconophaaDoor
