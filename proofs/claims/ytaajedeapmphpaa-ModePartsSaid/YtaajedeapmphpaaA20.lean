/- Modes: the law of runs. -/
import Derived.Test.YtaajedeapmphpaaA19
namespace Go.Proofs.Ytaajedeapmphpaa
open Go.RowKit
set_option maxRecDepth 100000
set_option maxHeartbeats 20000000
theorem st_f (nr : Nat) (w : Nat → BitVec 32) (v b : Nat → BitVec 8) : mstp 1 false nr w v b = (enc nr w (fun j => b j ^^^ v j), enc nr w (fun j => b j ^^^ v j)) := rfl
theorem st_t (bk : Bool) (nr : Nat) (w : Nat → BitVec 32) (v b : Nat → BitVec 8) : mstp 2 bk nr w v b = (nxB v, fun j => b j ^^^ enc nr w v j) := rfl
theorem mout_blk (how : Nat) (bk : Bool) (nr : Nat) (w : Nat → BitVec 32) (v p : Nat → BitVec 8) (i j : Nat) (h : j < 16) : mout how bk nr w v p (16 * i + j) = (mstp how bk nr w (mch how bk nr w v p i) (blk p i)).2 j := by
  unfold mout mbl
  rw [show (16 * i + j) / 16 = i by omega, show (16 * i + j) % 16 = j by omega]
theorem mch_step (how : Nat) (bk : Bool) (nr : Nat) (w : Nat → BitVec 32) (v p : Nat → BitVec 8) (i : Nat) : mch how bk nr w v p (i + 1) = (mstp how bk nr w (mch how bk nr w v p i) (blk p i)).1 := by rw [mch]
attribute [local irreducible] xt rol8 aff pw lg sbx isx gm sbN isN xtN at32 mkB shB suB miB enc dec inv8 wdB midB eS nxF nxR nxB xorL mstp mch mout
def hw3 (x : BitVec 8) : Nat := (x % BitVec.ofInt 8 3).toNat
theorem hw3_le (x : BitVec 8) : (x % BitVec.ofInt 8 3).toNat ≤ 2 := by
  rw [BitVec.toNat_umod]
  have : (BitVec.ofInt 8 3).toNat = 3 := by decide
  rw [this]
  omega
def C_l4_ModeRuns : SpecP := fun A K => ∃ k u v l p x, A [arr8 32 k, .bo u, arr8 16 v, bsl l p, .u8 x] ∧ l ≤ maxLen ∧ K (.bo true)
def L_l4_ModeRuns (len nr how : Nat) (k v p : Nat → BitVec 8) (w : Nat → BitVec 32) (n : Nat) : LI := ⟨Nat, (· ≤ n), fun i => [(3, bsf (16 * n) p), (7, .ptr TB 16 []), (11, bsf len k), (12, .nat how), (13, .ptr TM 4160 []), (15, .ptr TM 5184 []), (16, bsf (16 * n) (mout how false nr w v p)), (18, .ptr TB 7184 []), (19, .nat (16 * i))],
  fun i => [(16, .var TB (arr8 16 v)), (4160, .var TM (moA how false nr w v)), (5184, .var TM (moA how false nr w (mch how false nr w v p n))), (7184, .var TB (arr8 16 (mch how false nr w v p i)))], fun i => n - i, some, some⟩
end Go.Proofs.Ytaajedeapmphpaa
