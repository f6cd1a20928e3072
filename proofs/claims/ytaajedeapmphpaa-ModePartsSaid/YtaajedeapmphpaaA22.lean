/- Modes: the law of reach. -/
import Derived.Test.YtaajedeapmphpaaA21
namespace Go.Proofs.Ytaajedeapmphpaa
open Go.RowKit
set_option maxRecDepth 100000
set_option maxHeartbeats 20000000
attribute [local irreducible] xt rol8 aff pw lg sbx isx gm sbN isN xtN at32 mkB shB suB miB enc dec inv8 wdB midB eS nxF nxR nxB xorL mstp mch mout
def C_l4_ModeReach : SpecP := fun A K => ∃ k v l p a t x, A [arr8 32 k, arr8 16 v, bsl l p, .u8 a, .u8 t, .u8 x] ∧ l ≤ maxLen ∧ K (.bo true)
def L_l4_ModeReach (how : Nat) (v p : Nat → BitVec 8) (w : Nat → BitVec 32) (n i : Nat) (t : BitVec 8) : LI := .plain Nat (· ≤ n) (fun j => [(2, bsf (16 * n) p), (4, .u8 t), (13, .nat how), (16, .nat i), (19, bsf (16 * n) (mout how false 14 w v p)), (22, bsf (16 * n) (mout how false 14 w v (qF p i t))), (24, .nat (16 * j))]) (fun j => n - j)
end Go.Proofs.Ytaajedeapmphpaa
