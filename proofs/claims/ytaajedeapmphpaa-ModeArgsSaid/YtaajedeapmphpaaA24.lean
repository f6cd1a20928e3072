/- Modes: the law of forth and back. -/
import Derived.Test.YtaajedeapmphpaaA23
namespace Go.Proofs.Ytaajedeapmphpaa
open Go.RowKit
set_option maxRecDepth 100000
set_option maxHeartbeats 20000000
attribute [local irreducible] xt rol8 aff pw lg sbx isx gm sbN isN xtN at32 mkB shB suB miB enc dec inv8 wdB midB eS nxF nxR nxB xorL mstp mch mout
theorem fb_same (how nr : Nat) (w : Nat → BitVec 32) (v p : Nat → BitVec 8) (l : Nat) : lw l (mout how true nr w v (mout how false nr w v p)) = lw l p := lw_eq.2 fun i _ => back_out how false nr w v p (.inr rfl) i
theorem bf_same (how nr : Nat) (w : Nat → BitVec 32) (v p : Nat → BitVec 8) (l : Nat) (h : how ≠ 1) : lw l (mout how false nr w v (mout how true nr w v p)) = lw l p := lw_eq.2 fun i _ => back_out how true nr w v p (.inl h) i
def C_l4_ModeBack : SpecP := fun A K => ∃ k u v l p x, A [arr8 32 k, .bo u, arr8 16 v, bsl l p, .u8 x] ∧ l ≤ maxLen ∧ K (.bo true)
def C_l4_ModeBack_p : SpecP := fun A K => ∃ k u v l p x, A [arr8 32 k, .bo u, arr8 16 v, bsl l p, .u8 x] ∧ l ≤ maxLen ∧ 1 ≤ min (l / 16) 8 ∧ K (.bo true)
end Go.Proofs.Ytaajedeapmphpaa
