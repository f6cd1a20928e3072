/- Modes: forth and back, whatever the text. -/
import Derived.Test.YtaajedeapmphpaaA25
namespace Go.Proofs.Ytaajedeapmphpaa
open Go.RowKit
set_option maxRecDepth 100000
set_option maxHeartbeats 20000000
attribute [local irreducible] xt rol8 aff pw lg sbx isx gm sbN isN xtN at32 mkB shB suB miB enc dec inv8 wdB midB eS nxF nxR nxB xorL mstp mch mout
def C_l4_ModeBack_0 : SpecP := fun A K => ∃ k u v l p x, A [arr8 32 k, .bo u, arr8 16 v, bsl l p, .u8 x] ∧ l ≤ maxLen ∧ min (l / 16) 8 = 0 ∧ K (.bo true)
end Go.Proofs.Ytaajedeapmphpaa
