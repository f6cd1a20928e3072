/- Fuses: the laws. -/
import Derived.Test.YtiafaeokfdpbjaaU2
namespace Go.Proofs.Ytiafaeokfdpbjaa
open Go.RowKit
set_option maxRecDepth 100000
set_option maxHeartbeats 20000000
abbrev wsl (n : Nat) (w : Nat → BitVec 32) : AV := .imm false (.int .u32) n (wds w)
end Go.Proofs.Ytiafaeokfdpbjaa
