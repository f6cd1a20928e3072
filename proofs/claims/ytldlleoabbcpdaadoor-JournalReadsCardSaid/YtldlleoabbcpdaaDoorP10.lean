/- Laws of layer 1: the runs of one byte, and the compression. -/
import Derived.Test.YtldlleoabbcpdaaDoorP9
namespace Go.Proofs.YtldlleoabbcpdaaDoor
open Go.RowKit
set_option maxRecDepth 100000
set_option maxHeartbeats 20000000
attribute [local irreducible] hsh rst sha256 press dig valN
def rF (x : BitVec 8) (k i : Nat) : BitVec 8 := if i < k then x else 0
def rp (x : BitVec 8) (k : Nat) : Msg := List.replicate k x
attribute [irreducible] rF rp
end Go.Proofs.YtldlleoabbcpdaaDoor
