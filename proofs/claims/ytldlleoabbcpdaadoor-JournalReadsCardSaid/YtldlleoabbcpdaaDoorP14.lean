/- The keyed hash: the reference's derived keys, the example, the laws. -/
import Derived.Test.YtldlleoabbcpdaaDoorP10
namespace Go.Proofs.YtldlleoabbcpdaaDoor
open Go.RowKit
set_option maxRecDepth 100000
set_option maxHeartbeats 20000000
attribute [local irreducible] hsh rst sha256 press dig valN
abbrev prs (ls : List Nat) (bs : List (Nat → BitVec 8)) : AV := .imm false (.sl 5) ls.length (fun i => bsl (nth 0 ls i) (nth (fun _ => 0) bs i))
theorem prt2 (l0 l1 : Nat) (b0 b1 : Nat → BitVec 8) : prt [(l0, b0), (l1, b1)] = prs [l0, l1] [b0, b1] := by
  have : (fun i => bsl (pl [(l0, b0), (l1, b1)] i) (pb [(l0, b0), (l1, b1)] i)) = fun i => bsl (nth 0 [l0, l1] i) (nth (fun _ => 0) [b0, b1] i) := by
    funext i
    rcases i with _ | _ | i <;> rfl
  show AV.imm false _ 2 _ = AV.imm false _ 2 _
  rw [this]
end Go.Proofs.YtldlleoabbcpdaaDoor
