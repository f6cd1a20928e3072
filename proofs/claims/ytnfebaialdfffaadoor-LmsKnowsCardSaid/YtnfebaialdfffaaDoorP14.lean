/- The keyed hash: the reference's derived keys, the example, the laws. -/
import Derived.Test.YtnfebaialdfffaaDoorP10
namespace Go.Proofs.YtnfebaialdfffaaDoor
open Go.RowKit
set_option maxRecDepth 100000
set_option maxHeartbeats 20000000
attribute [local irreducible] hsh rst sha256 press dig valN
/-- Parts that are told one by one. -/
abbrev prs (ls : List Nat) (bs : List (Nat → BitVec 8)) : AV := .imm false (.sl 5) ls.length (fun i => bsl (nth 0 ls i) (nth (fun _ => 0) bs i))
theorem prt3 (l0 l1 l2 : Nat) (b0 b1 b2 : Nat → BitVec 8) : prt [(l0, b0), (l1, b1), (l2, b2)] = prs [l0, l1, l2] [b0, b1, b2] := by
  have : (fun i => bsl (pl [(l0, b0), (l1, b1), (l2, b2)] i) (pb [(l0, b0), (l1, b1), (l2, b2)] i)) = fun i => bsl (nth 0 [l0, l1, l2] i) (nth (fun _ => 0) [b0, b1, b2] i) := by
    funext i
    rcases i with _ | _ | _ | i <;> rfl
  show AV.imm false _ 3 _ = AV.imm false _ 3 _
  rw [this]
theorem prt2 (l0 l1 : Nat) (b0 b1 : Nat → BitVec 8) : prt [(l0, b0), (l1, b1)] = prs [l0, l1] [b0, b1] := by
  have : (fun i => bsl (pl [(l0, b0), (l1, b1)] i) (pb [(l0, b0), (l1, b1)] i)) = fun i => bsl (nth 0 [l0, l1] i) (nth (fun _ => 0) [b0, b1] i) := by
    funext i
    rcases i with _ | _ | i <;> rfl
  show AV.imm false _ 2 _ = AV.imm false _ 2 _
  rw [this]
end Go.Proofs.YtnfebaialdfffaaDoor
