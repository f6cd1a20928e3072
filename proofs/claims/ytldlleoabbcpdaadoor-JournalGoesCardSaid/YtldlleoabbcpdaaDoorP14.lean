/- The keyed hash: the reference's derived keys, the example, the laws. -/
import Derived.Test.YtldlleoabbcpdaaDoorP11
namespace Go.Proofs.YtldlleoabbcpdaaDoor
open Go.RowKit
set_option maxRecDepth 100000
set_option maxHeartbeats 20000000
attribute [local irreducible] hsh rst sha256 press dig valN
/-- Parts that are told one by one. -/
abbrev prs (ls : List Nat) (bs : List (Nat → BitVec 8)) : AV := .imm false (.sl 5) ls.length (fun i => bsl (nth 0 ls i) (nth (fun _ => 0) bs i))
theorem prt3 (l0 l1 l2 : Nat) (b0 b1 b2 : Nat → BitVec 8) : prt [(l0, b0), (l1, b1), (l2, b2)] = prs [l0, l1, l2] [b0, b1, b2] := by
  have : (fun i => bsl (pl [(l0, b0), (l1, b1), (l2, b2)] i) (pb [(l0, b0), (l1, b1), (l2, b2)] i)) = fun i => bsl (nth 0 [l0, l1, l2] i) (nth (fun _ => 0) [b0, b1, b2] i) := by
    funext i
    rcases i with _ | _ | _ | i <;> rfl
  show AV.imm false _ 3 _ = AV.imm false _ 3 _
  rw [this]
theorem prt2 (l0 l1 : Nat) (b0 b1 : Nat → BitVec 8) : prt [(l0, b0), (l1, b1)] = prs [l0, l1] [b0, b1] := by
  have : (fun i => bsl (pl [(l0, b0), (l1, b1)] i) (pb [(l0, b0), (l1, b1)] i)) = fun i => bsl (nth 0 [l0, l1] i) (nth (fun _ => 0) [b0, b1] i) := by
    funext i
    rcases i with _ | _ | i <;> rfl
  show AV.imm false _ 2 _ = AV.imm false _ 2 _
  rw [this]
theorem prt1 (l0 : Nat) (b0 : Nat → BitVec 8) : prt [(l0, b0)] = prs [l0] [b0] := by
  have : (fun i => bsl (pl [(l0, b0)] i) (pb [(l0, b0)] i)) = fun i => bsl (nth 0 [l0] i) (nth (fun _ => 0) [b0] i) := by
    funext i
    rcases i with _ | i <;> rfl
  show AV.imm false _ 1 _ = AV.imm false _ 1 _
  rw [this]
def C_r1_Join_c : SpecR := fun A K => ∃ l0 b0 l1 b1 l2 b2, A [prs [l0, l1, l2] [b0, b1, b2]] ∧ l0 + l1 + l2 ≤ 1000000000 ∧ K (.gsl 5 8 (l0 + l1 + l2)) [(8, .grow 5 (l0 + l1 + l2) (bys (at8 (lw l0 b0 ++ lw l1 b1 ++ lw l2 b2))))]
theorem g_r1_Join_c : Gd 15 (pureR ty C_r1_Join_c) := good_imp g_r1_Join fun args m key K ⟨l0, b0, l1, b1, l2, b2, hA, h0, hK⟩ => by
  have e : cat [(l0, b0), (l1, b1), (l2, b2)] = lw l0 b0 ++ lw l1 b1 ++ lw l2 b2 := by simp [cat]
  have el : (cat [(l0, b0), (l1, b1), (l2, b2)]).length = l0 + l1 + l2 := by rw [e, List.length_append, List.length_append, lw_len, lw_len, lw_len]
  refine ⟨[(l0, b0), (l1, b1), (l2, b2)], (by rw [prt3]; exact hA), by rw [el]; exact h0, (show 3 ≤ 1000000 by omega), ?_⟩
  rw [el, e]
  exact hK
end Go.Proofs.YtldlleoabbcpdaaDoor
