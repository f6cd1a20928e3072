/- The reference's small functions, for manifests, tokens and signatures. -/
import Derived.Test.YtnfebaialdfffaaDoorP14
namespace Go.Proofs.YtnfebaialdfffaaDoor
open Go.RowKit
set_option maxRecDepth 100000
set_option maxHeartbeats 20000000
attribute [local irreducible] hsh rst sha256 press dig valN
theorem own_res {a b : AV} (ha : Own a) (hb : Own b) : Own (tupOf [a, b]) := fun i hi => by
  rcases i with _ | _ | i
  · exact ha
  · exact hb
  · exact absurd hi (by show ¬ i + 2 < 2; omega)
def C_r1_Join_2 : SpecR := fun A K => ∃ l0 b0 l1 b1, A [prs [l0, l1] [b0, b1]] ∧ l0 + l1 ≤ 1000000000 ∧ K (.gsl 5 8 (l0 + l1)) [(8, .grow 5 (l0 + l1) (bys (at8 (lw l0 b0 ++ lw l1 b1))))]
theorem g_r1_Join_2 : Gd 30 (pureR ty C_r1_Join_2) := good_imp g_r1_Join fun args m key K ⟨l0, b0, l1, b1, hA, h0, hK⟩ => by
  have e : cat [(l0, b0), (l1, b1)] = lw l0 b0 ++ lw l1 b1 := by simp [cat]
  have el : (cat [(l0, b0), (l1, b1)]).length = l0 + l1 := by rw [e]; simp only [List.length_append, lw_len]
  refine ⟨[(l0, b0), (l1, b1)], (by rw [prt2]; exact hA), by rw [el]; exact h0, (show 2 ≤ 1000000 by omega), ?_⟩
  rw [el, e]
  exact hK
theorem prt5 (l0 l1 l2 l3 l4 : Nat) (b0 b1 b2 b3 b4 : Nat → BitVec 8) : prt [(l0, b0), (l1, b1), (l2, b2), (l3, b3), (l4, b4)] = prs [l0, l1, l2, l3, l4] [b0, b1, b2, b3, b4] := by
  have : (fun i => bsl (pl [(l0, b0), (l1, b1), (l2, b2), (l3, b3), (l4, b4)] i) (pb [(l0, b0), (l1, b1), (l2, b2), (l3, b3), (l4, b4)] i)) = fun i => bsl (nth 0 [l0, l1, l2, l3, l4] i) (nth (fun _ => 0) [b0, b1, b2, b3, b4] i) := by
    funext i
    rcases i with _ | _ | _ | _ | _ | i <;> rfl
  show AV.imm false _ 5 _ = AV.imm false _ 5 _
  rw [this]
def C_r1_Join_5 : SpecR := fun A K => ∃ l0 b0 l1 b1 l2 b2 l3 b3 l4 b4, A [prs [l0, l1, l2, l3, l4] [b0, b1, b2, b3, b4]] ∧ l0 + l1 + l2 + l3 + l4 ≤ 1000000000 ∧ K (.gsl 5 8 (l0 + l1 + l2 + l3 + l4)) [(8, .grow 5 (l0 + l1 + l2 + l3 + l4) (bys (at8 (lw l0 b0 ++ lw l1 b1 ++ lw l2 b2 ++ lw l3 b3 ++ lw l4 b4))))]
theorem g_r1_Join_5 : Gd 30 (pureR ty C_r1_Join_5) := good_imp g_r1_Join fun args m key K ⟨l0, b0, l1, b1, l2, b2, l3, b3, l4, b4, hA, h0, hK⟩ => by
  have e : cat [(l0, b0), (l1, b1), (l2, b2), (l3, b3), (l4, b4)] = lw l0 b0 ++ lw l1 b1 ++ lw l2 b2 ++ lw l3 b3 ++ lw l4 b4 := by simp [cat]
  have el : (cat [(l0, b0), (l1, b1), (l2, b2), (l3, b3), (l4, b4)]).length = l0 + l1 + l2 + l3 + l4 := by rw [e]; simp only [List.length_append, lw_len]
  refine ⟨[(l0, b0), (l1, b1), (l2, b2), (l3, b3), (l4, b4)], (by rw [prt5]; exact hA), by rw [el]; exact h0, (show 5 ≤ 1000000 by omega), ?_⟩
  rw [el, e]
  exact hK
end Go.Proofs.YtnfebaialdfffaaDoor
