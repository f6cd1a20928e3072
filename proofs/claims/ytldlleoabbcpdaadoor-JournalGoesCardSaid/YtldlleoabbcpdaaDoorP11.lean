/- Laws of layer 1: the states. -/
import Derived.Test.YtldlleoabbcpdaaDoorP10
namespace Go.Proofs.YtldlleoabbcpdaaDoor
open Go.RowKit
set_option maxRecDepth 100000
set_option maxHeartbeats 20000000
def C_r1_Join_b : SpecR := fun A K => ∃ l0 b0 l1 b1, A [prt [(l0, b0), (l1, b1)]] ∧ l0 + l1 ≤ 1000000000 ∧ K (.gsl 5 8 (l0 + l1)) [(8, .grow 5 (l0 + l1) (bys (at8 (lw l0 b0 ++ lw l1 b1))))]
theorem g_r1_Join_b : Gd 15 (pureR ty C_r1_Join_b) := good_imp g_r1_Join fun args m key K ⟨l0, b0, l1, b1, hA, h0, hK⟩ => by
  have e : cat [(l0, b0), (l1, b1)] = lw l0 b0 ++ lw l1 b1 := by simp [cat]
  have el : (cat [(l0, b0), (l1, b1)]).length = l0 + l1 := by rw [e, List.length_append, lw_len, lw_len]
  refine ⟨[(l0, b0), (l1, b1)], hA, by rw [el]; exact h0, (show 2 ≤ 1000000 by omega), ?_⟩
  rw [el, e]
  exact hK
attribute [local irreducible] hsh rst sha256 press dig valN
theorem st_eq {m m' : Msg} {g g' : Nat → Nat} (h : m = m') (i : Nat) (hi : i < 3) : AEq (AV.ren g' (nth .junk [arr32 8 (at32 (hsh m)), arr8 64 (at8 (rst m)), .u64 (BitVec.ofNat 64 m.length)] i)) (AV.ren g (nth .junk [arr32 8 (at32 (hsh m')), arr8 64 (at8 (rst m')), .u64 (BitVec.ofNat 64 m'.length)] i)) := by
  subst h
  rcases i with _ | _ | _ | i
  · exact fun j hj => Eq.refl (at32 _ j)
  · exact fun j hj => Eq.refl (at8 _ j)
  · exact Eq.refl (BitVec.ofNat 64 _)
  · omega
end Go.Proofs.YtldlleoabbcpdaaDoor
