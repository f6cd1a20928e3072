/- Laws of layer 1: the states. -/
import Derived.Test.YtobbphkkebempaaDoorP10
namespace Go.Proofs.YtobbphkkebempaaDoor
open Go.RowKit
set_option maxRecDepth 100000
set_option maxHeartbeats 20000000
def C_r1_Join_b : SpecR := fun A K => ∃ l0 b0 l1 b1, A [prt [(l0, b0), (l1, b1)]] ∧ l0 + l1 ≤ 1000000000 ∧ K (.gsl 5 8 (l0 + l1)) [(8, .grow 5 (l0 + l1) (bys (at8 (lw l0 b0 ++ lw l1 b1))))]
theorem g_r1_Join_b : Gd 26 (pureR ty C_r1_Join_b) := good_imp g_r1_Join fun args m key K ⟨l0, b0, l1, b1, hA, h0, hK⟩ => by
  have e : cat [(l0, b0), (l1, b1)] = lw l0 b0 ++ lw l1 b1 := by simp [cat]
  have el : (cat [(l0, b0), (l1, b1)]).length = l0 + l1 := by rw [e, List.length_append, lw_len, lw_len]
  refine ⟨[(l0, b0), (l1, b1)], hA, by rw [el]; exact h0, (show 2 ≤ 1000000 by omega), ?_⟩
  rw [el, e]
  exact hK
attribute [local irreducible] hsh rst sha256 press dig valN
theorem st_eq {m m' : Msg} {g g' : Nat → Nat} (h : m = m') (i : Nat) (hi : i < 3) : AEq (AV.ren g' (nth .junk [arr32 8 (at32 (hsh m)), arr8 64 (at8 (rst m)), .u64 (BitVec.ofNat 64 m.length)] i)) (AV.ren g (nth .junk [arr32 8 (at32 (hsh m')), arr8 64 (at8 (rst m')), .u64 (BitVec.ofNat 64 m'.length)] i)) := by
  subst h
  rcases i with _ | _ | _ | i
  · exact fun j hj => Eq.refl (at32 _ j)
  · exact fun j hj => Eq.refl (at8 _ j)
  · exact Eq.refl (BitVec.ofNat 64 _)
  · omega
def C_l1_ShaStates : SpecP := fun A K => ∃ l b l' b' c, A [bsl l b, bsl l' b', .u16 c] ∧ l ≤ maxLen ∧ l' ≤ maxLen ∧ K (.bo true)
theorem g_l1_ShaStates : Gd 4 (pureP ty C_l1_ShaStates) := by
  refine goodP (E := PG [(18, pureP ty C_l1_awake), (19, pureR ty C_r1_Cut), (20, pureP ty C_r1_Sum), (22, pureP ty C_sha_New), (23, pureP ty C_sha_State_Feed), (24, pureP ty C_sha_State_Sum), (25, pureP ty C_sha_State_Len), (26, pureR ty C_r1_Join_b)]) (pgOK ⟨g_l1_awake, g_r1_Cut, g_r1_Sum, g_sha_New, g_sha_State_Feed, g_sha_State_Sum, g_sha_State_Len, g_r1_Join_b, trivial⟩) mixes Tryd.func4 (by kernel_rfl) (by kernel_rfl) ?_
  rintro A K ⟨l, b, l', b', c, hA, hl, hl', hK⟩
  refine ⟨_, _, fun _ => none, hA, hK, by kernel_rfl, trivial, ?_⟩
  have hc := c.isLt
  repeat (first | ((conv => whnf); refine And.intro ?_ ?_; exact sideOf) | ((conv => whnf); refine And.intro (fun _ => ?_) (fun h => nomatch (show true = false from h))) | ((conv => whnf); refine And.intro (fun h => nomatch (show false = true from h)) (fun _ => ?_)) | ((conv => whnf); first | (apply Exists.intro; (repeat apply Exists.intro); refine And.intro ?_ ?_; exact leOf) | (refine Or.inl ?_; (conv => whnf); (repeat apply Exists.intro); refine And.intro ?_ ?_; exact leOf) | (refine Or.inr ?_; (conv => whnf); first | ((repeat apply Exists.intro); refine And.intro ?_ ?_; exact leOf) | (refine Or.inl ?_; (conv => whnf); (repeat apply Exists.intro); refine And.intro ?_ ?_; exact leOf) | (refine Or.inr ?_; (conv => whnf); (repeat apply Exists.intro); refine And.intro ?_ ?_; exact leOf))))
  all_goals try (conv => whnf)
  refine And.intro (fun _ => ?_) (bad (eqB_agg fun i hi => ?_))
  rotate_left
  · refine st_eq ?_ i hi
    simp only [Nat.sub_zero, Nat.zero_add, List.nil_append]
    rw [← lw_add, show min c.toNat (min l (Int.toNat 300)) + (min l (Int.toNat 300) - min c.toNat (min l (Int.toNat 300))) = min l (Int.toNat 300) by omega]
  repeat (first | ((conv => whnf); refine And.intro ?_ ?_; exact sideOf) | ((conv => whnf); refine And.intro (fun _ => ?_) (fun h => nomatch (show true = false from h))) | ((conv => whnf); refine And.intro (fun h => nomatch (show false = true from h)) (fun _ => ?_)) | ((conv => whnf); first | (apply Exists.intro; (repeat apply Exists.intro); refine And.intro ?_ ?_; exact leOf) | (refine Or.inl ?_; (conv => whnf); (repeat apply Exists.intro); refine And.intro ?_ ?_; exact leOf) | (refine Or.inr ?_; (conv => whnf); first | ((repeat apply Exists.intro); refine And.intro ?_ ?_; exact leOf) | (refine Or.inl ?_; (conv => whnf); (repeat apply Exists.intro); refine And.intro ?_ ?_; exact leOf) | (refine Or.inr ?_; (conv => whnf); (repeat apply Exists.intro); refine And.intro ?_ ?_; exact leOf))))
  all_goals try (conv => whnf)
  refine And.intro (fun _ => ?_) (dyes (by rw [List.nil_append, lw_len]))
  repeat (first | ((conv => whnf); refine And.intro ?_ ?_; exact sideOf) | ((conv => whnf); refine And.intro (fun _ => ?_) (fun h => nomatch (show true = false from h))) | ((conv => whnf); refine And.intro (fun h => nomatch (show false = true from h)) (fun _ => ?_)) | ((conv => whnf); first | (apply Exists.intro; (repeat apply Exists.intro); refine And.intro ?_ ?_; exact leOf) | (refine Or.inl ?_; (conv => whnf); (repeat apply Exists.intro); refine And.intro ?_ ?_; exact leOf) | (refine Or.inr ?_; (conv => whnf); first | ((repeat apply Exists.intro); refine And.intro ?_ ?_; exact leOf) | (refine Or.inl ?_; (conv => whnf); (repeat apply Exists.intro); refine And.intro ?_ ?_; exact leOf) | (refine Or.inr ?_; (conv => whnf); (repeat apply Exists.intro); refine And.intro ?_ ?_; exact leOf))))
  all_goals try (conv => whnf)
  refine And.intro (fun _ => ?_) (dyes (by rw [List.nil_append, List.length_append, lw_len, lw_len]))
  repeat (first | ((conv => whnf); refine And.intro ?_ ?_; exact sideOf) | ((conv => whnf); refine And.intro (fun _ => ?_) (fun h => nomatch (show true = false from h))) | ((conv => whnf); refine And.intro (fun h => nomatch (show false = true from h)) (fun _ => ?_)) | ((conv => whnf); first | (apply Exists.intro; (repeat apply Exists.intro); refine And.intro ?_ ?_; exact leOf) | (refine Or.inl ?_; (conv => whnf); (repeat apply Exists.intro); refine And.intro ?_ ?_; exact leOf) | (refine Or.inr ?_; (conv => whnf); first | ((repeat apply Exists.intro); refine And.intro ?_ ?_; exact leOf) | (refine Or.inl ?_; (conv => whnf); (repeat apply Exists.intro); refine And.intro ?_ ?_; exact leOf) | (refine Or.inr ?_; (conv => whnf); (repeat apply Exists.intro); refine And.intro ?_ ?_; exact leOf))))
  all_goals try (conv => whnf)
  refine And.intro (fun _ => ?_) (bad (eqB_agg fun i hi => ?_))
  rotate_left
  · exact Eq.refl (at8 _ i)
  repeat (first | ((conv => whnf); refine And.intro ?_ ?_; exact sideOf) | ((conv => whnf); refine And.intro (fun _ => ?_) (fun h => nomatch (show true = false from h))) | ((conv => whnf); refine And.intro (fun h => nomatch (show false = true from h)) (fun _ => ?_)) | ((conv => whnf); first | (apply Exists.intro; (repeat apply Exists.intro); refine And.intro ?_ ?_; exact leOf) | (refine Or.inl ?_; (conv => whnf); (repeat apply Exists.intro); refine And.intro ?_ ?_; exact leOf) | (refine Or.inr ?_; (conv => whnf); first | ((repeat apply Exists.intro); refine And.intro ?_ ?_; exact leOf) | (refine Or.inl ?_; (conv => whnf); (repeat apply Exists.intro); refine And.intro ?_ ?_; exact leOf) | (refine Or.inr ?_; (conv => whnf); (repeat apply Exists.intro); refine And.intro ?_ ?_; exact leOf))))
  all_goals try (conv => whnf)
  refine And.intro (fun _ => ?_) (bad (eqB_agg fun i hi => ?_))
  rotate_left
  · conv => whnf
    rw [List.nil_append, lw_at8 _ _ (by rw [List.length_append, lw_len, lw_len])]
  repeat (first | ((conv => whnf); refine And.intro ?_ ?_; exact sideOf) | ((conv => whnf); refine And.intro (fun _ => ?_) (fun h => nomatch (show true = false from h))) | ((conv => whnf); refine And.intro (fun h => nomatch (show false = true from h)) (fun _ => ?_)) | ((conv => whnf); first | (apply Exists.intro; (repeat apply Exists.intro); refine And.intro ?_ ?_; exact leOf) | (refine Or.inl ?_; (conv => whnf); (repeat apply Exists.intro); refine And.intro ?_ ?_; exact leOf) | (refine Or.inr ?_; (conv => whnf); first | ((repeat apply Exists.intro); refine And.intro ?_ ?_; exact leOf) | (refine Or.inl ?_; (conv => whnf); (repeat apply Exists.intro); refine And.intro ?_ ?_; exact leOf) | (refine Or.inr ?_; (conv => whnf); (repeat apply Exists.intro); refine And.intro ?_ ?_; exact leOf))))
  all_goals try (conv => whnf)
  refine eqB_agg fun i hi => ?_
  conv => whnf
  rw [List.nil_append]
end Go.Proofs.YtobbphkkebempaaDoor
