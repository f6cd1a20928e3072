/- A chip's fuses: the array's methods. -/
import Derived.Test.YtglijhimopdgkaaGreatDoorU5
import Derived.Test.YtglijhimopdgkaaGreatDoorGH
namespace Go.Proofs.YtglijhimopdgkaaGreatDoor
open Go.RowKit
set_option maxRecDepth 100000
set_option maxHeartbeats 20000000
abbrev TCh : Ty := ty 138
abbrev chI (w : Nat → BitVec 32) (l : Nat → Bool) : AV := .ipt TCh (.agg false 1 (nth .junk [arI 64 w l]))
abbrev chR (d a b c : Nat) (w : Nat → BitVec 32) (l : Nat → Bool) : List (Nat × Row) := (d, .var TCh (.agg false 1 (nth .junk [.ptr TAr a []]))) :: arR a b c 64 w l
theorem own_ch (d a b c : Nat) (w : Nat → BitVec 32) (l : Nat → Bool) : OwnRws (chR d a b c w l) := ⟨fun i hi => by
  rcases i with _ | i
  · exact trivial
  · omega, own_ar a b c 64 w l⟩
theorem norow_ar (n : Nat) (w : Nat → BitVec 32) (l : Nat → Bool) : NoRow (arI n w l) := fun i hi => by
  rcases i with _ | _ | i
  · exact ⟨rfl, fun _ _ => trivial⟩
  · exact ⟨rfl, fun _ _ => trivial⟩
  · omega
theorem norow_ch (w : Nat → BitVec 32) (l : Nat → Bool) : NoRow (chI w l) := fun i hi => by
  rcases i with _ | i
  · exact norow_ar 64 w l
  · omega
def C_ot_fuses_i : SpecP := fun A K => ∃ w l, A [chI w l] ∧ K (.agg false 1 (nth .junk [arI 64 w l]))
theorem g_ot_fuses_i : Gd 124 (aliasP ty C_ot_fuses_i) := by
  refine goodA (E := PG []) (pgOK trivial) mixes Tryz.func124 (by kernel_rfl) (by kernel_rfl) ?_
  rintro A K ⟨w, l, hA, hK⟩
  refine ⟨_, _, hA, hK, by kernel_rfl, fun i hi => ?_, ?_⟩
  · rcases i with _ | i
    · exact norow_ar 64 w l
    · omega
  repeat ((conv => whnf); first | refine sdO ?_ | refine nlO ?_ | refine goA ?_ | refine goB ?_ | (apply Exists.intro; (repeat apply Exists.intro); refine caO ?_) | (refine Or.inl ?_; (conv => whnf); (repeat apply Exists.intro); refine caO ?_) | (refine Or.inr ?_; (conv => whnf); first | ((repeat apply Exists.intro); refine caO ?_) | (refine Or.inl ?_; (conv => whnf); (repeat apply Exists.intro); refine caO ?_) | (refine Or.inr ?_; (conv => whnf); (repeat apply Exists.intro); refine caO ?_)) | refine And.intro (by assumption) ?_ | refine goT ?_ | refine goF ?_ | refine goL ?_ | refine goR ?_ | refine goRL ?_ | refine goRR ?_)
  all_goals try (conv => whnf)
  ((repeat' ((conv => whnf) <;> first | exact trivial | (with_reducible first | refine And.intro ?_ ?_ | refine qL1 ?_ | refine qL2 ?_ ?_ | refine qL3 ?_ ?_ ?_ | refine qL4 ?_ ?_ ?_ ?_ | refine qL5 ?_ ?_ ?_ ?_ ?_ | refine yL1 ?_ | refine yL2 ?_ ?_ | refine yL3 ?_ ?_ ?_ | refine qL7 ?_ ?_ ?_ ?_ ?_ ?_ ?_ | refine zL1 ?_ | refine zL2 ?_ ?_ | refine zL3 ?_ ?_ ?_ | refine fun (_ : Nat) => ?_) | refine fun (_ : (_ : Nat) < _) => ?_ | exact rfl | exact Nat.le_of_ble_eq_true rfl | (change (_ : Nat) ≤ _; omega) | (change (_ : Nat) = _; omega) | (change (_ : Int) = _; omega))); (all_goals try (conv => whnf)))
def C_ot_New : SpecR := fun A K => A [] ∧ K (.ptr TCh 8 []) (chR 8 9 10 11 (fun _ => 0) fun _ => false)
theorem g_ot_New : Gd 31 (pureR ty C_ot_New) := by
  refine goodR (E := PG [(55, pureR ty C_fu_New)]) (pgOK ⟨g_fu_New, trivial⟩) mixes Tryz.func31 (by kernel_rfl) (by kernel_rfl) ?_
  rintro A K ⟨hA, hK⟩
  refine ⟨_, _, _, fun _ => none, hA, hK, by kernel_rfl, by kernel_rfl, own_ch _ _ _ _ _ _, trivial, ?_⟩
  repeat ((conv => whnf); first | refine sdO ?_ | refine nlO ?_ | refine goA ?_ | refine goB ?_ | (apply Exists.intro; (repeat apply Exists.intro); refine caO ?_) | (refine Or.inl ?_; (conv => whnf); (repeat apply Exists.intro); refine caO ?_) | (refine Or.inr ?_; (conv => whnf); first | ((repeat apply Exists.intro); refine caO ?_) | (refine Or.inl ?_; (conv => whnf); (repeat apply Exists.intro); refine caO ?_) | (refine Or.inr ?_; (conv => whnf); (repeat apply Exists.intro); refine caO ?_)) | refine And.intro (by assumption) ?_ | refine goT ?_ | refine goF ?_ | refine goL ?_ | refine goR ?_ | refine goRL ?_ | refine goRR ?_)
  all_goals try (conv => whnf)
  (refine out_fnd ?_; (repeat' ((conv => whnf) <;> first | exact trivial | (with_reducible first | refine And.intro ?_ ?_ | refine qL1 ?_ | refine qL2 ?_ ?_ | refine qL3 ?_ ?_ ?_ | refine qL4 ?_ ?_ ?_ ?_ | refine qL5 ?_ ?_ ?_ ?_ ?_ | refine yL1 ?_ | refine yL2 ?_ ?_ | refine yL3 ?_ ?_ ?_ | refine qL7 ?_ ?_ ?_ ?_ ?_ ?_ ?_ | refine zL1 ?_ | refine zL2 ?_ ?_ | refine zL3 ?_ ?_ ?_ | refine fun (_ : Nat) => ?_) | refine fun (_ : (_ : Nat) < _) => ?_ | exact rfl | exact Nat.le_of_ble_eq_true rfl | (change (_ : Nat) ≤ _; omega) | (change (_ : Nat) = _; omega) | (change (_ : Int) = _; omega))); (all_goals try (conv => whnf)))
end Go.Proofs.YtglijhimopdgkaaGreatDoor
