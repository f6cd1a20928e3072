/- Flash: After, Blank, Pages. -/
import Derived.Test.YtldlleoabbcpdaaDoorYD
namespace Go.Proofs.YtldlleoabbcpdaaDoor
open Go.RowKit
set_option maxRecDepth 100000
set_option maxHeartbeats 20000000
abbrev pgF (m : Nat → BitVec 8) (i : Nat) : Nat → BitVec 8 := fun j => m (i * 256 + j)
abbrev aftA (P q : Nat) (m p : Nat → BitVec 8) (i a : Int) : List AV := [flI P m, .int i, .int a, bsl q p]
theorem nr_flI (P : Nat) (m : Nat → BitVec 8) (i : Int) : NoRowL [flI P m, .int i] := ⟨fun x hx => by
  obtain rfl : x = 0 := by omega
  exact ⟨rfl, fun _ _ => trivial⟩, trivial, trivial⟩
def C_fl_After0 : SpecR := fun A K => ∃ (P : Nat) (m p : Nat → BitVec 8) (i a : Int), A (aftA P 0 m p i a) ∧ (P ≤ 1024 ∧ i64' i ∧ (0 ≤ i ∧ i < P)) ∧ K (tupOf [.gsub 5 8 256 0 256, .nat 0]) [(8, .grow 5 256 (bys fun _ => 255))]
theorem g_fl_After0 : Gd 54 (pureR ty C_fl_After0) := by
  refine goodR (E := PG [(42, pureP ty C_fl_checkPage), (44, pureR ty C_blank)]) (pgOK ⟨g_fl_checkPage, g_blank, trivial⟩) mixes Tryd.func54 (by kernel_rfl) (by kernel_rfl) ?_
  rintro A K ⟨P, m, p, i, a, hA, ⟨hP, hi6, hi⟩, hK⟩
  refine ⟨_, _, _, fun _ => none, hA, hK, by kernel_rfl, by kernel_rfl, ⟨fun _ _ => trivial, trivial⟩, own_res trivial trivial, ?_⟩
  repeat ((conv => whnf); first | refine sdO ?_ | refine nlO ?_ | refine goA ?_ | refine goB ?_ | (apply Exists.intro; (repeat apply Exists.intro); refine caO ?_) | (refine Or.inl ?_; (conv => whnf); (repeat apply Exists.intro); refine caO ?_) | (refine Or.inr ?_; (conv => whnf); first | ((repeat apply Exists.intro); refine caO ?_) | (refine Or.inl ?_; (conv => whnf); (repeat apply Exists.intro); refine caO ?_) | (refine Or.inr ?_; (conv => whnf); (repeat apply Exists.intro); refine caO ?_)) | refine And.intro (by assumption) ?_ | refine goT ?_ | refine goF ?_ | refine goL ?_ | refine goR ?_ | refine goRL ?_ | refine goRR ?_)
  all_goals try (conv => whnf)
  (refine out_fnd ?_; (repeat' ((conv => whnf) <;> first | exact trivial | (with_reducible first | refine And.intro ?_ ?_ | refine rows_lt1 ?_ | refine rows_lt2 ?_ ?_ | refine rows_lt3 ?_ ?_ ?_ | refine rows_lt4 ?_ ?_ ?_ ?_ | refine rows_lt5 ?_ ?_ ?_ ?_ ?_ | refine ints_lt1 ?_ | refine ints_lt2 ?_ ?_ | refine ints_lt3 ?_ ?_ ?_ | refine rows_lt7 ?_ ?_ ?_ ?_ ?_ ?_ ?_ | refine aggs_lt1 ?_ | refine aggs_lt2 ?_ ?_ | refine aggs_lt3 ?_ ?_ ?_ | refine fun (_ : Nat) => ?_) | refine fun (_ : (_ : Nat) < _) => ?_ | exact rfl | exact Nat.le_of_ble_eq_true rfl | (change (_ : Nat) ≤ _; omega) | (change (_ : Nat) = _; omega) | (change (_ : Int) = _; omega))); (all_goals try (conv => whnf)))
def C_fl_After : SpecR := fun A K => ∃ (P q : Nat) (m p : Nat → BitVec 8) (i a : Int), A (aftA P q m p i a) ∧ (P ≤ 1024 ∧ i64' i ∧ i64' a ∧ (0 ≤ i ∧ i < P) ∧ 0 < q ∧ (0 ≤ a ∧ a + q ≤ 256) ∧ ∀ x, x < q → ¬ badB (pgF m i.toNat) a.toNat p x) ∧ K (tupOf [.gsub 5 8 256 0 256, .nat 0]) [(8, .grow 5 256 (bys (setF (pgF m i.toNat) a.toNat q p)))]
theorem g_fl_After : Gd 54 (pureR ty C_fl_After) := by
  refine goodR (E := PG [(42, pureP ty C_fl_checkPage), (56, pureP ty C_fl_within), (43, aliasP ty C_fl_page), (51, pureR ty C_bclone), (50, mutD ty [true, false] C_fl_write)]) (pgOK ⟨g_fl_checkPage, g_fl_within, g_fl_page, g_bclone, g_fl_write, trivial⟩) mixes Tryd.func54 (by kernel_rfl) (by kernel_rfl) ?_
  rintro A K ⟨P, q, m, p, i, a, hA, ⟨hP, hi6, ha6, hi, h0, hr, hb⟩, hK⟩
  refine ⟨_, _, _, fun _ => none, hA, hK, by kernel_rfl, by kernel_rfl, ⟨fun _ _ => trivial, trivial⟩, own_res trivial trivial, ?_⟩
  have hw : (!decide (0 ≤ a ∧ (0 : Int) ≤ (q : Int) ∧ a + (q : Int) ≤ ((Int.toNat 256 : Nat) : Int))) = false := notF (decide_eq_true (by simp only [Int.reduceToNat]; omega))
  repeat ((conv => whnf); first | refine sdO ?_ | refine nlO ?_ | refine goA ?_ | refine goB ?_ | (apply Exists.intro; (repeat apply Exists.intro); refine caO ?_) | (refine Or.inl ?_; (conv => whnf); (repeat apply Exists.intro); refine caO ?_) | (refine Or.inr ?_; (conv => whnf); first | ((repeat apply Exists.intro); refine caO ?_) | (refine Or.inl ?_; (conv => whnf); (repeat apply Exists.intro); refine caO ?_) | (refine Or.inr ?_; (conv => whnf); (repeat apply Exists.intro); refine caO ?_)) | refine And.intro (by assumption) ?_ | refine goT ?_ | refine goF ?_ | refine goL ?_ | refine goR ?_ | refine goRL ?_ | refine goRR ?_)
  all_goals try (conv => whnf)
  refine ⟨P, m, i, ⟨?_, nr_flI P m i⟩, hP, hi, ?_⟩
  · ((repeat' ((conv => whnf) <;> first | exact trivial | (with_reducible first | refine And.intro ?_ ?_ | refine rows_lt1 ?_ | refine rows_lt2 ?_ ?_ | refine rows_lt3 ?_ ?_ ?_ | refine rows_lt4 ?_ ?_ ?_ ?_ | refine rows_lt5 ?_ ?_ ?_ ?_ ?_ | refine ints_lt1 ?_ | refine ints_lt2 ?_ ?_ | refine ints_lt3 ?_ ?_ ?_ | refine rows_lt7 ?_ ?_ ?_ ?_ ?_ ?_ ?_ | refine aggs_lt1 ?_ | refine aggs_lt2 ?_ ?_ | refine aggs_lt3 ?_ ?_ ?_ | refine fun (_ : Nat) => ?_) | refine fun (_ : (_ : Nat) < _) => ?_ | exact rfl | exact Nat.le_of_ble_eq_true rfl | (change (_ : Nat) ≤ _; omega) | (change (_ : Nat) = _; omega) | (change (_ : Int) = _; omega))); (all_goals try (conv => whnf)))
  repeat ((conv => whnf); first | refine sdO ?_ | refine nlO ?_ | refine goA ?_ | refine goB ?_ | (apply Exists.intro; (repeat apply Exists.intro); refine caO ?_) | (refine Or.inl ?_; (conv => whnf); (repeat apply Exists.intro); refine caO ?_) | (refine Or.inr ?_; (conv => whnf); first | ((repeat apply Exists.intro); refine caO ?_) | (refine Or.inl ?_; (conv => whnf); (repeat apply Exists.intro); refine caO ?_) | (refine Or.inr ?_; (conv => whnf); (repeat apply Exists.intro); refine caO ?_)) | refine And.intro (by assumption) ?_ | refine goT ?_ | refine goF ?_ | refine goL ?_ | refine goR ?_ | refine goRL ?_ | refine goRR ?_)
  all_goals try (conv => whnf)
  (refine out_fnd ?_; (repeat' ((conv => whnf) <;> first | exact trivial | (with_reducible first | refine And.intro ?_ ?_ | refine rows_lt1 ?_ | refine rows_lt2 ?_ ?_ | refine rows_lt3 ?_ ?_ ?_ | refine rows_lt4 ?_ ?_ ?_ ?_ | refine rows_lt5 ?_ ?_ ?_ ?_ ?_ | refine ints_lt1 ?_ | refine ints_lt2 ?_ ?_ | refine ints_lt3 ?_ ?_ ?_ | refine rows_lt7 ?_ ?_ ?_ ?_ ?_ ?_ ?_ | refine aggs_lt1 ?_ | refine aggs_lt2 ?_ ?_ | refine aggs_lt3 ?_ ?_ ?_ | refine fun (_ : Nat) => ?_) | refine fun (_ : (_ : Nat) < _) => ?_ | exact rfl | exact Nat.le_of_ble_eq_true rfl | (change (_ : Nat) ≤ _; omega) | (change (_ : Nat) = _; omega) | (change (_ : Int) = _; omega))); (all_goals try (conv => whnf)))
section
attribute [local irreducible] lw
end
def pgN (P : Nat) (z : Nat → Int) : Nat → Nat
  | 0 => 0
  | k + 1 => if 0 ≤ z k ∧ z k < P then pgN P z k + 1 else pgN P z k
def pgC (P : Nat) (m : Nat → BitVec 8) (z : Nat → Int) : Nat → Nat → BitVec 8
  | 0, _ => 0
  | k + 1, j => if 0 ≤ z k ∧ z k < P then (if j < pgN P z k * 256 then pgC P m z k j else m ((z k).toNat * 256 + (j - pgN P z k * 256))) else pgC P m z k j
attribute [irreducible] pgN pgC
end Go.Proofs.YtldlleoabbcpdaaDoor
