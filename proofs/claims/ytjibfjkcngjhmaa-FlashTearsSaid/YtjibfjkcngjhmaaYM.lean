/- Flash: the example; an act cut down. -/
import Derived.Test.YtjibfjkcngjhmaaYL
namespace Go.Proofs.Ytjibfjkcngjhmaa
open Go.RowKit
set_option maxRecDepth 100000
set_option maxHeartbeats 20000000
def C_l12_awake : SpecP := fun A K => A [] ∧ K (.bo true)
theorem g_l12_awake : Gd 8 (pureP ty C_l12_awake) := by
  refine goodP (E := PG [(9, pureR ty C_fl_New), (18, mutD ty [true, false, false] C_fl_Write), (13, pureR ty C_fl_Read), (15, pureP ty C_r1_Same), (21, pureP ty C_fl_Blank)]) (pgOK ⟨g_fl_New, g_fl_Write, g_fl_Read, g_r1_Same, g_fl_Blank, trivial⟩) mixes Try.func8 (by kernel_rfl) (by kernel_rfl) ?_
  rintro A K ⟨hA, hK⟩
  refine ⟨_, _, fun _ => none, hA, hK, by kernel_rfl, trivial, ?_⟩
  repeat (first | ((conv => whnf); refine And.intro ?_ ?_; exact sideOf) | ((conv => whnf); refine NilE.some ?_ ?_; exact sideOf) | ((conv => whnf); refine And.intro (fun _ => ?_) (fun h => nomatch (show true = false from h))) | ((conv => whnf); refine And.intro (fun h => nomatch (show false = true from h)) (fun _ => ?_)) | ((conv => whnf); first | (apply Exists.intro; (repeat apply Exists.intro); refine And.intro ?_ ?_; exact leOf) | (refine Or.inl ?_; (conv => whnf); (repeat apply Exists.intro); refine And.intro ?_ ?_; exact leOf) | (refine Or.inr ?_; (conv => whnf); first | ((repeat apply Exists.intro); refine And.intro ?_ ?_; exact leOf) | (refine Or.inl ?_; (conv => whnf); (repeat apply Exists.intro); refine And.intro ?_ ?_; exact leOf) | (refine Or.inr ?_; (conv => whnf); (repeat apply Exists.intro); refine And.intro ?_ ?_; exact leOf))) | ((conv => whnf); first | refine And.intro (by assumption) ?_ | refine goT ?_ | refine goF ?_ | refine goL ?_ | refine goR ?_ | refine goRL ?_ | refine goRR ?_))
  all_goals try (conv => whnf)
  kernel_rfl
def C_r12_Few : SpecP := fun A K => ∃ (d : BitVec 8) (i j : Int) (q : Nat) (p : Nat → BitVec 8) (c : Nat) (k : Nat → BitVec 8), A [acF d i j q p c k] ∧ q ≤ maxLen ∧ c ≤ maxLen ∧ K (.agg false 5 (nth .junk [.u8 d, .int i, .int j, bsf (min q 300) p, bsf (min c 300) k]))
theorem g_r12_Few : Gd 12 (pureP ty C_r12_Few) := by
  refine goodP (E := PG [(17, pureR ty C_r1_Cut)]) (pgOK ⟨g_r1_Cut, trivial⟩) mixes Try.func12 (by kernel_rfl) (by kernel_rfl) ?_
  rintro A K ⟨d, i, j, q, p, c, k, hA, hq, hc, hK⟩
  refine ⟨_, _, fun _ => none, hA, hK, by kernel_rfl, fun x hx => ?_, ?_⟩
  · rcases x with _ | _ | _ | _ | _ | x
    · exact trivial
    · exact trivial
    · exact trivial
    · exact ⟨rfl, fun _ _ => trivial⟩
    · exact ⟨rfl, fun _ _ => trivial⟩
    · exact absurd hx (by omega)
  repeat (first | ((conv => whnf); refine And.intro ?_ ?_; exact sideOf) | ((conv => whnf); refine NilE.some ?_ ?_; exact sideOf) | ((conv => whnf); refine And.intro (fun _ => ?_) (fun h => nomatch (show true = false from h))) | ((conv => whnf); refine And.intro (fun h => nomatch (show false = true from h)) (fun _ => ?_)) | ((conv => whnf); first | (apply Exists.intro; (repeat apply Exists.intro); refine And.intro ?_ ?_; exact leOf) | (refine Or.inl ?_; (conv => whnf); (repeat apply Exists.intro); refine And.intro ?_ ?_; exact leOf) | (refine Or.inr ?_; (conv => whnf); first | ((repeat apply Exists.intro); refine And.intro ?_ ?_; exact leOf) | (refine Or.inl ?_; (conv => whnf); (repeat apply Exists.intro); refine And.intro ?_ ?_; exact leOf) | (refine Or.inr ?_; (conv => whnf); (repeat apply Exists.intro); refine And.intro ?_ ?_; exact leOf))) | ((conv => whnf); first | refine And.intro (by assumption) ?_ | refine goT ?_ | refine goF ?_ | refine goL ?_ | refine goR ?_ | refine goRL ?_ | refine goRR ?_))
  all_goals try (conv => whnf)
  ((repeat' ((conv => whnf) <;> first | exact trivial | (with_reducible first | refine And.intro ?_ ?_ | refine rows_lt1 ?_ | refine rows_lt2 ?_ ?_ | refine rows_lt3 ?_ ?_ ?_ | refine rows_lt4 ?_ ?_ ?_ ?_ | refine rows_lt5 ?_ ?_ ?_ ?_ ?_ | refine aggs_lt1 ?_ | refine aggs_lt2 ?_ ?_ | refine aggs_lt3 ?_ ?_ ?_ | refine fun (_ : Nat) => ?_) | refine fun (_ : (_ : Nat) < _) => ?_ | exact rfl | exact Nat.le_of_ble_eq_true rfl | (change (_ : Nat) ≤ _; omega) | (change (_ : Nat) = _; omega) | (change (_ : Int) = _; omega))); (all_goals try (conv => whnf)))
/-! ### What a law's arguments say -/
theorem lenq_of {c : Cx} {fr : Bool} {et : Ty} {l : Nat} {f : Nat → AV} {v : Value} (h : RV c (.imm fr et l f) v) : l ≤ maxLen := by
  obtain ⟨A, q, _, h1, h2, _⟩ := (show R c _ _ from h)
  exact Nat.le_trans h1 h2
theorem inn1 {c : Cx} {fr fr' : Bool} {et et' : Ty} {l l' : Nat} {f f' : Nat → AV} {v : Value} (h : RV c (.imm fr et l f) v) {k : Nat} (hk : k < l) (e : f k = .imm fr' et' l' f') : l' ≤ maxLen := by
  obtain ⟨A, q, _, h1, h2, h3⟩ := (show R c _ _ from h)
  obtain ⟨b, o, _, _, _, _, hi⟩ := h3 (by omega)
  obtain ⟨_, ds, hr, _⟩ := hi k hk
  rw [e] at hr
  obtain ⟨A, q, _, h1, h2, _⟩ := hr
  exact Nat.le_trans h1 h2
theorem inn2 {c : Cx} {fr fr' u : Bool} {et et' : Ty} {l l' n i : Nat} {f f' g : Nat → AV} {v : Value} (h : RV c (.imm fr et l f) v) {k : Nat} (hk : k < l) (e : f k = .agg u n g) (hin : i < n) (e' : g i = .imm fr' et' l' f') : l' ≤ maxLen := by
  obtain ⟨A, q, _, h1, h2, h3⟩ := (show R c _ _ from h)
  obtain ⟨b, o, _, _, _, _, hi⟩ := h3 (by omega)
  obtain ⟨_, ds, hr, _⟩ := hi k hk
  rw [e] at hr
  obtain ⟨w, hw, _⟩ := hr
  have hr := hw i hin
  rw [e'] at hr
  obtain ⟨A, q, _, h1, h2, _⟩ := hr
  exact Nat.le_trans h1 h2
theorem i64t (x : BitVec 64) : i64' x.toInt := by
  have h1 := BitVec.toInt_lt (x := x)
  have h2 := BitVec.le_toInt (x := x)
  exact ⟨by omega, by omega⟩
end Go.Proofs.Ytjibfjkcngjhmaa
