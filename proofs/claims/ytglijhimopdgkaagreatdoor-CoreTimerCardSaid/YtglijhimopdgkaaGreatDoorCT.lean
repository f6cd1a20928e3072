/- The core: CoreTimer. -/
import Derived.Test.YtglijhimopdgkaaGreatDoorCS
namespace Go.Proofs.YtglijhimopdgkaaGreatDoor
open Go.RowKit
set_option maxRecDepth 100000
set_option maxHeartbeats 20000000
attribute [local irreducible] wdV opV fR fA fB fI fC isV stepO stepM layF stX cdV enK enW stO
def C_l20_CoreTimer : SpecP := fun A K => ∃ n x ie status v, A [w32 n x, .u32 ie, .u32 status, .u8 v] ∧ n ≤ maxLen ∧ K (.bo true)
theorem g_l20_CoreTimer : Gd 5 (pureP ty C_l20_CoreTimer) := by
  refine goodP (E := PG [(7, pureP ty C_l20_awake), (9, pureR ty C_l20_lay), (13, pureP ty C_l20_start0), (21, pureP ty C_rv_Code), (22, pureP ty C_co_Set), (14, mutD ty [false, true, false] C_co_Step)]) (pgOK ⟨g_l20_awake, g_l20_lay, g_l20_start0, g_rv_Code, g_co_Set, g_co_Step, trivial⟩) mixes Tryz.func5 (by kernel_rfl) (by kernel_rfl) ?_
  rintro A K ⟨n, x, ie, status, v, hA, hn, hK⟩
  refine ⟨_, _, fun _ => none, hA, hK, by kernel_rfl, trivial, ?_⟩
  obtain ⟨w0, w4⟩ : ftW (layF (l1k 8) (tiB v)) = wdA v ∧ ftW (fun j => layF (l1k 8) (tiB v) (4 + j)) = wdM := ⟨ti_w0 (by decide) v, ti_w4 (by decide) v⟩
  obtain ⟨s1, hs1⟩ : ∃ s1, s1 = tiS x n ie status := ⟨_, rfl⟩
  have hp1 : s1.pc = codeA := by rw [hs1]; unfold tiS stO; rfl
  repeat ((conv => whnf); first | refine sdO ?_ | refine nlO ?_ | refine goA ?_ | refine goB ?_ | (apply Exists.intro; (repeat apply Exists.intro); refine caO ?_) | (refine Or.inl ?_; (conv => whnf); (repeat apply Exists.intro); refine caO ?_) | (refine Or.inr ?_; (conv => whnf); first | ((repeat apply Exists.intro); refine caO ?_) | (refine Or.inl ?_; (conv => whnf); (repeat apply Exists.intro); refine caO ?_) | (refine Or.inr ?_; (conv => whnf); (repeat apply Exists.intro); refine caO ?_)) | refine And.intro (by assumption) ?_ | refine goT ?_ | refine goF ?_ | refine goL ?_ | refine goR ?_ | refine goRL ?_ | refine goRR ?_)
  all_goals try (conv => whnf)
  refine ⟨2, tiO, tiR, fun _ => 0, fun _ => 0, tiI v, fun _ => 0, ?_, by decide, ?_⟩
  · ((repeat' ((conv => whnf) <;> first | exact trivial | (with_reducible first | refine And.intro ?_ ?_ | refine rows_lt1 ?_ | refine rows_lt2 ?_ ?_ | refine rows_lt3 ?_ ?_ ?_ | refine rows_lt4 ?_ ?_ ?_ ?_ | refine rows_lt5 ?_ ?_ ?_ ?_ ?_ | refine ints_lt1 ?_ | refine ints_lt2 ?_ ?_ | refine ints_lt3 ?_ ?_ ?_ | refine rows_lt7 ?_ ?_ ?_ ?_ ?_ ?_ ?_ | refine aggs_lt1 ?_ | refine aggs_lt2 ?_ ?_ | refine aggs_lt3 ?_ ?_ ?_ | refine fun (_ : Nat) => ?_) | refine fun (_ : (_ : Nat) < _) => ?_ | exact rfl | exact Nat.le_of_ble_eq_true rfl | (change (_ : Nat) ≤ _; omega) | (change (_ : Nat) = _; omega) | (change (_ : Int) = _; omega))); (all_goals try (conv => whnf)))
    all_goals (rename_i i hi; have h2 : i < 2 := hi; rcases i with _ | _ | i <;> first | (exact absurd h2 (by omega)) | ((repeat' ((conv => whnf) <;> first | exact trivial | (with_reducible first | refine And.intro ?_ ?_ | refine rows_lt1 ?_ | refine rows_lt2 ?_ ?_ | refine rows_lt3 ?_ ?_ ?_ | refine rows_lt4 ?_ ?_ ?_ ?_ | refine rows_lt5 ?_ ?_ ?_ ?_ ?_ | refine ints_lt1 ?_ | refine ints_lt2 ?_ ?_ | refine ints_lt3 ?_ ?_ ?_ | refine rows_lt7 ?_ ?_ ?_ ?_ ?_ ?_ ?_ | refine aggs_lt1 ?_ | refine aggs_lt2 ?_ ?_ | refine aggs_lt3 ?_ ?_ ?_ | refine fun (_ : Nat) => ?_) | refine fun (_ : (_ : Nat) < _) => ?_ | exact rfl | exact Nat.le_of_ble_eq_true rfl | (change (_ : Nat) ≤ _; omega) | (change (_ : Nat) = _; omega) | (change (_ : Int) = _; omega))); (all_goals try (conv => whnf))))
    all_goals trace_state
  have hmx : (8 : Nat) ≤ maxLen := by decide
  repeat ((conv => whnf); first | refine sdO ?_ | refine nlO ?_ | refine goA ?_ | refine goB ?_ | (apply Exists.intro; (repeat apply Exists.intro); refine caO ?_) | (refine Or.inl ?_; (conv => whnf); (repeat apply Exists.intro); refine caO ?_) | (refine Or.inr ?_; (conv => whnf); first | ((repeat apply Exists.intro); refine caO ?_) | (refine Or.inl ?_; (conv => whnf); (repeat apply Exists.intro); refine caO ?_) | (refine Or.inr ?_; (conv => whnf); (repeat apply Exists.intro); refine caO ?_)) | refine And.intro (by assumption) ?_ | refine goT ?_ | refine goF ?_ | refine goL ?_ | refine goR ?_ | refine goRL ?_ | refine goRR ?_)
  all_goals try (conv => whnf)
  refine ⟨1, ⟨layF (l1k 8) (tiB v), fun _ => 0⟩, fun _ => 255, fun _ => 0, fun _ => false, s1, true, ?_, fun _ _ => rfl, ?_⟩
  · rw [hs1]
    ((repeat' ((conv => whnf) <;> first | exact trivial | (with_reducible first | refine And.intro ?_ ?_ | refine rows_lt1 ?_ | refine rows_lt2 ?_ ?_ | refine rows_lt3 ?_ ?_ ?_ | refine rows_lt4 ?_ ?_ ?_ ?_ | refine rows_lt5 ?_ ?_ ?_ ?_ ?_ | refine ints_lt1 ?_ | refine ints_lt2 ?_ ?_ | refine ints_lt3 ?_ ?_ ?_ | refine rows_lt7 ?_ ?_ ?_ ?_ ?_ ?_ ?_ | refine aggs_lt1 ?_ | refine aggs_lt2 ?_ ?_ | refine aggs_lt3 ?_ ?_ ?_ | refine fun (_ : Nat) => ?_) | refine fun (_ : (_ : Nat) < _) => ?_ | exact rfl | exact Nat.le_of_ble_eq_true rfl | (change (_ : Nat) ≤ _; omega) | (change (_ : Nat) = _; omega) | (change (_ : Int) = _; omega))); (all_goals try (conv => whnf)))
    all_goals trace_state
  by_cases hi : intB (tmS s1 true)
  · have hb : ie / BitVec.ofInt 32 128 % BitVec.ofInt 32 2 = BitVec.ofInt 32 1 ∧ status / BitVec.ofInt 32 8 % BitVec.ofInt 32 2 = BitVec.ofInt 32 1 := (tiS_int x n ie status).1 (by rw [← hs1]; exact hi)
    obtain ⟨b1, b2⟩ := hb
    obtain ⟨r1, r2, r3, r4, r5, r6, r7⟩ := step_irq (st := 1) (me := ⟨layF (l1k 8) (tiB v), fun _ => 0⟩) (m := fun _ => 255) (w := fun _ => 0) hi
    obtain ⟨c0, c1, c2⟩ := tiS_is x n ie status
    rw [← hs1] at c0 c1 c2
    have hx0 : s1.x 0 = 0 := by rw [hs1]; unfold tiS stO; exact stX_0 x n
    obtain ⟨o, ho⟩ : ∃ o, o = stepO 1 ⟨layF (l1k 8) (tiB v), fun _ => 0⟩ (fun _ => 255) (fun _ => 0) s1 true := ⟨_, rfl⟩
    have hm8 : ¬ s1.c 0 &&& BitVec.ofInt 32 8 = BitVec.ofInt 32 0 := ((int_t s1).1 hi).2
    rw [if_neg hm8] at r6
    rw [c2] at r4
    rw [hp1] at r5
    have r3 : ∀ j, o.s.x j = s1.x j := fun j => by
      rw [ho, r3]
      by_cases e : j = 0
      · rw [if_pos e, e, hx0]
      · rw [if_neg e]
    rw [← ho] at r1 r2 r4 r5 r6 ⊢
    rw [r7]
    have r5 : o.s.c 4 = codeA := r5.trans (by decide)
    have q1 : (!o.tr == decide (status / BitVec.ofInt 32 8 % BitVec.ofInt 32 2 = BitVec.ofInt 32 1)) = false := by rw [r1, decide_eq_true b2]; rfl
    have hi2 : ¬ intB (tmS o.s true) := fun q => ((int_t o.s).1 q).2 (by rw [r6]; decide)
    obtain ⟨m1, m2, m3⟩ := ti_mret (po := fun _ => 0) (m := fun _ => 255) (w := fun _ => 0) hi2 r4 w4
    have m2 : (stepO 1 ⟨layF (l1k 8) (tiB v), fun _ => 0⟩ (fun _ => 255) (fun _ => 0) o.s true).s.pc = codeA := m2.trans r5
    obtain ⟨t1, t2, t3, t4⟩ := ti_addi (po := fun _ => 0) (m := fun _ => 255) (w := fun _ => 0) (int_f (stepO 1 ⟨layF (l1k 8) (tiB v), fun _ => 0⟩ (fun _ => 255) (fun _ => 0) o.s true).s) m2 w0
    have t1 : (!(stepO 1 (stepM 1 ⟨layF (l1k 8) (tiB v), fun _ => 0⟩ (fun _ => 255) (fun _ => 0) o.s true) (fun _ => 255) (fun _ => 0) (stepO 1 ⟨layF (l1k 8) (tiB v), fun _ => 0⟩ (fun _ => 255) (fun _ => 0) o.s true).s false).tr) = true := by rw [m3, t1]; rfl
    have t2 : (stepO 1 (stepM 1 ⟨layF (l1k 8) (tiB v), fun _ => 0⟩ (fun _ => 255) (fun _ => 0) o.s true) (fun _ => 255) (fun _ => 0) (stepO 1 ⟨layF (l1k 8) (tiB v), fun _ => 0⟩ (fun _ => 255) (fun _ => 0) o.s true).s false).s.x 5 = v.setWidth 32 := by rw [m3]; exact t2
    have g1 : (!(stepO 1 ⟨layF (l1k 8) (tiB v), fun _ => 0⟩ (fun _ => 255) (fun _ => 0) o.s true).tr) = true := by rw [m1]; rfl
    repeat ((conv => whnf); first | refine sdO ?_ | refine nlO ?_ | refine goA ?_ | refine goB ?_ | (apply Exists.intro; (repeat apply Exists.intro); refine caO ?_) | (refine Or.inl ?_; (conv => whnf); (repeat apply Exists.intro); refine caO ?_) | (refine Or.inr ?_; (conv => whnf); first | ((repeat apply Exists.intro); refine caO ?_) | (refine Or.inl ?_; (conv => whnf); (repeat apply Exists.intro); refine caO ?_) | (refine Or.inr ?_; (conv => whnf); (repeat apply Exists.intro); refine caO ?_)) | refine And.intro (by assumption) ?_ | refine goT ?_ | refine goF ?_ | refine goL ?_ | refine goR ?_ | refine goRL ?_ | refine goRR ?_)
    all_goals try (conv => whnf)
    refine And.intro (fun q => bad q (congrArg not (eqB_agg fun j _ => ?_))) (fun _ => ?_)
    · show AEq (AV.u32 (o.s.x j)) (AV.u32 ((tiS x n ie status).x j))
      rw [r3 j, hs1]
      exact rfl
    repeat ((conv => whnf); first | refine sdO ?_ | refine nlO ?_ | refine goA ?_ | refine goB ?_ | (apply Exists.intro; (repeat apply Exists.intro); refine caO ?_) | (refine Or.inl ?_; (conv => whnf); (repeat apply Exists.intro); refine caO ?_) | (refine Or.inr ?_; (conv => whnf); first | ((repeat apply Exists.intro); refine caO ?_) | (refine Or.inl ?_; (conv => whnf); (repeat apply Exists.intro); refine caO ?_) | (refine Or.inr ?_; (conv => whnf); (repeat apply Exists.intro); refine caO ?_)) | refine And.intro (by assumption) ?_ | refine goT ?_ | refine goF ?_ | refine goL ?_ | refine goR ?_ | refine goRL ?_ | refine goRR ?_)
    all_goals try (conv => whnf)
    ((repeat' ((conv => whnf) <;> first | exact trivial | (with_reducible first | refine And.intro ?_ ?_ | refine rows_lt1 ?_ | refine rows_lt2 ?_ ?_ | refine rows_lt3 ?_ ?_ ?_ | refine rows_lt4 ?_ ?_ ?_ ?_ | refine rows_lt5 ?_ ?_ ?_ ?_ ?_ | refine ints_lt1 ?_ | refine ints_lt2 ?_ ?_ | refine ints_lt3 ?_ ?_ ?_ | refine rows_lt7 ?_ ?_ ?_ ?_ ?_ ?_ ?_ | refine aggs_lt1 ?_ | refine aggs_lt2 ?_ ?_ | refine aggs_lt3 ?_ ?_ ?_ | refine fun (_ : Nat) => ?_) | refine fun (_ : (_ : Nat) < _) => ?_ | exact rfl | exact Nat.le_of_ble_eq_true rfl | (change (_ : Nat) ≤ _; omega) | (change (_ : Nat) = _; omega) | (change (_ : Int) = _; omega))); (all_goals try (conv => whnf)))
    all_goals exact decide_eq_true t2
  · obtain ⟨t1, t2, t3, t4⟩ := ti_addi (po := fun _ => 0) (m := fun _ => 255) (w := fun _ => 0) hi hp1 w0
    by_cases b1 : ie / BitVec.ofInt 32 128 % BitVec.ofInt 32 2 = BitVec.ofInt 32 1
    · have b2 : ¬ status / BitVec.ofInt 32 8 % BitVec.ofInt 32 2 = BitVec.ofInt 32 1 := fun q => hi (by rw [hs1]; exact (tiS_int x n ie status).2 ⟨b1, q⟩)
      have q1 : (!(stepO 1 { ra := layF (l1k 8) (tiB v), po := fun _ => 0 } (fun _ => 255) (fun _ => 0) s1 true).tr == decide (status / BitVec.ofInt 32 8 % BitVec.ofInt 32 2 = BitVec.ofInt 32 1)) = false := by rw [t1, decide_eq_false b2]; rfl
      repeat ((conv => whnf); first | refine sdO ?_ | refine nlO ?_ | refine goA ?_ | refine goB ?_ | (apply Exists.intro; (repeat apply Exists.intro); refine caO ?_) | (refine Or.inl ?_; (conv => whnf); (repeat apply Exists.intro); refine caO ?_) | (refine Or.inr ?_; (conv => whnf); first | ((repeat apply Exists.intro); refine caO ?_) | (refine Or.inl ?_; (conv => whnf); (repeat apply Exists.intro); refine caO ?_) | (refine Or.inr ?_; (conv => whnf); (repeat apply Exists.intro); refine caO ?_)) | refine And.intro (by assumption) ?_ | refine goT ?_ | refine goF ?_ | refine goL ?_ | refine goR ?_ | refine goRL ?_ | refine goRR ?_)
      all_goals try (conv => whnf)
      ((repeat' ((conv => whnf) <;> first | exact trivial | (with_reducible first | refine And.intro ?_ ?_ | refine rows_lt1 ?_ | refine rows_lt2 ?_ ?_ | refine rows_lt3 ?_ ?_ ?_ | refine rows_lt4 ?_ ?_ ?_ ?_ | refine rows_lt5 ?_ ?_ ?_ ?_ ?_ | refine ints_lt1 ?_ | refine ints_lt2 ?_ ?_ | refine ints_lt3 ?_ ?_ ?_ | refine rows_lt7 ?_ ?_ ?_ ?_ ?_ ?_ ?_ | refine aggs_lt1 ?_ | refine aggs_lt2 ?_ ?_ | refine aggs_lt3 ?_ ?_ ?_ | refine fun (_ : Nat) => ?_) | refine fun (_ : (_ : Nat) < _) => ?_ | exact rfl | exact Nat.le_of_ble_eq_true rfl | (change (_ : Nat) ≤ _; omega) | (change (_ : Nat) = _; omega) | (change (_ : Int) = _; omega))); (all_goals try (conv => whnf)))
      exact decide_eq_true t3
    · skip
      repeat ((conv => whnf); first | refine sdO ?_ | refine nlO ?_ | refine goA ?_ | refine goB ?_ | (apply Exists.intro; (repeat apply Exists.intro); refine caO ?_) | (refine Or.inl ?_; (conv => whnf); (repeat apply Exists.intro); refine caO ?_) | (refine Or.inr ?_; (conv => whnf); first | ((repeat apply Exists.intro); refine caO ?_) | (refine Or.inl ?_; (conv => whnf); (repeat apply Exists.intro); refine caO ?_) | (refine Or.inr ?_; (conv => whnf); (repeat apply Exists.intro); refine caO ?_)) | refine And.intro (by assumption) ?_ | refine goT ?_ | refine goF ?_ | refine goL ?_ | refine goR ?_ | refine goRL ?_ | refine goRR ?_)
      all_goals try (conv => whnf)
      ((repeat' ((conv => whnf) <;> first | exact trivial | (with_reducible first | refine And.intro ?_ ?_ | refine rows_lt1 ?_ | refine rows_lt2 ?_ ?_ | refine rows_lt3 ?_ ?_ ?_ | refine rows_lt4 ?_ ?_ ?_ ?_ | refine rows_lt5 ?_ ?_ ?_ ?_ ?_ | refine ints_lt1 ?_ | refine ints_lt2 ?_ ?_ | refine ints_lt3 ?_ ?_ ?_ | refine rows_lt7 ?_ ?_ ?_ ?_ ?_ ?_ ?_ | refine aggs_lt1 ?_ | refine aggs_lt2 ?_ ?_ | refine aggs_lt3 ?_ ?_ ?_ | refine fun (_ : Nat) => ?_) | refine fun (_ : (_ : Nat) < _) => ?_ | exact rfl | exact Nat.le_of_ble_eq_true rfl | (change (_ : Nat) ≤ _; omega) | (change (_ : Nat) = _; omega) | (change (_ : Int) = _; omega))); (all_goals try (conv => whnf)))
      exact decide_eq_true t3
end Go.Proofs.YtglijhimopdgkaaGreatDoor
