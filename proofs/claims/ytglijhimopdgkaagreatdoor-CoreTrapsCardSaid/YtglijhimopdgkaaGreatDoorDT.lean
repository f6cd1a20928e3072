/- The core: CoreTraps. -/
import Derived.Test.YtglijhimopdgkaaGreatDoorCZ
namespace Go.Proofs.YtglijhimopdgkaaGreatDoor
open Go.RowKit
set_option maxRecDepth 100000
set_option maxHeartbeats 20000000
attribute [local irreducible] wdV opV fR fA fB fI fC isV stepO stepM layF stX cdV enK enW stO stCs rfCs
def wB4 (w : BitVec 32) (j : Nat) : BitVec 8 := (w >>> (8 * j)).setWidth 8
noncomputable abbrev mrB : Nat → BitVec 8 := cdV (fun _ => BitVec.ofInt 8 41) (fun _ => 0) (fun _ => 0) (fun _ => 0) (fun _ => 0) (fun _ => 0)
theorem mr_w {n : Nat} (hn : 4 ≤ n) : ftW (layF n mrB) = wdM := by
  refine ft_by _ _ fun j hj => ?_
  rw [lay_at (by omega)]
  have e := cdV_at (fun _ => BitVec.ofInt 8 41) (fun _ => 0) (fun _ => 0) (fun _ => 0) (fun _ => 0) (fun _ => 0) 0 j hj
  rw [Nat.mul_zero, Nat.zero_add] at e
  show cdV (fun _ => BitVec.ofInt 8 41) (fun _ => 0) (fun _ => 0) (fun _ => 0) (fun _ => 0) (fun _ => 0) j = _
  rw [e]
  unfold enK
  show (enW (BitVec.ofInt 8 41) 0 0 0 0 0 >>> (8 * j)).setWidth 8 = _
  rw [en_wd in_mret]
theorem b3_is (x : BitVec 32) (h : x &&& BitVec.ofInt 32 8 = BitVec.ofInt 32 0) : x / BitVec.ofInt 32 8 % BitVec.ofInt 32 2 = BitVec.ofInt 32 0 := by
  have h1 : ¬ x / BitVec.ofInt 32 8 % BitVec.ofInt 32 2 = BitVec.ofInt 32 1 := fun q => (bit3 x).1 q h
  have e : (x / BitVec.ofInt 32 8 % BitVec.ofInt 32 2).toNat < 2 := by
    rw [BitVec.toNat_umod, show (BitVec.ofInt 32 2).toNat = 2 by decide]
    exact Nat.mod_lt _ (by decide)
  apply BitVec.eq_of_toNat_eq
  rw [show (BitVec.ofInt 32 0).toNat = 0 by decide]
  rcases (show (x / BitVec.ofInt 32 8 % BitVec.ofInt 32 2).toNat = 0 ∨ (x / BitVec.ofInt 32 8 % BitVec.ofInt 32 2).toNat = 1 by omega) with q | q
  · exact q
  · exact absurd (BitVec.eq_of_toNat_eq (q.trans (by decide))) h1
def C_l20_CoreTraps : SpecP := fun A K => ∃ w n x l y t, A [.u32 w, w32 n x, w32 l y, .bo t] ∧ n ≤ maxLen ∧ l ≤ maxLen ∧ K (.bo true)
theorem g_l20_CoreTraps : Gd 4 (pureP ty C_l20_CoreTraps) := by
  refine goodP (E := PG [(7, pureP ty C_l20_awake), (9, pureR ty C_l20_lay), (13, pureP ty C_l20_start), (14, mutD ty [false, true, false] C_co_Step), (20, pureP ty C_co_Csr), (17, pureP ty C_l20_memory), (21, pureP ty C_rv_Code)]) (pgOK ⟨g_l20_awake, g_l20_lay, g_l20_start, g_co_Step, g_co_Csr, g_l20_memory, g_rv_Code, trivial⟩) mixes Tryz.func4 (by kernel_rfl) (by kernel_rfl) ?_
  rintro A K ⟨w, n, x, l, y, t, hA, hn, hl, hK⟩
  refine ⟨_, _, fun _ => none, hA, hK, by kernel_rfl, trivial, ?_⟩
  have hmx : (4 : Nat) ≤ maxLen := by decide
  obtain ⟨S, hS⟩ : ∃ S, S = stCs ⟨stX x n, codeA, fun _ => 0⟩ y l := ⟨_, rfl⟩
  have hsx : S.x = stX x n := by rw [hS]; exact (stCs_is _ y l).1
  have hsp : S.pc = codeA := by rw [hS]; exact (stCs_is _ y l).2
  have hs0 : S.x 0 = 0 := by rw [hsx]; exact stX_0 x n
  repeat ((conv => whnf); first | refine sdO ?_ | refine nlO ?_ | refine goA ?_ | refine goB ?_ | (apply Exists.intro; (repeat apply Exists.intro); refine caO ?_) | (refine Or.inl ?_; (conv => whnf); (repeat apply Exists.intro); refine caO ?_) | (refine Or.inr ?_; (conv => whnf); first | ((repeat apply Exists.intro); refine caO ?_) | (refine Or.inl ?_; (conv => whnf); (repeat apply Exists.intro); refine caO ?_) | (refine Or.inr ?_; (conv => whnf); (repeat apply Exists.intro); refine caO ?_)) | refine And.intro (by assumption) ?_ | refine goT ?_ | refine goF ?_ | refine goL ?_ | refine goR ?_ | refine goRL ?_ | refine goRR ?_)
  all_goals try (conv => whnf)
  refine ⟨1, ⟨layF 4 (wB4 w), fun _ => 0⟩, fun _ => 255, fun _ => 0, fun _ => false, S, t, ?_, fun _ _ => rfl, ?_⟩
  · rw [hS]
    ((repeat' ((conv => whnf) <;> first | exact trivial | (with_reducible first | refine And.intro ?_ ?_ | refine qL1 ?_ | refine qL2 ?_ ?_ | refine qL3 ?_ ?_ ?_ | refine qL4 ?_ ?_ ?_ ?_ | refine qL5 ?_ ?_ ?_ ?_ ?_ | refine yL1 ?_ | refine yL2 ?_ ?_ | refine yL3 ?_ ?_ ?_ | refine qL7 ?_ ?_ ?_ ?_ ?_ ?_ ?_ | refine zL1 ?_ | refine zL2 ?_ ?_ | refine zL3 ?_ ?_ ?_ | refine fun (_ : Nat) => ?_) | refine fun (_ : (_ : Nat) < _) => ?_ | exact rfl | exact Nat.le_of_ble_eq_true rfl | (change (_ : Nat) ≤ _; omega) | (change (_ : Nat) = _; omega) | (change (_ : Int) = _; omega))); (all_goals try (conv => whnf)))
    all_goals (rename_i i hi; exact lay_cong (n := 4) (fun j (hj : j < 4) => by rcases (show j = 0 ∨ j = 1 ∨ j = 2 ∨ j = 3 by omega) with rfl | rfl | rfl | rfl <;> rfl) i)
  cases htr : (stepO 1 ⟨layF 4 (wB4 w), fun _ => 0⟩ (fun _ => 255) (fun _ => 0) S t).tr with
  | false =>
    have htr' : (!(stepO 1 ⟨layF 4 (wB4 w), fun _ => 0⟩ (fun _ => 255) (fun _ => 0) S t).tr) = true := by rw [htr]; rfl
    repeat ((conv => whnf); first | refine sdO ?_ | refine nlO ?_ | refine goA ?_ | refine goB ?_ | (apply Exists.intro; (repeat apply Exists.intro); refine caO ?_) | (refine Or.inl ?_; (conv => whnf); (repeat apply Exists.intro); refine caO ?_) | (refine Or.inr ?_; (conv => whnf); first | ((repeat apply Exists.intro); refine caO ?_) | (refine Or.inl ?_; (conv => whnf); (repeat apply Exists.intro); refine caO ?_) | (refine Or.inr ?_; (conv => whnf); (repeat apply Exists.intro); refine caO ?_)) | refine And.intro (by assumption) ?_ | refine goT ?_ | refine goF ?_ | refine goL ?_ | refine goR ?_ | refine goRL ?_ | refine goRR ?_)
    all_goals try (conv => whnf)
    ((repeat' ((conv => whnf) <;> first | exact trivial | (with_reducible first | refine And.intro ?_ ?_ | refine qL1 ?_ | refine qL2 ?_ ?_ | refine qL3 ?_ ?_ ?_ | refine qL4 ?_ ?_ ?_ ?_ | refine qL5 ?_ ?_ ?_ ?_ ?_ | refine yL1 ?_ | refine yL2 ?_ ?_ | refine yL3 ?_ ?_ ?_ | refine qL7 ?_ ?_ ?_ ?_ ?_ ?_ ?_ | refine zL1 ?_ | refine zL2 ?_ ?_ | refine zL3 ?_ ?_ ?_ | refine fun (_ : Nat) => ?_) | refine fun (_ : (_ : Nat) < _) => ?_ | exact rfl | exact Nat.le_of_ble_eq_true rfl | (change (_ : Nat) ≤ _; omega) | (change (_ : Nat) = _; omega) | (change (_ : Int) = _; omega))); (all_goals try (conv => whnf)))
  | true =>
    have htr' : (!(stepO 1 ⟨layF 4 (wB4 w), fun _ => 0⟩ (fun _ => 255) (fun _ => 0) S t).tr) = false := by rw [htr]; rfl
    obtain ⟨r1, r2, r3, r4, r5, r6⟩ := step_tr hs0 htr
    obtain ⟨o, ho⟩ : ∃ o, o = stepO 1 ⟨layF 4 (wB4 w), fun _ => 0⟩ (fun _ => 255) (fun _ => 0) S t := ⟨_, rfl⟩
    rw [r6]
    rw [← ho] at htr htr' r1 r2 r3 r4 r5 ⊢
    rw [hsp] at r3
    have r3 : o.s.c 4 = codeA := r3.trans (by decide)
    have f2 : o.s.pc = (stCs ⟨stX x n, BitVec.ofInt 32 536870912, fun _ => 0⟩ y l).c (plN (BitVec.ofInt 16 773)) := by rw [r2, hS]; rfl
    have f3 : o.s.c (plN (BitVec.ofInt 16 833)) = BitVec.ofInt 32 536870912 := r3
    have f4 : o.s.c (plN (BitVec.ofInt 16 834)) = o.ca := r4
    have f5 : o.s.c (plN (BitVec.ofInt 16 768)) / BitVec.ofInt 32 8 % BitVec.ofInt 32 2 = BitVec.ofInt 32 0 := by
      show o.s.c 0 / BitVec.ofInt 32 8 % BitVec.ofInt 32 2 = BitVec.ofInt 32 0
      rw [r5]
      split <;> decide
    have f6 : o.s.c (plN (BitVec.ofInt 16 768)) / BitVec.ofInt 32 128 % BitVec.ofInt 32 2 = (stCs ⟨stX x n, BitVec.ofInt 32 536870912, fun _ => 0⟩ y l).c (plN (BitVec.ofInt 16 768)) / BitVec.ofInt 32 8 % BitVec.ofInt 32 2 := by
      show o.s.c 0 / BitVec.ofInt 32 128 % BitVec.ofInt 32 2 = (stCs ⟨stX x n, codeA, fun _ => 0⟩ y l).c 0 / BitVec.ofInt 32 8 % BitVec.ofInt 32 2
      rw [← hS, r5]
      by_cases h : S.c 0 &&& BitVec.ofInt 32 8 = BitVec.ofInt 32 0
      · rw [if_pos h, b3_is _ h]; decide
      · rw [if_neg h, (bit3 _).2 h]; decide
    obtain ⟨q1, q2, q3⟩ := tr_back (ra := layF (l1k 4) mrB) (po := fun _ => 0) (m := fun _ => 255) (w := fun _ => 0) (s := ⟨o.s.x, codeA, o.s.c⟩) rfl (mr_w (by decide))
    obtain ⟨B, hB⟩ : ∃ B, B = stepO 1 ⟨layF (l1k 4) mrB, fun _ => 0⟩ (fun _ => 255) (fun _ => 0) ⟨o.s.x, codeA, o.s.c⟩ false := ⟨_, rfl⟩
    rw [← hB] at q1 q2 q3
    have q2 : B.s.pc = BitVec.ofInt 32 536870912 := q2.trans r3
    have q1' : (!B.tr) = true := by rw [q1]; rfl
    have q3 : B.s.c (plN (BitVec.ofInt 16 768)) / BitVec.ofInt 32 8 % BitVec.ofInt 32 2 = (stCs ⟨stX x n, BitVec.ofInt 32 536870912, fun _ => 0⟩ y l).c (plN (BitVec.ofInt 16 768)) / BitVec.ofInt 32 8 % BitVec.ofInt 32 2 := by
      have q3 : B.s.c 0 = if o.s.c 0 &&& BitVec.ofInt 32 128 = BitVec.ofInt 32 0 then BitVec.ofInt 32 128 else BitVec.ofInt 32 136 := q3
      show B.s.c 0 / BitVec.ofInt 32 8 % BitVec.ofInt 32 2 = (stCs ⟨stX x n, codeA, fun _ => 0⟩ y l).c 0 / BitVec.ofInt 32 8 % BitVec.ofInt 32 2
      rw [← hS, q3, r5]
      by_cases h : S.c 0 &&& BitVec.ofInt 32 8 = BitVec.ofInt 32 0
      · rw [if_pos h, b3_is _ h]; decide
      · rw [if_neg h, (bit3 _).2 h]; decide
    repeat ((conv => whnf); first | refine sdO ?_ | refine nlO ?_ | refine goA ?_ | refine goB ?_ | (apply Exists.intro; (repeat apply Exists.intro); refine caO ?_) | (refine Or.inl ?_; (conv => whnf); (repeat apply Exists.intro); refine caO ?_) | (refine Or.inr ?_; (conv => whnf); first | ((repeat apply Exists.intro); refine caO ?_) | (refine Or.inl ?_; (conv => whnf); (repeat apply Exists.intro); refine caO ?_) | (refine Or.inr ?_; (conv => whnf); (repeat apply Exists.intro); refine caO ?_)) | refine And.intro (by assumption) ?_ | refine goT ?_ | refine goF ?_ | refine goL ?_ | refine goR ?_ | refine goRL ?_ | refine goRR ?_)
    all_goals try (conv => whnf)
    refine And.intro (fun q => bad q (congrArg not (eqB_agg fun j _ => ?_))) (fun _ => ?_)
    · show AEq (AV.u32 (o.s.x j)) (AV.u32 ((stCs ⟨stX x n, codeA, fun _ => 0⟩ y l).x j))
      rw [r1 j, hS]
      exact rfl
    repeat ((conv => whnf); first | refine sdO ?_ | refine nlO ?_ | refine goA ?_ | refine goB ?_ | (apply Exists.intro; (repeat apply Exists.intro); refine caO ?_) | (refine Or.inl ?_; (conv => whnf); (repeat apply Exists.intro); refine caO ?_) | (refine Or.inr ?_; (conv => whnf); first | ((repeat apply Exists.intro); refine caO ?_) | (refine Or.inl ?_; (conv => whnf); (repeat apply Exists.intro); refine caO ?_) | (refine Or.inr ?_; (conv => whnf); (repeat apply Exists.intro); refine caO ?_)) | refine And.intro (by assumption) ?_ | refine goT ?_ | refine goF ?_ | refine goL ?_ | refine goR ?_ | refine goRL ?_ | refine goRR ?_)
    all_goals try (conv => whnf)
    refine ⟨1, layF 4 (wB4 w), fun _ => 0, 40, fun _ => 255, fun _ => 0, fun _ => false, 1, layF 4 (wB4 w), fun _ => 0, fun _ => 255, fun _ => 0, fun _ => 0, ?_, ⟨fun _ _ => rfl, fun j _ => lay_hi 4 (wB4 w) j, fun _ _ => rfl⟩, ?_⟩
    · ((repeat' ((conv => whnf) <;> first | exact trivial | (with_reducible first | refine And.intro ?_ ?_ | refine qL1 ?_ | refine qL2 ?_ ?_ | refine qL3 ?_ ?_ ?_ | refine qL4 ?_ ?_ ?_ ?_ | refine qL5 ?_ ?_ ?_ ?_ ?_ | refine yL1 ?_ | refine yL2 ?_ ?_ | refine yL3 ?_ ?_ ?_ | refine qL7 ?_ ?_ ?_ ?_ ?_ ?_ ?_ | refine zL1 ?_ | refine zL2 ?_ ?_ | refine zL3 ?_ ?_ ?_ | refine fun (_ : Nat) => ?_) | refine fun (_ : (_ : Nat) < _) => ?_ | exact rfl | exact Nat.le_of_ble_eq_true rfl | (change (_ : Nat) ≤ _; omega) | (change (_ : Nat) = _; omega) | (change (_ : Int) = _; omega))); (all_goals try (conv => whnf)))
      all_goals (rename_i i hi; have h6 : i < 6 := hi; rcases i with _ | _ | _ | _ | _ | _ | i <;> first | (exact absurd h6 (by omega)) | ((repeat' ((conv => whnf) <;> first | exact trivial | (with_reducible first | refine And.intro ?_ ?_ | refine qL1 ?_ | refine qL2 ?_ ?_ | refine qL3 ?_ ?_ ?_ | refine qL4 ?_ ?_ ?_ ?_ | refine qL5 ?_ ?_ ?_ ?_ ?_ | refine yL1 ?_ | refine yL2 ?_ ?_ | refine yL3 ?_ ?_ ?_ | refine qL7 ?_ ?_ ?_ ?_ ?_ ?_ ?_ | refine zL1 ?_ | refine zL2 ?_ ?_ | refine zL3 ?_ ?_ ?_ | refine fun (_ : Nat) => ?_) | refine fun (_ : (_ : Nat) < _) => ?_ | exact rfl | exact Nat.le_of_ble_eq_true rfl | (change (_ : Nat) ≤ _; omega) | (change (_ : Nat) = _; omega) | (change (_ : Int) = _; omega))); (all_goals try (conv => whnf))))
      all_goals (exact lay_cong (n := 4) (fun j (hj : j < 4) => by rcases (show j = 0 ∨ j = 1 ∨ j = 2 ∨ j = 3 by omega) with rfl | rfl | rfl | rfl <;> rfl) _)
    repeat ((conv => whnf); first | refine sdO ?_ | refine nlO ?_ | refine goA ?_ | refine goB ?_ | (apply Exists.intro; (repeat apply Exists.intro); refine caO ?_) | (refine Or.inl ?_; (conv => whnf); (repeat apply Exists.intro); refine caO ?_) | (refine Or.inr ?_; (conv => whnf); first | ((repeat apply Exists.intro); refine caO ?_) | (refine Or.inl ?_; (conv => whnf); (repeat apply Exists.intro); refine caO ?_) | (refine Or.inr ?_; (conv => whnf); (repeat apply Exists.intro); refine caO ?_)) | refine And.intro (by assumption) ?_ | refine goT ?_ | refine goF ?_ | refine goL ?_ | refine goR ?_ | refine goRL ?_ | refine goRR ?_)
    all_goals try (conv => whnf)
    refine ⟨1, fun _ => BitVec.ofInt 8 41, fun _ => 0, fun _ => 0, fun _ => 0, fun _ => 0, fun _ => 0, ?_, by decide, ?_⟩
    · ((repeat' ((conv => whnf) <;> first | exact trivial | (with_reducible first | refine And.intro ?_ ?_ | refine qL1 ?_ | refine qL2 ?_ ?_ | refine qL3 ?_ ?_ ?_ | refine qL4 ?_ ?_ ?_ ?_ | refine qL5 ?_ ?_ ?_ ?_ ?_ | refine yL1 ?_ | refine yL2 ?_ ?_ | refine yL3 ?_ ?_ ?_ | refine qL7 ?_ ?_ ?_ ?_ ?_ ?_ ?_ | refine zL1 ?_ | refine zL2 ?_ ?_ | refine zL3 ?_ ?_ ?_ | refine fun (_ : Nat) => ?_) | refine fun (_ : (_ : Nat) < _) => ?_ | exact rfl | exact Nat.le_of_ble_eq_true rfl | (change (_ : Nat) ≤ _; omega) | (change (_ : Nat) = _; omega) | (change (_ : Int) = _; omega))); (all_goals try (conv => whnf)))
      all_goals (rename_i i hi; have h2 : i < 1 := hi; rcases i with _ | i <;> first | (exact absurd h2 (by omega)) | ((repeat' ((conv => whnf) <;> first | exact trivial | (with_reducible first | refine And.intro ?_ ?_ | refine qL1 ?_ | refine qL2 ?_ ?_ | refine qL3 ?_ ?_ ?_ | refine qL4 ?_ ?_ ?_ ?_ | refine qL5 ?_ ?_ ?_ ?_ ?_ | refine yL1 ?_ | refine yL2 ?_ ?_ | refine yL3 ?_ ?_ ?_ | refine qL7 ?_ ?_ ?_ ?_ ?_ ?_ ?_ | refine zL1 ?_ | refine zL2 ?_ ?_ | refine zL3 ?_ ?_ ?_ | refine fun (_ : Nat) => ?_) | refine fun (_ : (_ : Nat) < _) => ?_ | exact rfl | exact Nat.le_of_ble_eq_true rfl | (change (_ : Nat) ≤ _; omega) | (change (_ : Nat) = _; omega) | (change (_ : Int) = _; omega))); (all_goals try (conv => whnf))))
    repeat ((conv => whnf); first | refine sdO ?_ | refine nlO ?_ | refine goA ?_ | refine goB ?_ | (apply Exists.intro; (repeat apply Exists.intro); refine caO ?_) | (refine Or.inl ?_; (conv => whnf); (repeat apply Exists.intro); refine caO ?_) | (refine Or.inr ?_; (conv => whnf); first | ((repeat apply Exists.intro); refine caO ?_) | (refine Or.inl ?_; (conv => whnf); (repeat apply Exists.intro); refine caO ?_) | (refine Or.inr ?_; (conv => whnf); (repeat apply Exists.intro); refine caO ?_)) | refine And.intro (by assumption) ?_ | refine goT ?_ | refine goF ?_ | refine goL ?_ | refine goR ?_ | refine goRL ?_ | refine goRR ?_)
    all_goals try (conv => whnf)
    refine ⟨1, ⟨layF (l1k 4) mrB, fun _ => 0⟩, fun _ => 255, fun _ => 0, fun _ => false, ⟨o.s.x, codeA, o.s.c⟩, false, ?_, fun _ _ => rfl, ?_⟩
    · ((repeat' ((conv => whnf) <;> first | exact trivial | (with_reducible first | refine And.intro ?_ ?_ | refine qL1 ?_ | refine qL2 ?_ ?_ | refine qL3 ?_ ?_ ?_ | refine qL4 ?_ ?_ ?_ ?_ | refine qL5 ?_ ?_ ?_ ?_ ?_ | refine yL1 ?_ | refine yL2 ?_ ?_ | refine yL3 ?_ ?_ ?_ | refine qL7 ?_ ?_ ?_ ?_ ?_ ?_ ?_ | refine zL1 ?_ | refine zL2 ?_ ?_ | refine zL3 ?_ ?_ ?_ | refine fun (_ : Nat) => ?_) | refine fun (_ : (_ : Nat) < _) => ?_ | exact rfl | exact Nat.le_of_ble_eq_true rfl | (change (_ : Nat) ≤ _; omega) | (change (_ : Nat) = _; omega) | (change (_ : Int) = _; omega))); (all_goals try (conv => whnf)))
    rw [← hB]
    repeat ((conv => whnf); first | refine sdO ?_ | refine nlO ?_ | refine goA ?_ | refine goB ?_ | (apply Exists.intro; (repeat apply Exists.intro); refine caO ?_) | (refine Or.inl ?_; (conv => whnf); (repeat apply Exists.intro); refine caO ?_) | (refine Or.inr ?_; (conv => whnf); first | ((repeat apply Exists.intro); refine caO ?_) | (refine Or.inl ?_; (conv => whnf); (repeat apply Exists.intro); refine caO ?_) | (refine Or.inr ?_; (conv => whnf); (repeat apply Exists.intro); refine caO ?_)) | refine And.intro (by assumption) ?_ | refine goT ?_ | refine goF ?_ | refine goL ?_ | refine goR ?_ | refine goRL ?_ | refine goRR ?_)
    all_goals try (conv => whnf)
    ((repeat' ((conv => whnf) <;> first | exact trivial | (with_reducible first | refine And.intro ?_ ?_ | refine qL1 ?_ | refine qL2 ?_ ?_ | refine qL3 ?_ ?_ ?_ | refine qL4 ?_ ?_ ?_ ?_ | refine qL5 ?_ ?_ ?_ ?_ ?_ | refine yL1 ?_ | refine yL2 ?_ ?_ | refine yL3 ?_ ?_ ?_ | refine qL7 ?_ ?_ ?_ ?_ ?_ ?_ ?_ | refine zL1 ?_ | refine zL2 ?_ ?_ | refine zL3 ?_ ?_ ?_ | refine fun (_ : Nat) => ?_) | refine fun (_ : (_ : Nat) < _) => ?_ | exact rfl | exact Nat.le_of_ble_eq_true rfl | (change (_ : Nat) ≤ _; omega) | (change (_ : Nat) = _; omega) | (change (_ : Int) = _; omega))); (all_goals try (conv => whnf)))
    all_goals first | exact decide_eq_true q3 | skip
end Go.Proofs.YtglijhimopdgkaaGreatDoor
