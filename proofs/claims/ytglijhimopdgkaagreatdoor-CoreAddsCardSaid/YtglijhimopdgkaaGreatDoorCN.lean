/- The core: many steps; no space. -/
import Derived.Test.YtglijhimopdgkaaGreatDoorCL
namespace Go.Proofs.YtglijhimopdgkaaGreatDoor
open Go.RowKit
set_option maxRecDepth 100000
set_option maxHeartbeats 20000000
attribute [local irreducible] stepO stepM
structure RnS where
  s : CoS
  me : MeS
  k : Nat
noncomputable def runN (st : Nat) (m : Nat → BitVec 8) (w : Nat → BitVec 32) : Nat → CoS → MeS → RnS
  | 0, s, me => ⟨s, me, 0⟩
  | n + 1, s, me => bif (stepO st me m w s false).tr then ⟨(stepO st me m w s false).s, stepM st me m w s false, 1⟩ else
    ⟨(runN st m w n (stepO st me m w s false).s (stepM st me m w s false)).s, (runN st m w n (stepO st me m w s false).s (stepM st me m w s false)).me, (runN st m w n (stepO st me m w s false).s (stepM st me m w s false)).k + 1⟩
theorem run_trap {st : Nat} {m : Nat → BitVec 8} {w : Nat → BitVec 32} {n : Nat} {s : CoS} {me : MeS} (h : (stepO st me m w s false).tr = true) : runN st m w (n + 1) s me = ⟨(stepO st me m w s false).s, stepM st me m w s false, 1⟩ := by
  show (bif (stepO st me m w s false).tr then _ else _) = _
  rw [h]; rfl
theorem run_on {st : Nat} {m : Nat → BitVec 8} {w : Nat → BitVec 32} {n : Nat} {s : CoS} {me : MeS} (h : (stepO st me m w s false).tr = false) : runN st m w (n + 1) s me = ⟨(runN st m w n (stepO st me m w s false).s (stepM st me m w s false)).s, (runN st m w n (stepO st me m w s false).s (stepM st me m w s false)).me, (runN st m w n (stepO st me m w s false).s (stepM st me m w s false)).k + 1⟩ := by
  show (bif (stepO st me m w s false).tr then _ else _) = _
  rw [h]; rfl
def OnWay (st : Nat) (m : Nat → BitVec 8) (w : Nat → BitVec 32) (R : RnS) (n : Nat) (g : RnS) : Prop :=
  g.k ≤ n ∧ (runN st m w (n - g.k) g.s g.me).s = R.s ∧ (runN st m w (n - g.k) g.s g.me).me = R.me ∧ (runN st m w (n - g.k) g.s g.me).k + g.k = R.k
theorem way_end {st : Nat} {m : Nat → BitVec 8} {w : Nat → BitVec 32} {R : RnS} {n : Nat} {g : RnS} (h : OnWay st m w R n g) (hk : ¬ g.k < n) : R = g := by
  obtain ⟨h1, h2, h3, h4⟩ := h
  have e : n - g.k = 0 := by omega
  rw [e] at h2 h3 h4
  obtain ⟨a, b, c⟩ := R
  obtain ⟨a', b', c'⟩ := g
  replace h2 : a' = a := h2
  replace h3 : b' = b := h3
  replace h4 : 0 + c' = c := h4
  rw [h2, h3, ← h4, Nat.zero_add]
theorem way_trap {st : Nat} {m : Nat → BitVec 8} {w : Nat → BitVec 32} {R : RnS} {n : Nat} {g : RnS} (h : OnWay st m w R n g) (hk : g.k < n) (ht : (stepO st g.me m w g.s false).tr = true) : R = ⟨(stepO st g.me m w g.s false).s, stepM st g.me m w g.s false, g.k + 1⟩ := by
  obtain ⟨h1, h2, h3, h4⟩ := h
  have e : n - g.k = n - g.k - 1 + 1 := by omega
  rw [e, run_trap ht] at h2 h3 h4
  obtain ⟨a, b, c⟩ := R
  replace h2 : (stepO st g.me m w g.s false).s = a := h2
  replace h3 : stepM st g.me m w g.s false = b := h3
  replace h4 : 1 + g.k = c := h4
  rw [h2, h3, ← h4, Nat.add_comm]
theorem way_on {st : Nat} {m : Nat → BitVec 8} {w : Nat → BitVec 32} {R : RnS} {n : Nat} {g : RnS} (h : OnWay st m w R n g) (hk : g.k < n) (ht : (stepO st g.me m w g.s false).tr = false) : OnWay st m w R n ⟨(stepO st g.me m w g.s false).s, stepM st g.me m w g.s false, g.k + 1⟩ := by
  obtain ⟨h1, h2, h3, h4⟩ := h
  have e : n - g.k = n - (g.k + 1) + 1 := by omega
  rw [e, run_on ht] at h2 h3 h4
  refine ⟨hk, h2, h3, ?_⟩
  have h4 : (runN st m w (n - (g.k + 1)) (stepO st g.me m w g.s false).s (stepM st g.me m w g.s false)).k + 1 + g.k = R.k := h4
  show (runN st m w (n - (g.k + 1)) (stepO st g.me m w g.s false).s (stepM st g.me m w g.s false)).k + (g.k + 1) = R.k
  omega
theorem way_0 (st : Nat) (m : Nat → BitVec 8) (w : Nat → BitVec 32) (n : Nat) (s : CoS) (me : MeS) : OnWay st m w (runN st m w n s me) n ⟨s, me, 0⟩ := ⟨Nat.zero_le _, rfl, rfl, rfl⟩
attribute [local irreducible] runN
def L_Run (st : Nat) (m : Nat → BitVec 8) (w : Nat → BitVec 32) (l : Nat → Bool) (z : Int) (R : RnS) : LI := ⟨RnS, OnWay st m w R z.toNat, fun g => [(1, .ptr TSp 0 []), (2, .int z), (3, .ptr TCo 8 []), (6, .ptr TCo 16 []), (8, .nat g.k)],
  fun g => meR st g.me 40 m w l ++ [(8, .var TCo (coA g.s)), (16, .var TCo (coA (co0 0)))], fun g => z.toNat - g.k, some, some⟩
def C_co_Run : SpecM := fun A K => ∃ (st : Nat) (me : MeS) (m : Nat → BitVec 8) (w : Nat → BitVec 32) (l : Nat → Bool) (s : CoS) (z : Int), A [coA s, .ptr TSp 0 [], .int z] (meR st me 40 m w l) ∧ (LkF l ∧ z ≤ 1000000) ∧ K (tupOf [coA (runN st m w z.toNat s me).s, .nat (runN st m w z.toNat s me).k]) (meR st (runN st m w z.toNat s me).me 40 m w l)
theorem g_co_Run : Gd 24 (mutD ty [false, true, false] C_co_Run) := by
  refine goodD (E := PG [(14, mutD ty [false, true, false] C_co_Step)]) (pgOK ⟨g_co_Step, trivial⟩) mixes Tryz.func24 (by kernel_rfl) (by kernel_rfl) ?_
  rintro A K ⟨st, me, m, w, l, s, z, hA, ⟨hl, hz⟩, hK⟩
  refine ⟨_, _, _, _, loops [(2, L_Run st m w l z (runN st m w z.toNat s me))], hA, hK, by kernel_rfl, by kernel_rfl, ⟨trivial, trivial, rfl, trivial, trivial, rfl, rfl, trivial⟩, own_sp .., own_res (own_co _) trivial, ?_⟩
  repeat ((conv => whnf); first | refine sdO ?_ | refine nlO ?_ | refine goA ?_ | refine goB ?_ | (apply Exists.intro; (repeat apply Exists.intro); refine caO ?_) | (refine Or.inl ?_; (conv => whnf); (repeat apply Exists.intro); refine caO ?_) | (refine Or.inr ?_; (conv => whnf); first | ((repeat apply Exists.intro); refine caO ?_) | (refine Or.inl ?_; (conv => whnf); (repeat apply Exists.intro); refine caO ?_) | (refine Or.inr ?_; (conv => whnf); (repeat apply Exists.intro); refine caO ?_)) | refine And.intro (by assumption) ?_ | refine goT ?_ | refine goF ?_ | refine goL ?_ | refine goR ?_ | refine goRL ?_ | refine goRR ?_)
  all_goals try (conv => whnf)
  refine Exists.intro (fun _ => True) (And.intro (Enter.mk (⟨s, me, 0⟩ : RnS) (way_0 st m w z.toNat s me) trivial ?_) (fun (g : RnS) (hg : OnWay st m w (runN st m w z.toNat s me) z.toNat g) _ => ?_))
  · ((repeat' ((conv => whnf) <;> first | exact trivial | (with_reducible first | refine And.intro ?_ ?_ | refine rows_lt1 ?_ | refine rows_lt2 ?_ ?_ | refine rows_lt3 ?_ ?_ ?_ | refine rows_lt4 ?_ ?_ ?_ ?_ | refine rows_lt5 ?_ ?_ ?_ ?_ ?_ | refine ints_lt1 ?_ | refine ints_lt2 ?_ ?_ | refine ints_lt3 ?_ ?_ ?_ | refine rows_lt7 ?_ ?_ ?_ ?_ ?_ ?_ ?_ | refine aggs_lt1 ?_ | refine aggs_lt2 ?_ ?_ | refine aggs_lt3 ?_ ?_ ?_ | refine fun (_ : Nat) => ?_) | refine fun (_ : (_ : Nat) < _) => ?_ | exact rfl | exact Nat.le_of_ble_eq_true rfl | (change (_ : Nat) ≤ _; omega) | (change (_ : Nat) = _; omega) | (change (_ : Int) = _; omega))); (all_goals try (conv => whnf)))
  by_cases h : (g.k : Int) < z
  · have hk : g.k < z.toNat := by omega
    cases ht : (stepO st g.me m w g.s false).tr with
    | true =>
      have e := way_trap hg hk ht
      repeat ((conv => whnf); first | refine sdO ?_ | refine nlO ?_ | refine goA ?_ | refine goB ?_ | (apply Exists.intro; (repeat apply Exists.intro); refine caO ?_) | (refine Or.inl ?_; (conv => whnf); (repeat apply Exists.intro); refine caO ?_) | (refine Or.inr ?_; (conv => whnf); first | ((repeat apply Exists.intro); refine caO ?_) | (refine Or.inl ?_; (conv => whnf); (repeat apply Exists.intro); refine caO ?_) | (refine Or.inr ?_; (conv => whnf); (repeat apply Exists.intro); refine caO ?_)) | refine And.intro (by assumption) ?_ | refine goT ?_ | refine goF ?_ | refine goL ?_ | refine goR ?_ | refine goRL ?_ | refine goRR ?_)
      all_goals try (conv => whnf)
      (refine out_fnd ?_; (repeat' ((conv => whnf) <;> first | exact trivial | (with_reducible first | refine And.intro ?_ ?_ | refine rows_lt1 ?_ | refine rows_lt2 ?_ ?_ | refine rows_lt3 ?_ ?_ ?_ | refine rows_lt4 ?_ ?_ ?_ ?_ | refine rows_lt5 ?_ ?_ ?_ ?_ ?_ | refine ints_lt1 ?_ | refine ints_lt2 ?_ ?_ | refine ints_lt3 ?_ ?_ ?_ | refine rows_lt7 ?_ ?_ ?_ ?_ ?_ ?_ ?_ | refine aggs_lt1 ?_ | refine aggs_lt2 ?_ ?_ | refine aggs_lt3 ?_ ?_ ?_ | refine fun (_ : Nat) => ?_) | refine fun (_ : (_ : Nat) < _) => ?_ | exact rfl | exact Nat.le_of_ble_eq_true rfl | (change (_ : Nat) ≤ _; omega) | (change (_ : Nat) = _; omega) | (change (_ : Int) = _; omega))); (all_goals try (conv => whnf)))
      all_goals (rw [e]; first | done | rfl)
    | false =>
      repeat ((conv => whnf); first | refine sdO ?_ | refine nlO ?_ | refine goA ?_ | refine goB ?_ | (apply Exists.intro; (repeat apply Exists.intro); refine caO ?_) | (refine Or.inl ?_; (conv => whnf); (repeat apply Exists.intro); refine caO ?_) | (refine Or.inr ?_; (conv => whnf); first | ((repeat apply Exists.intro); refine caO ?_) | (refine Or.inl ?_; (conv => whnf); (repeat apply Exists.intro); refine caO ?_) | (refine Or.inr ?_; (conv => whnf); (repeat apply Exists.intro); refine caO ?_)) | refine And.intro (by assumption) ?_ | refine goT ?_ | refine goF ?_ | refine goL ?_ | refine goR ?_ | refine goRL ?_ | refine goRR ?_)
      all_goals try (conv => whnf)
      refine Again.mk (⟨(stepO st g.me m w g.s false).s, stepM st g.me m w g.s false, g.k + 1⟩ : RnS) (way_on hg hk ht) trivial (show z.toNat - (g.k + 1) < z.toNat - g.k by omega) ?_
      ((repeat' ((conv => whnf) <;> first | exact trivial | (with_reducible first | refine And.intro ?_ ?_ | refine rows_lt1 ?_ | refine rows_lt2 ?_ ?_ | refine rows_lt3 ?_ ?_ ?_ | refine rows_lt4 ?_ ?_ ?_ ?_ | refine rows_lt5 ?_ ?_ ?_ ?_ ?_ | refine ints_lt1 ?_ | refine ints_lt2 ?_ ?_ | refine ints_lt3 ?_ ?_ ?_ | refine rows_lt7 ?_ ?_ ?_ ?_ ?_ ?_ ?_ | refine aggs_lt1 ?_ | refine aggs_lt2 ?_ ?_ | refine aggs_lt3 ?_ ?_ ?_ | refine fun (_ : Nat) => ?_) | refine fun (_ : (_ : Nat) < _) => ?_ | exact rfl | exact Nat.le_of_ble_eq_true rfl | (change (_ : Nat) ≤ _; omega) | (change (_ : Nat) = _; omega) | (change (_ : Int) = _; omega))); (all_goals try (conv => whnf)))
  · have e := way_end hg (by omega)
    repeat ((conv => whnf); first | refine sdO ?_ | refine nlO ?_ | refine goA ?_ | refine goB ?_ | (apply Exists.intro; (repeat apply Exists.intro); refine caO ?_) | (refine Or.inl ?_; (conv => whnf); (repeat apply Exists.intro); refine caO ?_) | (refine Or.inr ?_; (conv => whnf); first | ((repeat apply Exists.intro); refine caO ?_) | (refine Or.inl ?_; (conv => whnf); (repeat apply Exists.intro); refine caO ?_) | (refine Or.inr ?_; (conv => whnf); (repeat apply Exists.intro); refine caO ?_)) | refine And.intro (by assumption) ?_ | refine goT ?_ | refine goF ?_ | refine goL ?_ | refine goR ?_ | refine goRL ?_ | refine goRR ?_)
    all_goals try (conv => whnf)
    (refine out_fnd ?_; (repeat' ((conv => whnf) <;> first | exact trivial | (with_reducible first | refine And.intro ?_ ?_ | refine rows_lt1 ?_ | refine rows_lt2 ?_ ?_ | refine rows_lt3 ?_ ?_ ?_ | refine rows_lt4 ?_ ?_ ?_ ?_ | refine rows_lt5 ?_ ?_ ?_ ?_ ?_ | refine ints_lt1 ?_ | refine ints_lt2 ?_ ?_ | refine ints_lt3 ?_ ?_ ?_ | refine rows_lt7 ?_ ?_ ?_ ?_ ?_ ?_ ?_ | refine aggs_lt1 ?_ | refine aggs_lt2 ?_ ?_ | refine aggs_lt3 ?_ ?_ ?_ | refine fun (_ : Nat) => ?_) | refine fun (_ : (_ : Nat) < _) => ?_ | exact rfl | exact Nat.le_of_ble_eq_true rfl | (change (_ : Nat) ≤ _; omega) | (change (_ : Nat) = _; omega) | (change (_ : Int) = _; omega))); (all_goals try (conv => whnf)))
    all_goals (rw [e]; first | done | rfl)
end Go.Proofs.YtglijhimopdgkaaGreatDoor
