/- The core: CoreHeld. -/
import Derived.Test.YtbbcnccmohjagaaGreatDoorCL
namespace Go.Proofs.YtbbcnccmohjagaaGreatDoor
open Go.RowKit
set_option maxRecDepth 100000
set_option maxHeartbeats 20000000
theorem den0 : ∀ q : Nat, q < 6 → den 1 ((0 : Nat) : Int) q false true := by
  intro q hq
  rcases (show q = 0 ∨ q = 1 ∨ q = 2 ∨ q = 3 ∨ q = 4 ∨ q = 5 by omega) with rfl | rfl | rfl | rfl | rfl | rfl <;> decide
theorem no_fetch (a : BitVec 32) : ¬ (ftK 0 a).2.2 = 0 := by
  have hl := ck_lt 1 ((0 : Nat) : Int) a.toNat 4 false true
  have h : ¬ (ck 1 ((0 : Nat) : Int) a.toNat 4 false true).2.2 = 0 := by
    unfold ck at hl ⊢
    by_cases k1 : malB 1 ((0 : Nat) : Int) 4 false true = true
    · rw [if_pos k1]; decide
    by_cases k2 : ¬ a.toNat % (4 : Int).toNat = 0
    · rw [if_neg k1, if_pos k2]; decide
    by_cases k3 : whi a.toNat = 0
    · rw [if_neg k1, if_neg k2, if_pos k3]; decide
    by_cases k4 : den 1 ((0 : Nat) : Int) (whi a.toNat) false true
    · rw [if_neg k1, if_neg k2, if_neg k3, if_pos k4]; decide
    rw [if_neg k1, if_neg k2, if_neg k3, if_neg k4] at hl
    exact absurd (den0 _ hl) k4
  unfold ftK fdk
  rw [if_pos h]
  exact h
theorem act_held (me : MeS) (m : Nat → BitVec 8) (w : Nat → BitVec 32) (s : CoS) : (∃ ca va, actO 0 me m w s = trapO s ca va) ∧ actM 0 me m w s = me := by
  unfold actO actM
  by_cases h1 : intB s
  · rw [if_pos h1, if_pos h1]; exact ⟨⟨_, _, rfl⟩, rfl⟩
  rw [if_neg h1, if_neg h1]
  by_cases h2 : ¬ Al4 s.pc
  · rw [if_pos h2, if_pos h2]; exact ⟨⟨_, _, rfl⟩, rfl⟩
  rw [if_neg h2, if_neg h2, if_pos (no_fetch s.pc), if_pos (no_fetch s.pc)]
  exact ⟨⟨_, _, rfl⟩, rfl⟩
theorem wrt0 : wrtB in0 = false := by decide
theorem inc_trap (s : CoS) (ca va : BitVec 32) : incO (trapO s ca va) = ⟨⟨s.x, (trapO s ca va).s.pc, upW (trapO s ca va).s.c 8 ((trapO s ca va).s.c 8 + BitVec.ofInt 32 1)⟩, true, ca, in0, 0, 0, fun _ => 0⟩ := by
  have hw : wroteC (trapO s ca va) = false := by
    unfold wroteC
    show (wrtB in0 && _) = false
    rw [wrt0]; rfl
  unfold incO
  rw [hw]
  rfl
theorem step_held (me : MeS) (m : Nat → BitVec 8) (w : Nat → BitVec 32) (s : CoS) (t : Bool) : (stepO 0 me m w s t).tr = true ∧ (∀ j, (stepO 0 me m w s t).s.x j = if j = 0 then 0 else s.x j) ∧ stepM 0 me m w s t = me := by
  obtain ⟨⟨ca, va, e⟩, e2⟩ := act_held me m w (tmS s t)
  refine ⟨?_, fun j => ?_, e2⟩
  · unfold stepO
    rw [e, inc_trap]
  · unfold stepO
    rw [e, inc_trap]
    rfl
abbrev memB (k st l : Nat) (p : Nat → BitVec 8) : Nat × Row := (k, .var TMm (mmV st (bsl 4096 (layF l p)) (bsl 4096 fun _ => 0) (bsl 10240 fun _ => 255) (bsl 64 fun _ => 0) (bsl 256 fun _ => 0)))
theorem lay_hi (l : Nat) (p : Nat → BitVec 8) (j : Nat) : layF (l1k l) p (4096 + j) = 0 := by
  have h : l1k l ≤ 1024 := Nat.min_le_right _ _
  unfold layF
  rw [if_neg (by omega)]
structure HeS where
  i : Nat
  s : CoS
def okHe (g : HeS) : Prop := g.i ≤ 5 ∧ g.s.x 0 = 0
def L_Held (n : Nat) (p : Nat → BitVec 8) : LI := ⟨HeS, okHe, fun g => [(7, .ptr TSp 2064 []), (8, .ptr TMm 2071 []), (9, .ptr TCo 3128 []), (11, .nat g.i)],
  fun g => spR 2064 2065 2066 2067 2068 2069 2070 0 (layF n p) (fun _ => 0) 40 (fun _ => 255) (fun _ => 0) (fun _ => false) ++ [memB 2071 0 n p, (3128, .var TCo (coA g.s))], fun g => 5 - g.i, some, some⟩
attribute [local irreducible] stepO stepM layF stX
def C_l20_CoreHeld : SpecP := fun A K => ∃ l p pc n x, A [bsl l p, .u32 pc, w32 n x] ∧ l ≤ maxLen ∧ n ≤ maxLen ∧ K (.bo true)
theorem g_l20_CoreHeld : Gd 6 (pureP ty C_l20_CoreHeld) := by
  refine goodP (E := PG [(9, pureP ty C_l20_awake), (11, pureR ty C_l20_lay), (15, pureP ty C_l20_start0), (16, mutD ty [false, true, false] C_co_Step), (19, pureP ty C_l20_memory)]) (pgOK ⟨g_l20_awake, g_l20_lay, g_l20_start0, g_co_Step, g_l20_memory, trivial⟩) mixes Tryz.func6 (by kernel_rfl) (by kernel_rfl) ?_
  rintro A K ⟨l, p, pc, n, x, hA, hl, hn, hK⟩
  refine ⟨_, _, loops [(6, L_Held (l1k l) p)], hA, hK, by kernel_rfl, trivial, ?_⟩
  repeat ((conv => whnf); first | refine sdO ?_ | refine nlO ?_ | refine goA ?_ | refine goB ?_ | (apply Exists.intro; (repeat apply Exists.intro); refine caO ?_) | (refine Or.inl ?_; (conv => whnf); (repeat apply Exists.intro); refine caO ?_) | (refine Or.inr ?_; (conv => whnf); first | ((repeat apply Exists.intro); refine caO ?_) | (refine Or.inl ?_; (conv => whnf); (repeat apply Exists.intro); refine caO ?_) | (refine Or.inr ?_; (conv => whnf); (repeat apply Exists.intro); refine caO ?_)) | refine And.intro (by assumption) ?_ | refine goT ?_ | refine goF ?_ | refine goL ?_ | refine goR ?_ | refine goRL ?_ | refine goRR ?_)
  all_goals try (conv => whnf)
  refine Exists.intro (fun _ => True) (And.intro (Enter.mk (⟨0, ⟨stX x n, pc, fun _ => 0⟩⟩ : HeS) ⟨Nat.zero_le _, stX_0 x n⟩ trivial ?_) (fun (g : HeS) (hg : okHe g) _ => ?_))
  · ((repeat' ((conv => whnf) <;> first | exact trivial | (with_reducible first | refine And.intro ?_ ?_ | refine rows_lt1 ?_ | refine rows_lt2 ?_ ?_ | refine rows_lt3 ?_ ?_ ?_ | refine rows_lt4 ?_ ?_ ?_ ?_ | refine rows_lt5 ?_ ?_ ?_ ?_ ?_ | refine ints_lt1 ?_ | refine ints_lt2 ?_ ?_ | refine ints_lt3 ?_ ?_ ?_ | refine rows_lt7 ?_ ?_ ?_ ?_ ?_ ?_ ?_ | refine aggs_lt1 ?_ | refine aggs_lt2 ?_ ?_ | refine aggs_lt3 ?_ ?_ ?_ | refine fun (_ : Nat) => ?_) | refine fun (_ : (_ : Nat) < _) => ?_ | exact rfl | exact Nat.le_of_ble_eq_true rfl | (change (_ : Nat) ≤ _; omega) | (change (_ : Nat) = _; omega) | (change (_ : Int) = _; omega))); (all_goals try (conv => whnf)))
    all_goals (rename_i x hx; have hx6 : x < 6 := hx; rcases x with _ | _ | _ | _ | _ | _ | x <;> first | (exact absurd hx6 (by omega)) | ((repeat' ((conv => whnf) <;> first | exact trivial | (with_reducible first | refine And.intro ?_ ?_ | refine rows_lt1 ?_ | refine rows_lt2 ?_ ?_ | refine rows_lt3 ?_ ?_ ?_ | refine rows_lt4 ?_ ?_ ?_ ?_ | refine rows_lt5 ?_ ?_ ?_ ?_ ?_ | refine ints_lt1 ?_ | refine ints_lt2 ?_ ?_ | refine ints_lt3 ?_ ?_ ?_ | refine rows_lt7 ?_ ?_ ?_ ?_ ?_ ?_ ?_ | refine aggs_lt1 ?_ | refine aggs_lt2 ?_ ?_ | refine aggs_lt3 ?_ ?_ ?_ | refine fun (_ : Nat) => ?_) | refine fun (_ : (_ : Nat) < _) => ?_ | exact rfl | exact Nat.le_of_ble_eq_true rfl | (change (_ : Nat) ≤ _; omega) | (change (_ : Nat) = _; omega) | (change (_ : Int) = _; omega))); (all_goals try (conv => whnf))))
  obtain ⟨i, s⟩ := g
  obtain ⟨h1, h2⟩ := hg
  replace h1 : i ≤ 5 := h1
  replace h2 : s.x 0 = 0 := h2
  rcases Nat.lt_or_ge i 5 with h | h
  · obtain ⟨t1, t2, t3⟩ := step_held ⟨layF (l1k l) p, fun _ => 0⟩ (fun _ => 255) (fun _ => 0) s false
    have t4 : (!(stepO 0 ⟨layF (l1k l) p, fun _ => 0⟩ (fun _ => 255) (fun _ => 0) s false).tr) = false := by rw [t1]; rfl
    have t5 : ∀ j, (stepO 0 ⟨layF (l1k l) p, fun _ => 0⟩ (fun _ => 255) (fun _ => 0) s false).s.x j = s.x j := fun j => by
      rw [t2]
      by_cases e : j = 0
      · rw [if_pos e, e, h2]
      · rw [if_neg e]
    repeat ((conv => whnf); first | refine sdO ?_ | refine nlO ?_ | refine goA ?_ | refine goB ?_ | (apply Exists.intro; (repeat apply Exists.intro); refine caO ?_) | (refine Or.inl ?_; (conv => whnf); (repeat apply Exists.intro); refine caO ?_) | (refine Or.inr ?_; (conv => whnf); first | ((repeat apply Exists.intro); refine caO ?_) | (refine Or.inl ?_; (conv => whnf); (repeat apply Exists.intro); refine caO ?_) | (refine Or.inr ?_; (conv => whnf); (repeat apply Exists.intro); refine caO ?_)) | refine And.intro (by assumption) ?_ | refine goT ?_ | refine goF ?_ | refine goL ?_ | refine goR ?_ | refine goRL ?_ | refine goRR ?_)
    all_goals try (conv => whnf)
    refine ⟨0, ⟨layF (l1k l) p, fun _ => 0⟩, fun _ => 255, fun _ => 0, fun _ => false, s, false, ?_, fun _ _ => rfl, ?_⟩
    · ((repeat' ((conv => whnf) <;> first | exact trivial | (with_reducible first | refine And.intro ?_ ?_ | refine rows_lt1 ?_ | refine rows_lt2 ?_ ?_ | refine rows_lt3 ?_ ?_ ?_ | refine rows_lt4 ?_ ?_ ?_ ?_ | refine rows_lt5 ?_ ?_ ?_ ?_ ?_ | refine ints_lt1 ?_ | refine ints_lt2 ?_ ?_ | refine ints_lt3 ?_ ?_ ?_ | refine rows_lt7 ?_ ?_ ?_ ?_ ?_ ?_ ?_ | refine aggs_lt1 ?_ | refine aggs_lt2 ?_ ?_ | refine aggs_lt3 ?_ ?_ ?_ | refine fun (_ : Nat) => ?_) | refine fun (_ : (_ : Nat) < _) => ?_ | exact rfl | exact Nat.le_of_ble_eq_true rfl | (change (_ : Nat) ≤ _; omega) | (change (_ : Nat) = _; omega) | (change (_ : Int) = _; omega))); (all_goals try (conv => whnf)))
    have t6 : (!eqB (AV.agg true 32 (wds (stepO 0 ⟨layF (l1k l) p, fun _ => 0⟩ (fun _ => 255) (fun _ => 0) s false).s.x)) (AV.agg true 32 (wds s.x))) = false := by
      rw [eqB_agg fun j _ => (show AEq (AV.u32 ((stepO 0 ⟨layF (l1k l) p, fun _ => 0⟩ (fun _ => 255) (fun _ => 0) s false).s.x j)) (AV.u32 (s.x j)) from by rw [t5]; exact rfl)]
      rfl
    repeat ((conv => whnf); first | refine sdO ?_ | refine nlO ?_ | refine goA ?_ | refine goB ?_ | (apply Exists.intro; (repeat apply Exists.intro); refine caO ?_) | (refine Or.inl ?_; (conv => whnf); (repeat apply Exists.intro); refine caO ?_) | (refine Or.inr ?_; (conv => whnf); first | ((repeat apply Exists.intro); refine caO ?_) | (refine Or.inl ?_; (conv => whnf); (repeat apply Exists.intro); refine caO ?_) | (refine Or.inr ?_; (conv => whnf); (repeat apply Exists.intro); refine caO ?_)) | refine And.intro (by assumption) ?_ | refine goT ?_ | refine goF ?_ | refine goL ?_ | refine goR ?_ | refine goRL ?_ | refine goRR ?_)
    all_goals try (conv => whnf)
    refine Again.mk (⟨i + 1, (stepO 0 ⟨layF (l1k l) p, fun _ => 0⟩ (fun _ => 255) (fun _ => 0) s false).s⟩ : HeS) ⟨h, by show (stepO 0 ⟨layF (l1k l) p, fun _ => 0⟩ (fun _ => 255) (fun _ => 0) s false).s.x 0 = 0; rw [t5, h2]⟩ trivial (show 5 - (i + 1) < 5 - i by omega) ?_
    ((repeat' ((conv => whnf) <;> first | exact trivial | (with_reducible first | refine And.intro ?_ ?_ | refine rows_lt1 ?_ | refine rows_lt2 ?_ ?_ | refine rows_lt3 ?_ ?_ ?_ | refine rows_lt4 ?_ ?_ ?_ ?_ | refine rows_lt5 ?_ ?_ ?_ ?_ ?_ | refine ints_lt1 ?_ | refine ints_lt2 ?_ ?_ | refine ints_lt3 ?_ ?_ ?_ | refine rows_lt7 ?_ ?_ ?_ ?_ ?_ ?_ ?_ | refine aggs_lt1 ?_ | refine aggs_lt2 ?_ ?_ | refine aggs_lt3 ?_ ?_ ?_ | refine fun (_ : Nat) => ?_) | refine fun (_ : (_ : Nat) < _) => ?_ | exact rfl | exact Nat.le_of_ble_eq_true rfl | (change (_ : Nat) ≤ _; omega) | (change (_ : Nat) = _; omega) | (change (_ : Int) = _; omega))); (all_goals try (conv => whnf)))
    all_goals first | (rw [t3]; done) | (rename_i x hx; have hx6 : x < 6 := hx; rcases x with _ | _ | _ | _ | _ | _ | x <;> first | (exact absurd hx6 (by omega)) | ((repeat' ((conv => whnf) <;> first | exact trivial | (with_reducible first | refine And.intro ?_ ?_ | refine rows_lt1 ?_ | refine rows_lt2 ?_ ?_ | refine rows_lt3 ?_ ?_ ?_ | refine rows_lt4 ?_ ?_ ?_ ?_ | refine rows_lt5 ?_ ?_ ?_ ?_ ?_ | refine ints_lt1 ?_ | refine ints_lt2 ?_ ?_ | refine ints_lt3 ?_ ?_ ?_ | refine rows_lt7 ?_ ?_ ?_ ?_ ?_ ?_ ?_ | refine aggs_lt1 ?_ | refine aggs_lt2 ?_ ?_ | refine aggs_lt3 ?_ ?_ ?_ | refine fun (_ : Nat) => ?_) | refine fun (_ : (_ : Nat) < _) => ?_ | exact rfl | exact Nat.le_of_ble_eq_true rfl | (change (_ : Nat) ≤ _; omega) | (change (_ : Nat) = _; omega) | (change (_ : Int) = _; omega))); (all_goals try (conv => whnf)))) | skip
  · obtain rfl : i = 5 := by omega
    repeat ((conv => whnf); first | refine sdO ?_ | refine nlO ?_ | refine goA ?_ | refine goB ?_ | (apply Exists.intro; (repeat apply Exists.intro); refine caO ?_) | (refine Or.inl ?_; (conv => whnf); (repeat apply Exists.intro); refine caO ?_) | (refine Or.inr ?_; (conv => whnf); first | ((repeat apply Exists.intro); refine caO ?_) | (refine Or.inl ?_; (conv => whnf); (repeat apply Exists.intro); refine caO ?_) | (refine Or.inr ?_; (conv => whnf); (repeat apply Exists.intro); refine caO ?_)) | refine And.intro (by assumption) ?_ | refine goT ?_ | refine goF ?_ | refine goL ?_ | refine goR ?_ | refine goRL ?_ | refine goRR ?_)
    all_goals try (conv => whnf)
    refine ⟨0, layF (l1k l) p, fun _ => 0, 40, fun _ => 255, fun _ => 0, fun _ => false, 0, layF (l1k l) p, fun _ => 0, fun _ => 255, fun _ => 0, fun _ => 0, ?_, ⟨fun _ _ => rfl, fun j _ => lay_hi l p j, fun _ _ => rfl⟩, ?_⟩
    · ((repeat' ((conv => whnf) <;> first | exact trivial | (with_reducible first | refine And.intro ?_ ?_ | refine rows_lt1 ?_ | refine rows_lt2 ?_ ?_ | refine rows_lt3 ?_ ?_ ?_ | refine rows_lt4 ?_ ?_ ?_ ?_ | refine rows_lt5 ?_ ?_ ?_ ?_ ?_ | refine ints_lt1 ?_ | refine ints_lt2 ?_ ?_ | refine ints_lt3 ?_ ?_ ?_ | refine rows_lt7 ?_ ?_ ?_ ?_ ?_ ?_ ?_ | refine aggs_lt1 ?_ | refine aggs_lt2 ?_ ?_ | refine aggs_lt3 ?_ ?_ ?_ | refine fun (_ : Nat) => ?_) | refine fun (_ : (_ : Nat) < _) => ?_ | exact rfl | exact Nat.le_of_ble_eq_true rfl | (change (_ : Nat) ≤ _; omega) | (change (_ : Nat) = _; omega) | (change (_ : Int) = _; omega))); (all_goals try (conv => whnf)))
      all_goals (rename_i x hx; have hx6 : x < 6 := hx; rcases x with _ | _ | _ | _ | _ | _ | x <;> first | (exact absurd hx6 (by omega)) | ((repeat' ((conv => whnf) <;> first | exact trivial | (with_reducible first | refine And.intro ?_ ?_ | refine rows_lt1 ?_ | refine rows_lt2 ?_ ?_ | refine rows_lt3 ?_ ?_ ?_ | refine rows_lt4 ?_ ?_ ?_ ?_ | refine rows_lt5 ?_ ?_ ?_ ?_ ?_ | refine ints_lt1 ?_ | refine ints_lt2 ?_ ?_ | refine ints_lt3 ?_ ?_ ?_ | refine rows_lt7 ?_ ?_ ?_ ?_ ?_ ?_ ?_ | refine aggs_lt1 ?_ | refine aggs_lt2 ?_ ?_ | refine aggs_lt3 ?_ ?_ ?_ | refine fun (_ : Nat) => ?_) | refine fun (_ : (_ : Nat) < _) => ?_ | exact rfl | exact Nat.le_of_ble_eq_true rfl | (change (_ : Nat) ≤ _; omega) | (change (_ : Nat) = _; omega) | (change (_ : Int) = _; omega))); (all_goals try (conv => whnf))))
    repeat ((conv => whnf); first | refine sdO ?_ | refine nlO ?_ | refine goA ?_ | refine goB ?_ | (apply Exists.intro; (repeat apply Exists.intro); refine caO ?_) | (refine Or.inl ?_; (conv => whnf); (repeat apply Exists.intro); refine caO ?_) | (refine Or.inr ?_; (conv => whnf); first | ((repeat apply Exists.intro); refine caO ?_) | (refine Or.inl ?_; (conv => whnf); (repeat apply Exists.intro); refine caO ?_) | (refine Or.inr ?_; (conv => whnf); (repeat apply Exists.intro); refine caO ?_)) | refine And.intro (by assumption) ?_ | refine goT ?_ | refine goF ?_ | refine goL ?_ | refine goR ?_ | refine goRL ?_ | refine goRR ?_)
    all_goals try (conv => whnf)
    ((repeat' ((conv => whnf) <;> first | exact trivial | (with_reducible first | refine And.intro ?_ ?_ | refine rows_lt1 ?_ | refine rows_lt2 ?_ ?_ | refine rows_lt3 ?_ ?_ ?_ | refine rows_lt4 ?_ ?_ ?_ ?_ | refine rows_lt5 ?_ ?_ ?_ ?_ ?_ | refine ints_lt1 ?_ | refine ints_lt2 ?_ ?_ | refine ints_lt3 ?_ ?_ ?_ | refine rows_lt7 ?_ ?_ ?_ ?_ ?_ ?_ ?_ | refine aggs_lt1 ?_ | refine aggs_lt2 ?_ ?_ | refine aggs_lt3 ?_ ?_ ?_ | refine fun (_ : Nat) => ?_) | refine fun (_ : (_ : Nat) < _) => ?_ | exact rfl | exact Nat.le_of_ble_eq_true rfl | (change (_ : Nat) ≤ _; omega) | (change (_ : Nat) = _; omega) | (change (_ : Int) = _; omega))); (all_goals try (conv => whnf)))
end Go.Proofs.YtbbcnccmohjagaaGreatDoor
