/- The address space: loads, stores, fetches. -/
import Derived.Test.YtglijhimopdgkaaGreatDoorCA
namespace Go.Proofs.YtglijhimopdgkaaGreatDoor
open Go.RowKit
set_option maxRecDepth 100000
set_option maxHeartbeats 20000000
attribute [local irreducible] ck
theorem norow_fl (P : Nat) (m : Nat → BitVec 8) : NoRow (flI P m) := fun i hi => by
  rcases i with _ | i
  · exact ⟨rfl, fun _ _ => trivial⟩
  · omega
theorem norow_sp (st : Nat) (ra po : Nat → BitVec 8) (P : Nat) (m : Nat → BitVec 8) (w : Nat → BitVec 32) (l : Nat → Bool) : NoRow (spI st ra po P m w l) := fun i hi => by
  rcases i with _ | _ | _ | _ | _ | i
  · exact trivial
  · exact fun _ _ => trivial
  · exact fun _ _ => trivial
  · exact norow_fl P m
  · exact norow_ch w l
  · exact absurd hi (by omega)
def C_ot_Read : SpecP := fun A K => ∃ w l i, A [chI w l, .int i] ∧ ((0 ≤ i ∧ i < 64) ∧ l i.toNat = false) ∧ K (tupOf [.u32 (w i.toNat), .nat 0])
theorem g_ot_Read : Gd 107 (pureP ty C_ot_Read) := by
  refine goodP (E := PG [(124, aliasP ty C_ot_fuses_i), (125, pureP ty C_fu_Read)]) (pgOK ⟨g_ot_fuses_i, g_fu_Read, trivial⟩) mixes Tryz.func107 (by kernel_rfl) (by kernel_rfl) ?_
  rintro A K ⟨w, l, i, hA, ⟨hi, hl⟩, hK⟩
  have hi2 : 0 ≤ i ∧ i < ((64 : Nat) : Int) := by omega
  refine ⟨_, _, fun _ => none, hA, hK, by kernel_rfl, own_res trivial trivial, ?_⟩
  repeat ((conv => whnf); first | refine sdO ?_ | refine nlO ?_ | refine goA ?_ | refine goB ?_ | (apply Exists.intro; (repeat apply Exists.intro); refine caO ?_) | (refine Or.inl ?_; (conv => whnf); (repeat apply Exists.intro); refine caO ?_) | (refine Or.inr ?_; (conv => whnf); first | ((repeat apply Exists.intro); refine caO ?_) | (refine Or.inl ?_; (conv => whnf); (repeat apply Exists.intro); refine caO ?_) | (refine Or.inr ?_; (conv => whnf); (repeat apply Exists.intro); refine caO ?_)) | refine And.intro (by assumption) ?_ | refine goT ?_ | refine goF ?_ | refine goL ?_ | refine goR ?_ | refine goRL ?_ | refine goRR ?_)
  all_goals try (conv => whnf)
  refine ⟨w, l, ⟨?_, norow_ch w l, trivial⟩, ?_⟩
  · ((repeat' ((conv => whnf) <;> first | exact trivial | (with_reducible first | refine And.intro ?_ ?_ | refine qL1 ?_ | refine qL2 ?_ ?_ | refine qL3 ?_ ?_ ?_ | refine qL4 ?_ ?_ ?_ ?_ | refine qL5 ?_ ?_ ?_ ?_ ?_ | refine yL1 ?_ | refine yL2 ?_ ?_ | refine yL3 ?_ ?_ ?_ | refine qL7 ?_ ?_ ?_ ?_ ?_ ?_ ?_ | refine zL1 ?_ | refine zL2 ?_ ?_ | refine zL3 ?_ ?_ ?_ | refine fun (_ : Nat) => ?_) | refine fun (_ : (_ : Nat) < _) => ?_ | exact rfl | exact Nat.le_of_ble_eq_true rfl | (change (_ : Nat) ≤ _; omega) | (change (_ : Nat) = _; omega) | (change (_ : Int) = _; omega))); (all_goals try (conv => whnf)))
  repeat ((conv => whnf); first | refine sdO ?_ | refine nlO ?_ | refine goA ?_ | refine goB ?_ | (apply Exists.intro; (repeat apply Exists.intro); refine caO ?_) | (refine Or.inl ?_; (conv => whnf); (repeat apply Exists.intro); refine caO ?_) | (refine Or.inr ?_; (conv => whnf); first | ((repeat apply Exists.intro); refine caO ?_) | (refine Or.inl ?_; (conv => whnf); (repeat apply Exists.intro); refine caO ?_) | (refine Or.inr ?_; (conv => whnf); (repeat apply Exists.intro); refine caO ?_)) | refine And.intro (by assumption) ?_ | refine goT ?_ | refine goF ?_ | refine goL ?_ | refine goR ?_ | refine goRL ?_ | refine goRR ?_)
  all_goals try (conv => whnf)
  ((repeat' ((conv => whnf) <;> first | exact trivial | (with_reducible first | refine And.intro ?_ ?_ | refine qL1 ?_ | refine qL2 ?_ ?_ | refine qL3 ?_ ?_ ?_ | refine qL4 ?_ ?_ ?_ ?_ | refine qL5 ?_ ?_ ?_ ?_ ?_ | refine yL1 ?_ | refine yL2 ?_ ?_ | refine yL3 ?_ ?_ ?_ | refine qL7 ?_ ?_ ?_ ?_ ?_ ?_ ?_ | refine zL1 ?_ | refine zL2 ?_ ?_ | refine zL3 ?_ ?_ ?_ | refine fun (_ : Nat) => ?_) | refine fun (_ : (_ : Nat) < _) => ?_ | exact rfl | exact Nat.le_of_ble_eq_true rfl | (change (_ : Nat) ≤ _; omega) | (change (_ : Nat) = _; omega) | (change (_ : Int) = _; omega))); (all_goals try (conv => whnf)))
def beW (v : BitVec 32) (i : Nat) : BitVec 8 := if i = 0 then (v >>> 24).setWidth 8 else if i = 1 then (v >>> 16).setWidth 8 else if i = 2 then (v >>> 8).setWidth 8 else v.setWidth 8
def C_en_be : SpecP := fun A K => ∃ v, A [.u32 v] ∧ K (arr8 4 (beW v))
theorem g_en_be : Gd 108 (pureP ty C_en_be) := by
  refine goodP (E := PG []) (pgOK trivial) mixes Tryz.func108 (by kernel_rfl) (by kernel_rfl) ?_
  rintro A K ⟨v, hA, hK⟩
  refine ⟨_, _, fun _ => none, hA, hK, by kernel_rfl, fun _ _ => trivial, ?_⟩
  repeat ((conv => whnf); first | refine sdO ?_ | refine nlO ?_ | refine goA ?_ | refine goB ?_ | (apply Exists.intro; (repeat apply Exists.intro); refine caO ?_) | (refine Or.inl ?_; (conv => whnf); (repeat apply Exists.intro); refine caO ?_) | (refine Or.inr ?_; (conv => whnf); first | ((repeat apply Exists.intro); refine caO ?_) | (refine Or.inl ?_; (conv => whnf); (repeat apply Exists.intro); refine caO ?_) | (refine Or.inr ?_; (conv => whnf); (repeat apply Exists.intro); refine caO ?_)) | refine And.intro (by assumption) ?_ | refine goT ?_ | refine goF ?_ | refine goL ?_ | refine goR ?_ | refine goRL ?_ | refine goRR ?_)
  all_goals try (conv => whnf)
  ((repeat' ((conv => whnf) <;> first | exact trivial | (with_reducible first | refine And.intro ?_ ?_ | refine qL1 ?_ | refine qL2 ?_ ?_ | refine qL3 ?_ ?_ ?_ | refine qL4 ?_ ?_ ?_ ?_ | refine qL5 ?_ ?_ ?_ ?_ ?_ | refine yL1 ?_ | refine yL2 ?_ ?_ | refine yL3 ?_ ?_ ?_ | refine qL7 ?_ ?_ ?_ ?_ ?_ ?_ ?_ | refine zL1 ?_ | refine zL2 ?_ ?_ | refine zL3 ?_ ?_ ?_ | refine fun (_ : Nat) => ?_) | refine fun (_ : (_ : Nat) < _) => ?_ | exact rfl | exact Nat.le_of_ble_eq_true rfl | (change (_ : Nat) ≤ _; omega) | (change (_ : Nat) = _; omega) | (change (_ : Int) = _; omega))); (all_goals try (conv => whnf)))
  rename_i x hx
  rcases (show x = 0 ∨ x = 1 ∨ x = 2 ∨ x = 3 by omega) with rfl | rfl | rfl | rfl <;> rfl
def fuB (w : Nat → BitVec 32) (i : Nat) : BitVec 8 := beW (w (i / 4)) (i % 4)
def L_rdF (o n : Nat) (st : Nat) (ra po : Nat → BitVec 8) (P : Nat) (m : Nat → BitVec 8) (w : Nat → BitVec 32) (l : Nat → Bool) : LI := ⟨Nat, (· ≤ n), fun k => [(0, spI st ra po P m w l), (1, .nat o), (2, .nat n), (8, .gsl 5 1040 k), (9, .nat (o + k))], fun k => [(1040, .grow 5 k (bys fun j => fuB w (o + j)))], fun k => n - k, some, some⟩
def C_sp_rdF : SpecP := fun A K => ∃ st ra po P m w l o n, A [spI st ra po P m w l, .nat o, .nat n] ∧ (o + n ≤ 256 ∧ 0 < n ∧ ∀ i, i < 64 → l i = false) ∧ K (tupOf [bsf n (fun j => fuB w (o + j)), .nat 0])
theorem g_sp_rdF : Gd 81 (pureP ty C_sp_rdF) := by
  refine goodP (E := PG [(107, pureP ty C_ot_Read), (108, pureP ty C_en_be)]) (pgOK ⟨g_ot_Read, g_en_be, trivial⟩) mixes Tryz.func81 (by kernel_rfl) (by kernel_rfl) ?_
  rintro A K ⟨st, ra, po, P, m, w, l, o, n, hA, ⟨ho, hn, hl⟩, hK⟩
  refine ⟨_, _, loops [(3, L_rdF o n st ra po P m w l)], hA, hK, by kernel_rfl, own_res ⟨rfl, fun _ _ => trivial⟩ trivial, ?_⟩
  repeat ((conv => whnf); first | refine sdO ?_ | refine nlO ?_ | refine goA ?_ | refine goB ?_ | (apply Exists.intro; (repeat apply Exists.intro); refine caO ?_) | (refine Or.inl ?_; (conv => whnf); (repeat apply Exists.intro); refine caO ?_) | (refine Or.inr ?_; (conv => whnf); first | ((repeat apply Exists.intro); refine caO ?_) | (refine Or.inl ?_; (conv => whnf); (repeat apply Exists.intro); refine caO ?_) | (refine Or.inr ?_; (conv => whnf); (repeat apply Exists.intro); refine caO ?_)) | refine And.intro (by assumption) ?_ | refine goT ?_ | refine goF ?_ | refine goL ?_ | refine goR ?_ | refine goRL ?_ | refine goRR ?_)
  all_goals try (conv => whnf)
  refine Exists.intro (fun _ => True) (And.intro (Enter.mk (0 : Nat) (Nat.zero_le _) trivial ?_) (fun (k : Nat) (hk : k ≤ n) _ => ?_))
  · ((repeat' ((conv => whnf) <;> first | exact trivial | (with_reducible first | refine And.intro ?_ ?_ | refine qL1 ?_ | refine qL2 ?_ ?_ | refine qL3 ?_ ?_ ?_ | refine qL4 ?_ ?_ ?_ ?_ | refine qL5 ?_ ?_ ?_ ?_ ?_ | refine yL1 ?_ | refine yL2 ?_ ?_ | refine yL3 ?_ ?_ ?_ | refine qL7 ?_ ?_ ?_ ?_ ?_ ?_ ?_ | refine zL1 ?_ | refine zL2 ?_ ?_ | refine zL3 ?_ ?_ ?_ | refine fun (_ : Nat) => ?_) | refine fun (_ : (_ : Nat) < _) => ?_ | exact rfl | exact Nat.le_of_ble_eq_true rfl | (change (_ : Nat) ≤ _; omega) | (change (_ : Nat) = _; omega) | (change (_ : Int) = _; omega))); (all_goals try (conv => whnf)))
    rename_i x hx
    exact absurd hx (Nat.not_lt_zero _)
  rcases Nat.lt_or_ge k n with h | h
  · have h1 : ((o + k) / 4 : Nat) < 64 := by omega
    have hl1 : (0 ≤ (((o + k) / 4 : Nat) : Int) ∧ (((o + k) / 4 : Nat) : Int) < 64) ∧ l (((o + k) / 4 : Nat) : Int).toNat = false := ⟨by omega, hl _ h1⟩
    repeat ((conv => whnf); first | refine sdO ?_ | refine nlO ?_ | refine goA ?_ | refine goB ?_ | (apply Exists.intro; (repeat apply Exists.intro); refine caO ?_) | (refine Or.inl ?_; (conv => whnf); (repeat apply Exists.intro); refine caO ?_) | (refine Or.inr ?_; (conv => whnf); first | ((repeat apply Exists.intro); refine caO ?_) | (refine Or.inl ?_; (conv => whnf); (repeat apply Exists.intro); refine caO ?_) | (refine Or.inr ?_; (conv => whnf); (repeat apply Exists.intro); refine caO ?_)) | refine And.intro (by assumption) ?_ | refine goT ?_ | refine goF ?_ | refine goL ?_ | refine goR ?_ | refine goRL ?_ | refine goRR ?_)
    all_goals try (conv => whnf)
    refine Again.mk (k + 1 : Nat) h trivial (show n - (k + 1) < n - k by omega) ?_
    ((repeat' ((conv => whnf) <;> first | exact trivial | (with_reducible first | refine And.intro ?_ ?_ | refine qL1 ?_ | refine qL2 ?_ ?_ | refine qL3 ?_ ?_ ?_ | refine qL4 ?_ ?_ ?_ ?_ | refine qL5 ?_ ?_ ?_ ?_ ?_ | refine yL1 ?_ | refine yL2 ?_ ?_ | refine yL3 ?_ ?_ ?_ | refine qL7 ?_ ?_ ?_ ?_ ?_ ?_ ?_ | refine zL1 ?_ | refine zL2 ?_ ?_ | refine zL3 ?_ ?_ ?_ | refine fun (_ : Nat) => ?_) | refine fun (_ : (_ : Nat) < _) => ?_ | exact rfl | exact Nat.le_of_ble_eq_true rfl | (change (_ : Nat) ≤ _; omega) | (change (_ : Nat) = _; omega) | (change (_ : Int) = _; omega))); (all_goals try (conv => whnf)))
    rename_i x hx
    by_cases e : x < k
    · rw [if_pos e]
      rfl
    · obtain rfl : x = k := by
        have hx : x < k + 1 := hx
        omega
      rw [if_neg e, Nat.sub_self]
      rfl
  · obtain rfl : k = n := by omega
    repeat ((conv => whnf); first | refine sdO ?_ | refine nlO ?_ | refine goA ?_ | refine goB ?_ | (apply Exists.intro; (repeat apply Exists.intro); refine caO ?_) | (refine Or.inl ?_; (conv => whnf); (repeat apply Exists.intro); refine caO ?_) | (refine Or.inr ?_; (conv => whnf); first | ((repeat apply Exists.intro); refine caO ?_) | (refine Or.inl ?_; (conv => whnf); (repeat apply Exists.intro); refine caO ?_) | (refine Or.inr ?_; (conv => whnf); (repeat apply Exists.intro); refine caO ?_)) | refine And.intro (by assumption) ?_ | refine goT ?_ | refine goF ?_ | refine goL ?_ | refine goR ?_ | refine goRL ?_ | refine goRR ?_)
    all_goals try (conv => whnf)
    ((repeat' ((conv => whnf) <;> first | exact trivial | (with_reducible first | refine And.intro ?_ ?_ | refine qL1 ?_ | refine qL2 ?_ ?_ | refine qL3 ?_ ?_ ?_ | refine qL4 ?_ ?_ ?_ ?_ | refine qL5 ?_ ?_ ?_ ?_ ?_ | refine yL1 ?_ | refine yL2 ?_ ?_ | refine yL3 ?_ ?_ ?_ | refine qL7 ?_ ?_ ?_ ?_ ?_ ?_ ?_ | refine zL1 ?_ | refine zL2 ?_ ?_ | refine zL3 ?_ ?_ ?_ | refine fun (_ : Nat) => ?_) | refine fun (_ : (_ : Nat) < _) => ?_ | exact rfl | exact Nat.le_of_ble_eq_true rfl | (change (_ : Nat) ≤ _; omega) | (change (_ : Nat) = _; omega) | (change (_ : Int) = _; omega))); (all_goals try (conv => whnf)))
def rdF (r : Nat) (ra po m : Nat → BitVec 8) (w : Nat → BitVec 32) : Nat → BitVec 8 := if r = 3 then m else if r = 5 then fuB w else mmF r ra po
def C_sp_read : SpecP := fun A K => ∃ st ra po m w l r o n, A [spI st ra po 40 m w l, .nat r, .nat o, .nat n] ∧ (0 < r ∧ r < 6 ∧ o + n ≤ rs r ∧ 0 < n ∧ ∀ i, i < 64 → l i = false) ∧ K (tupOf [bsf n (fun j => rdF r ra po m w (o + j)), .nat 0])
theorem g_sp_read : Gd 47 (pureP ty C_sp_read) := by
  refine goodP (E := PG [(60, aliasP ty C_sp_memI), (81, pureP ty C_sp_rdF), (80, pureR ty C_fl_Read), (82, pureR ty C_bclone)]) (pgOK ⟨g_sp_memI, g_sp_rdF, g_fl_Read, g_bclone, trivial⟩) mixes Tryz.func47 (by kernel_rfl) (by kernel_rfl) ?_
  rintro A K ⟨st, ra, po, m, w, l, r, o, n, hA, ⟨h0, h6, ho, hn, hl⟩, hK⟩
  refine ⟨_, _, fun _ => none, hA, hK, by kernel_rfl, own_res ⟨rfl, fun _ _ => trivial⟩ trivial, ?_⟩
  have own : ∀ r, OwnR r → o + n ≤ mmL r → True := fun _ _ _ => trivial
  rcases (show r = 3 ∨ r = 5 ∨ (r = 1 ∨ r = 2 ∨ r = 4) by omega) with rfl | rfl | h
  · have h1 : (0 : Int) ≤ (o : Int) ∧ (0 : Int) ≤ (n : Int) ∧ (o : Int) + (n : Int) ≤ ((40 * 256 : Nat) : Int) := by
      have : o + n ≤ 10240 := ho
      omega
    have h2 : i64' (o : Int) := by
      have : o + n ≤ 10240 := ho
      unfold i64'; omega
    repeat ((conv => whnf); first | refine sdO ?_ | refine nlO ?_ | refine goA ?_ | refine goB ?_ | (apply Exists.intro; (repeat apply Exists.intro); refine caO ?_) | (refine Or.inl ?_; (conv => whnf); (repeat apply Exists.intro); refine caO ?_) | (refine Or.inr ?_; (conv => whnf); first | ((repeat apply Exists.intro); refine caO ?_) | (refine Or.inl ?_; (conv => whnf); (repeat apply Exists.intro); refine caO ?_) | (refine Or.inr ?_; (conv => whnf); (repeat apply Exists.intro); refine caO ?_)) | refine And.intro (by assumption) ?_ | refine goT ?_ | refine goF ?_ | refine goL ?_ | refine goR ?_ | refine goRL ?_ | refine goRR ?_)
    all_goals try (conv => whnf)
    ((repeat' ((conv => whnf) <;> first | exact trivial | (with_reducible first | refine And.intro ?_ ?_ | refine qL1 ?_ | refine qL2 ?_ ?_ | refine qL3 ?_ ?_ ?_ | refine qL4 ?_ ?_ ?_ ?_ | refine qL5 ?_ ?_ ?_ ?_ ?_ | refine yL1 ?_ | refine yL2 ?_ ?_ | refine yL3 ?_ ?_ ?_ | refine qL7 ?_ ?_ ?_ ?_ ?_ ?_ ?_ | refine zL1 ?_ | refine zL2 ?_ ?_ | refine zL3 ?_ ?_ ?_ | refine fun (_ : Nat) => ?_) | refine fun (_ : (_ : Nat) < _) => ?_ | exact rfl | exact Nat.le_of_ble_eq_true rfl | (change (_ : Nat) ≤ _; omega) | (change (_ : Nat) = _; omega) | (change (_ : Int) = _; omega))); (all_goals try (conv => whnf)))
  · have h1 : o + n ≤ 256 := ho
    repeat ((conv => whnf); first | refine sdO ?_ | refine nlO ?_ | refine goA ?_ | refine goB ?_ | (apply Exists.intro; (repeat apply Exists.intro); refine caO ?_) | (refine Or.inl ?_; (conv => whnf); (repeat apply Exists.intro); refine caO ?_) | (refine Or.inr ?_; (conv => whnf); first | ((repeat apply Exists.intro); refine caO ?_) | (refine Or.inl ?_; (conv => whnf); (repeat apply Exists.intro); refine caO ?_) | (refine Or.inr ?_; (conv => whnf); (repeat apply Exists.intro); refine caO ?_)) | refine And.intro (by assumption) ?_ | refine goT ?_ | refine goF ?_ | refine goL ?_ | refine goR ?_ | refine goRL ?_ | refine goRR ?_)
    all_goals try (conv => whnf)
    ((repeat' ((conv => whnf) <;> first | exact trivial | (with_reducible first | refine And.intro ?_ ?_ | refine qL1 ?_ | refine qL2 ?_ ?_ | refine qL3 ?_ ?_ ?_ | refine qL4 ?_ ?_ ?_ ?_ | refine qL5 ?_ ?_ ?_ ?_ ?_ | refine yL1 ?_ | refine yL2 ?_ ?_ | refine yL3 ?_ ?_ ?_ | refine qL7 ?_ ?_ ?_ ?_ ?_ ?_ ?_ | refine zL1 ?_ | refine zL2 ?_ ?_ | refine zL3 ?_ ?_ ?_ | refine fun (_ : Nat) => ?_) | refine fun (_ : (_ : Nat) < _) => ?_ | exact rfl | exact Nat.le_of_ble_eq_true rfl | (change (_ : Nat) ≤ _; omega) | (change (_ : Nat) = _; omega) | (change (_ : Int) = _; omega))); (all_goals try (conv => whnf)))
    all_goals exact hl _ (by assumption)
  · have h1 : o + n ≤ mmL r := by rcases h with rfl | rfl | rfl <;> exact ho
    have h3 : ¬ r = 3 := by omega
    have h5 : ¬ r = 5 := by omega
    have hm : mmL r ≤ 4096 := by unfold mmL; split <;> decide
    repeat ((conv => whnf); first | refine sdO ?_ | refine nlO ?_ | refine goA ?_ | refine goB ?_ | (apply Exists.intro; (repeat apply Exists.intro); refine caO ?_) | (refine Or.inl ?_; (conv => whnf); (repeat apply Exists.intro); refine caO ?_) | (refine Or.inr ?_; (conv => whnf); first | ((repeat apply Exists.intro); refine caO ?_) | (refine Or.inl ?_; (conv => whnf); (repeat apply Exists.intro); refine caO ?_) | (refine Or.inr ?_; (conv => whnf); (repeat apply Exists.intro); refine caO ?_)) | refine And.intro (by assumption) ?_ | refine goT ?_ | refine goF ?_ | refine goL ?_ | refine goR ?_ | refine goRL ?_ | refine goRR ?_)
    all_goals try (conv => whnf)
    refine ⟨st, ra, po, 40, m, w, l, r, ⟨?_, norow_sp st ra po 40 m w l, trivial, trivial⟩, h, ?_⟩
    · ((repeat' ((conv => whnf) <;> first | exact trivial | (with_reducible first | refine And.intro ?_ ?_ | refine qL1 ?_ | refine qL2 ?_ ?_ | refine qL3 ?_ ?_ ?_ | refine qL4 ?_ ?_ ?_ ?_ | refine qL5 ?_ ?_ ?_ ?_ ?_ | refine yL1 ?_ | refine yL2 ?_ ?_ | refine yL3 ?_ ?_ ?_ | refine qL7 ?_ ?_ ?_ ?_ ?_ ?_ ?_ | refine zL1 ?_ | refine zL2 ?_ ?_ | refine zL3 ?_ ?_ ?_ | refine fun (_ : Nat) => ?_) | refine fun (_ : (_ : Nat) < _) => ?_ | exact rfl | exact Nat.le_of_ble_eq_true rfl | (change (_ : Nat) ≤ _; omega) | (change (_ : Nat) = _; omega) | (change (_ : Int) = _; omega))); (all_goals try (conv => whnf)))
    repeat ((conv => whnf); first | refine sdO ?_ | refine nlO ?_ | refine goA ?_ | refine goB ?_ | (apply Exists.intro; (repeat apply Exists.intro); refine caO ?_) | (refine Or.inl ?_; (conv => whnf); (repeat apply Exists.intro); refine caO ?_) | (refine Or.inr ?_; (conv => whnf); first | ((repeat apply Exists.intro); refine caO ?_) | (refine Or.inl ?_; (conv => whnf); (repeat apply Exists.intro); refine caO ?_) | (refine Or.inr ?_; (conv => whnf); (repeat apply Exists.intro); refine caO ?_)) | refine And.intro (by assumption) ?_ | refine goT ?_ | refine goF ?_ | refine goL ?_ | refine goR ?_ | refine goRL ?_ | refine goRR ?_)
    all_goals try (conv => whnf)
    ((repeat' ((conv => whnf) <;> first | exact trivial | (with_reducible first | refine And.intro ?_ ?_ | refine qL1 ?_ | refine qL2 ?_ ?_ | refine qL3 ?_ ?_ ?_ | refine qL4 ?_ ?_ ?_ ?_ | refine qL5 ?_ ?_ ?_ ?_ ?_ | refine yL1 ?_ | refine yL2 ?_ ?_ | refine yL3 ?_ ?_ ?_ | refine qL7 ?_ ?_ ?_ ?_ ?_ ?_ ?_ | refine zL1 ?_ | refine zL2 ?_ ?_ | refine zL3 ?_ ?_ ?_ | refine fun (_ : Nat) => ?_) | refine fun (_ : (_ : Nat) < _) => ?_ | exact rfl | exact Nat.le_of_ble_eq_true rfl | (change (_ : Nat) ≤ _; omega) | (change (_ : Nat) = _; omega) | (change (_ : Int) = _; omega))); (all_goals try (conv => whnf)))
    all_goals (show mmF r ra po (o + (0 + _)) = rdF r ra po m w (o + _); unfold rdF; rw [if_neg h3, if_neg h5, Nat.zero_add])
def wrF (f : Nat → BitVec 8) (o n : Nat) (p : Nat → BitVec 8) (j : Nat) : BitVec 8 := if o ≤ j ∧ j < o + n then p (j - o) else f j
def wrRa (r : Nat) (ra : Nat → BitVec 8) (o n : Nat) (p : Nat → BitVec 8) : Nat → BitVec 8 := if r = 1 then wrF ra o n p else if r = 2 then wrF ra (4096 + o) n p else ra
def wrPo (r : Nat) (po : Nat → BitVec 8) (o n : Nat) (p : Nat → BitVec 8) : Nat → BitVec 8 := if r = 4 then wrF po o n p else po
def C_sp_write : SpecM := fun A K => ∃ st ra po P m w l r o n p, A [.ptr TSp 0 [], .nat r, .nat o, bsl n p] (spR 0 1 2 3 4 5 6 st ra po P m w l) ∧ (OwnR r ∧ o + n ≤ mmL r) ∧ K (.nat 0) (spR 0 1 2 3 4 5 6 st (wrRa r ra o n p) (wrPo r po o n p) P m w l)
theorem g_sp_write : Gd 35 (mutD ty [true, false, false, false] C_sp_write) := by
  refine goodD (E := PG [(60, mutD ty [true, false] C_sp_memM)]) (pgOK ⟨g_sp_memM, trivial⟩) mixes Tryz.func35 (by kernel_rfl) (by kernel_rfl) ?_
  rintro A K ⟨st, ra, po, P, m, w, l, r, o, n, p, hA, ⟨hr, ho⟩, hK⟩
  refine ⟨_, _, _, _, fun _ => none, hA, hK, by kernel_rfl, by kernel_rfl, ⟨trivial, trivial, rfl, trivial, trivial, rfl, rfl, trivial⟩, own_sp .., trivial, ?_⟩
  rcases hr with rfl | rfl | rfl
  · have ho : o + n ≤ 4096 := ho
    repeat ((conv => whnf); first | refine sdO ?_ | refine nlO ?_ | refine goA ?_ | refine goB ?_ | (apply Exists.intro; (repeat apply Exists.intro); refine caO ?_) | (refine Or.inl ?_; (conv => whnf); (repeat apply Exists.intro); refine caO ?_) | (refine Or.inr ?_; (conv => whnf); first | ((repeat apply Exists.intro); refine caO ?_) | (refine Or.inl ?_; (conv => whnf); (repeat apply Exists.intro); refine caO ?_) | (refine Or.inr ?_; (conv => whnf); (repeat apply Exists.intro); refine caO ?_)) | refine And.intro (by assumption) ?_ | refine goT ?_ | refine goF ?_ | refine goL ?_ | refine goR ?_ | refine goRL ?_ | refine goRR ?_)
    all_goals try (conv => whnf)
    (refine out_fnd ?_; (repeat' ((conv => whnf) <;> first | exact trivial | (with_reducible first | refine And.intro ?_ ?_ | refine qL1 ?_ | refine qL2 ?_ ?_ | refine qL3 ?_ ?_ ?_ | refine qL4 ?_ ?_ ?_ ?_ | refine qL5 ?_ ?_ ?_ ?_ ?_ | refine yL1 ?_ | refine yL2 ?_ ?_ | refine yL3 ?_ ?_ ?_ | refine qL7 ?_ ?_ ?_ ?_ ?_ ?_ ?_ | refine zL1 ?_ | refine zL2 ?_ ?_ | refine zL3 ?_ ?_ ?_ | refine fun (_ : Nat) => ?_) | refine fun (_ : (_ : Nat) < _) => ?_ | exact rfl | exact Nat.le_of_ble_eq_true rfl | (change (_ : Nat) ≤ _; omega) | (change (_ : Nat) = _; omega) | (change (_ : Int) = _; omega))); (all_goals try (conv => whnf)))
    all_goals (
      rename_i x hx
      show (if 0 + o ≤ x ∧ x < 0 + o + min n (4096 - o) then p (x - (0 + o)) else ra x) = wrRa 1 ra o n p x
      unfold wrRa wrF
      rw [if_pos rfl, Nat.zero_add, Nat.min_eq_left (by omega)])
  · have ho : o + n ≤ 4096 := ho
    repeat ((conv => whnf); first | refine sdO ?_ | refine nlO ?_ | refine goA ?_ | refine goB ?_ | (apply Exists.intro; (repeat apply Exists.intro); refine caO ?_) | (refine Or.inl ?_; (conv => whnf); (repeat apply Exists.intro); refine caO ?_) | (refine Or.inr ?_; (conv => whnf); first | ((repeat apply Exists.intro); refine caO ?_) | (refine Or.inl ?_; (conv => whnf); (repeat apply Exists.intro); refine caO ?_) | (refine Or.inr ?_; (conv => whnf); (repeat apply Exists.intro); refine caO ?_)) | refine And.intro (by assumption) ?_ | refine goT ?_ | refine goF ?_ | refine goL ?_ | refine goR ?_ | refine goRL ?_ | refine goRR ?_)
    all_goals try (conv => whnf)
    (refine out_fnd ?_; (repeat' ((conv => whnf) <;> first | exact trivial | (with_reducible first | refine And.intro ?_ ?_ | refine qL1 ?_ | refine qL2 ?_ ?_ | refine qL3 ?_ ?_ ?_ | refine qL4 ?_ ?_ ?_ ?_ | refine qL5 ?_ ?_ ?_ ?_ ?_ | refine yL1 ?_ | refine yL2 ?_ ?_ | refine yL3 ?_ ?_ ?_ | refine qL7 ?_ ?_ ?_ ?_ ?_ ?_ ?_ | refine zL1 ?_ | refine zL2 ?_ ?_ | refine zL3 ?_ ?_ ?_ | refine fun (_ : Nat) => ?_) | refine fun (_ : (_ : Nat) < _) => ?_ | exact rfl | exact Nat.le_of_ble_eq_true rfl | (change (_ : Nat) ≤ _; omega) | (change (_ : Nat) = _; omega) | (change (_ : Int) = _; omega))); (all_goals try (conv => whnf)))
    all_goals (
      rename_i x hx
      show (if 4096 + o ≤ x ∧ x < 4096 + o + min n (4096 - o) then p (x - (4096 + o)) else ra x) = wrRa 2 ra o n p x
      rw [show wrRa 2 ra o n p = wrF ra (4096 + o) n p from rfl, Nat.min_eq_left (by omega)]
      rfl)
  · have ho : o + n ≤ 64 := ho
    repeat ((conv => whnf); first | refine sdO ?_ | refine nlO ?_ | refine goA ?_ | refine goB ?_ | (apply Exists.intro; (repeat apply Exists.intro); refine caO ?_) | (refine Or.inl ?_; (conv => whnf); (repeat apply Exists.intro); refine caO ?_) | (refine Or.inr ?_; (conv => whnf); first | ((repeat apply Exists.intro); refine caO ?_) | (refine Or.inl ?_; (conv => whnf); (repeat apply Exists.intro); refine caO ?_) | (refine Or.inr ?_; (conv => whnf); (repeat apply Exists.intro); refine caO ?_)) | refine And.intro (by assumption) ?_ | refine goT ?_ | refine goF ?_ | refine goL ?_ | refine goR ?_ | refine goRL ?_ | refine goRR ?_)
    all_goals try (conv => whnf)
    (refine out_fnd ?_; (repeat' ((conv => whnf) <;> first | exact trivial | (with_reducible first | refine And.intro ?_ ?_ | refine qL1 ?_ | refine qL2 ?_ ?_ | refine qL3 ?_ ?_ ?_ | refine qL4 ?_ ?_ ?_ ?_ | refine qL5 ?_ ?_ ?_ ?_ ?_ | refine yL1 ?_ | refine yL2 ?_ ?_ | refine yL3 ?_ ?_ ?_ | refine qL7 ?_ ?_ ?_ ?_ ?_ ?_ ?_ | refine zL1 ?_ | refine zL2 ?_ ?_ | refine zL3 ?_ ?_ ?_ | refine fun (_ : Nat) => ?_) | refine fun (_ : (_ : Nat) < _) => ?_ | exact rfl | exact Nat.le_of_ble_eq_true rfl | (change (_ : Nat) ≤ _; omega) | (change (_ : Nat) = _; omega) | (change (_ : Int) = _; omega))); (all_goals try (conv => whnf)))
    all_goals (
      rename_i x hx
      show (if 0 + o ≤ x ∧ x < 0 + o + min n (64 - o) then p (x - (0 + o)) else po x) = wrPo 4 po o n p x
      unfold wrPo wrF
      rw [if_pos rfl, Nat.zero_add, Nat.min_eq_left (by omega)])
def C_sp_Load : SpecP := fun A K => ∃ (st : Nat) (ra po m : Nat → BitVec 8) (w : Nat → BitVec 32) (l : Nat → Bool) (wh : Int) (a : BitVec 32) (n : Nat), A [spI st ra po 40 m w l, .int wh, .u32 a, .nat n] ∧ (0 < n ∧ n ≤ 1000000 ∧ ∀ i, i < 64 → l i = false) ∧
  ((fdk wh st a.toNat 1 false false n).2.2 = 0 ∧ K (tupOf [bsf n (fun j => rdF (fdk wh st a.toNat 1 false false n).1 ra po m w ((fdk wh st a.toNat 1 false false n).2.1 + j)), .nat 0]) ∨ ¬ (fdk wh st a.toNat 1 false false n).2.2 = 0 ∧ K (tupOf [.nils, .nat (fdk wh st a.toNat 1 false false n).2.2]))
theorem ck_ok {w s : Int} {a : Nat} {z : Int} {wr fe : Bool} (h : (ck w s a z wr fe).2.2 = 0) : 0 < (ck w s a z wr fe).1 := by
  unfold ck at h ⊢
  by_cases h1 : malB w s z wr fe = true
  · rw [if_pos h1] at h; exact absurd h (by decide)
  by_cases h2 : ¬ a % z.toNat = 0
  · rw [if_neg h1, if_pos h2] at h; exact absurd h (by decide)
  by_cases h3 : whi a = 0
  · rw [if_neg h1, if_neg h2, if_pos h3] at h; exact absurd h (by decide)
  by_cases h4 : den w s (whi a) wr fe
  · rw [if_neg h1, if_neg h2, if_neg h3, if_pos h4] at h; exact absurd h (by decide)
  rw [if_neg h1, if_neg h2, if_neg h3, if_neg h4]
  exact Nat.pos_of_ne_zero h3
theorem fdk_ok {w s : Int} {a : Nat} {z : Int} {wr fe : Bool} {n : Nat} (h : (fdk w s a z wr fe n).2.2 = 0) : 0 < (fdk w s a z wr fe n).1 ∧ (fdk w s a z wr fe n).1 < 6 ∧ (fdk w s a z wr fe n).2.1 + n ≤ rs (fdk w s a z wr fe n).1 := by
  have hl := ck_lt w s a z wr fe
  unfold fdk at h ⊢
  by_cases h1 : (ck w s a z wr fe).2.2 = 0
  · rw [if_neg fun q => q h1] at h ⊢
    by_cases h2 : rs (ck w s a z wr fe).1 < n + (ck w s a z wr fe).2.1
    · rw [if_pos h2] at h; exact absurd h (by decide)
    · rw [if_neg h2]
      exact ⟨ck_ok h1, hl, by show (ck w s a z wr fe).2.1 + n ≤ rs (ck w s a z wr fe).1; omega⟩
  · rw [if_pos h1] at h; exact absurd h h1
attribute [local irreducible] fdk rdF wrRa wrPo
theorem g_sp_Load : Gd 18 (pureP ty C_sp_Load) := by
  refine goodP (E := PG [(34, pureP ty C_en_find), (47, pureP ty C_sp_read)]) (pgOK ⟨g_en_find, g_sp_read, trivial⟩) mixes Tryz.func18 (by kernel_rfl) (by kernel_rfl) ?_
  rintro A K ⟨st, ra, po, m, w, l, wh, a, n, hA, ⟨h0, hn, hl⟩, ⟨he, hK⟩ | ⟨he, hK⟩⟩
  · refine ⟨_, _, fun _ => none, hA, hK, by kernel_rfl, own_res ⟨rfl, fun _ _ => trivial⟩ trivial, ?_⟩
    obtain ⟨f1, f2, f3⟩ := fdk_ok he
    have f4 : 0 < (fdk wh st a.toNat 1 false false n).1 ∧ (fdk wh st a.toNat 1 false false n).1 < 6 ∧ (fdk wh st a.toNat 1 false false n).2.1 + n ≤ rs (fdk wh st a.toNat 1 false false n).1 ∧ 0 < n ∧ ∀ i, i < 64 → l i = false := ⟨f1, f2, f3, h0, hl⟩
    repeat ((conv => whnf); first | refine sdO ?_ | refine nlO ?_ | refine goA ?_ | refine goB ?_ | (apply Exists.intro; (repeat apply Exists.intro); refine caO ?_) | (refine Or.inl ?_; (conv => whnf); (repeat apply Exists.intro); refine caO ?_) | (refine Or.inr ?_; (conv => whnf); first | ((repeat apply Exists.intro); refine caO ?_) | (refine Or.inl ?_; (conv => whnf); (repeat apply Exists.intro); refine caO ?_) | (refine Or.inr ?_; (conv => whnf); (repeat apply Exists.intro); refine caO ?_)) | refine And.intro (by assumption) ?_ | refine goT ?_ | refine goF ?_ | refine goL ?_ | refine goR ?_ | refine goRL ?_ | refine goRR ?_)
    all_goals try (conv => whnf)
    ((repeat' ((conv => whnf) <;> first | exact trivial | (with_reducible first | refine And.intro ?_ ?_ | refine qL1 ?_ | refine qL2 ?_ ?_ | refine qL3 ?_ ?_ ?_ | refine qL4 ?_ ?_ ?_ ?_ | refine qL5 ?_ ?_ ?_ ?_ ?_ | refine yL1 ?_ | refine yL2 ?_ ?_ | refine yL3 ?_ ?_ ?_ | refine qL7 ?_ ?_ ?_ ?_ ?_ ?_ ?_ | refine zL1 ?_ | refine zL2 ?_ ?_ | refine zL3 ?_ ?_ ?_ | refine fun (_ : Nat) => ?_) | refine fun (_ : (_ : Nat) < _) => ?_ | exact rfl | exact Nat.le_of_ble_eq_true rfl | (change (_ : Nat) ≤ _; omega) | (change (_ : Nat) = _; omega) | (change (_ : Int) = _; omega))); (all_goals try (conv => whnf)))
  · refine ⟨_, _, fun _ => none, hA, hK, by kernel_rfl, own_res trivial trivial, ?_⟩
    repeat ((conv => whnf); first | refine sdO ?_ | refine nlO ?_ | refine goA ?_ | refine goB ?_ | (apply Exists.intro; (repeat apply Exists.intro); refine caO ?_) | (refine Or.inl ?_; (conv => whnf); (repeat apply Exists.intro); refine caO ?_) | (refine Or.inr ?_; (conv => whnf); first | ((repeat apply Exists.intro); refine caO ?_) | (refine Or.inl ?_; (conv => whnf); (repeat apply Exists.intro); refine caO ?_) | (refine Or.inr ?_; (conv => whnf); (repeat apply Exists.intro); refine caO ?_)) | refine And.intro (by assumption) ?_ | refine goT ?_ | refine goF ?_ | refine goL ?_ | refine goR ?_ | refine goRL ?_ | refine goRR ?_)
    all_goals try (conv => whnf)
    ((repeat' ((conv => whnf) <;> first | exact trivial | (with_reducible first | refine And.intro ?_ ?_ | refine qL1 ?_ | refine qL2 ?_ ?_ | refine qL3 ?_ ?_ ?_ | refine qL4 ?_ ?_ ?_ ?_ | refine qL5 ?_ ?_ ?_ ?_ ?_ | refine yL1 ?_ | refine yL2 ?_ ?_ | refine yL3 ?_ ?_ ?_ | refine qL7 ?_ ?_ ?_ ?_ ?_ ?_ ?_ | refine zL1 ?_ | refine zL2 ?_ ?_ | refine zL3 ?_ ?_ ?_ | refine fun (_ : Nat) => ?_) | refine fun (_ : (_ : Nat) < _) => ?_ | exact rfl | exact Nat.le_of_ble_eq_true rfl | (change (_ : Nat) ≤ _; omega) | (change (_ : Nat) = _; omega) | (change (_ : Int) = _; omega))); (all_goals try (conv => whnf)))
def C_sp_Store : SpecM := fun A K => ∃ (st : Nat) (ra po : Nat → BitVec 8) (P : Nat) (m : Nat → BitVec 8) (w : Nat → BitVec 32) (l : Nat → Bool) (wh : Int) (a : BitVec 32) (n : Nat) (p : Nat → BitVec 8), A [.ptr TSp 0 [], .int wh, .u32 a, bsl n p] (spR 0 1 2 3 4 5 6 st ra po P m w l) ∧ (n ≤ 1000000 ∧ ((fdk wh st a.toNat 1 true false n).2.2 = 0 → OwnR (fdk wh st a.toNat 1 true false n).1)) ∧
  ((0 < n ∧ (fdk wh st a.toNat 1 true false n).2.2 = 0) ∧ K (.nat 0) (spR 0 1 2 3 4 5 6 st (wrRa (fdk wh st a.toNat 1 true false n).1 ra (fdk wh st a.toNat 1 true false n).2.1 n p) (wrPo (fdk wh st a.toNat 1 true false n).1 po (fdk wh st a.toNat 1 true false n).2.1 n p) P m w l) ∨
   n = 0 ∧ K (.nat 0) (spR 0 1 2 3 4 5 6 st ra po P m w l) ∨ (0 < n ∧ ¬ (fdk wh st a.toNat 1 true false n).2.2 = 0) ∧ K (.nat (fdk wh st a.toNat 1 true false n).2.2) (spR 0 1 2 3 4 5 6 st ra po P m w l))
theorem g_sp_Store : Gd 11 (mutD ty [true, false, false, false] C_sp_Store) := by
  refine goodD (E := PG [(34, pureP ty C_en_find), (35, mutD ty [true, false, false, false] C_sp_write)]) (pgOK ⟨g_en_find, g_sp_write, trivial⟩) mixes Tryz.func11 (by kernel_rfl) (by kernel_rfl) ?_
  rintro A K ⟨st, ra, po, P, m, w, l, wh, a, n, p, hA, ⟨hn, ho⟩, ⟨⟨h0, he⟩, hK⟩ | ⟨h0, hK⟩ | ⟨⟨h0, he⟩, hK⟩⟩
  · refine ⟨_, _, _, _, fun _ => none, hA, hK, by kernel_rfl, by kernel_rfl, ⟨trivial, trivial, rfl, trivial, trivial, rfl, rfl, trivial⟩, own_sp .., trivial, ?_⟩
    obtain ⟨f1, f2, f3⟩ := fdk_ok he
    have f5 := ho he
    have f4 : OwnR (fdk wh st a.toNat 1 true false n).1 ∧ (fdk wh st a.toNat 1 true false n).2.1 + n ≤ mmL (fdk wh st a.toNat 1 true false n).1 := ⟨f5, by rcases f5 with e | e | e <;> (rw [e] at f3 ⊢; exact f3)⟩
    have h0' : ¬ n = 0 := by omega
    repeat ((conv => whnf); first | refine sdO ?_ | refine nlO ?_ | refine goA ?_ | refine goB ?_ | (apply Exists.intro; (repeat apply Exists.intro); refine caO ?_) | (refine Or.inl ?_; (conv => whnf); (repeat apply Exists.intro); refine caO ?_) | (refine Or.inr ?_; (conv => whnf); first | ((repeat apply Exists.intro); refine caO ?_) | (refine Or.inl ?_; (conv => whnf); (repeat apply Exists.intro); refine caO ?_) | (refine Or.inr ?_; (conv => whnf); (repeat apply Exists.intro); refine caO ?_)) | refine And.intro (by assumption) ?_ | refine goT ?_ | refine goF ?_ | refine goL ?_ | refine goR ?_ | refine goRL ?_ | refine goRR ?_)
    all_goals try (conv => whnf)
    (refine out_fnd ?_; (repeat' ((conv => whnf) <;> first | exact trivial | (with_reducible first | refine And.intro ?_ ?_ | refine qL1 ?_ | refine qL2 ?_ ?_ | refine qL3 ?_ ?_ ?_ | refine qL4 ?_ ?_ ?_ ?_ | refine qL5 ?_ ?_ ?_ ?_ ?_ | refine yL1 ?_ | refine yL2 ?_ ?_ | refine yL3 ?_ ?_ ?_ | refine qL7 ?_ ?_ ?_ ?_ ?_ ?_ ?_ | refine zL1 ?_ | refine zL2 ?_ ?_ | refine zL3 ?_ ?_ ?_ | refine fun (_ : Nat) => ?_) | refine fun (_ : (_ : Nat) < _) => ?_ | exact rfl | exact Nat.le_of_ble_eq_true rfl | (change (_ : Nat) ≤ _; omega) | (change (_ : Nat) = _; omega) | (change (_ : Int) = _; omega))); (all_goals try (conv => whnf)))
  · refine ⟨_, _, _, _, fun _ => none, hA, hK, by kernel_rfl, by kernel_rfl, ⟨trivial, trivial, rfl, trivial, trivial, rfl, rfl, trivial⟩, own_sp .., trivial, ?_⟩
    repeat ((conv => whnf); first | refine sdO ?_ | refine nlO ?_ | refine goA ?_ | refine goB ?_ | (apply Exists.intro; (repeat apply Exists.intro); refine caO ?_) | (refine Or.inl ?_; (conv => whnf); (repeat apply Exists.intro); refine caO ?_) | (refine Or.inr ?_; (conv => whnf); first | ((repeat apply Exists.intro); refine caO ?_) | (refine Or.inl ?_; (conv => whnf); (repeat apply Exists.intro); refine caO ?_) | (refine Or.inr ?_; (conv => whnf); (repeat apply Exists.intro); refine caO ?_)) | refine And.intro (by assumption) ?_ | refine goT ?_ | refine goF ?_ | refine goL ?_ | refine goR ?_ | refine goRL ?_ | refine goRR ?_)
    all_goals try (conv => whnf)
    (refine out_fnd ?_; (repeat' ((conv => whnf) <;> first | exact trivial | (with_reducible first | refine And.intro ?_ ?_ | refine qL1 ?_ | refine qL2 ?_ ?_ | refine qL3 ?_ ?_ ?_ | refine qL4 ?_ ?_ ?_ ?_ | refine qL5 ?_ ?_ ?_ ?_ ?_ | refine yL1 ?_ | refine yL2 ?_ ?_ | refine yL3 ?_ ?_ ?_ | refine qL7 ?_ ?_ ?_ ?_ ?_ ?_ ?_ | refine zL1 ?_ | refine zL2 ?_ ?_ | refine zL3 ?_ ?_ ?_ | refine fun (_ : Nat) => ?_) | refine fun (_ : (_ : Nat) < _) => ?_ | exact rfl | exact Nat.le_of_ble_eq_true rfl | (change (_ : Nat) ≤ _; omega) | (change (_ : Nat) = _; omega) | (change (_ : Int) = _; omega))); (all_goals try (conv => whnf)))
  · refine ⟨_, _, _, _, fun _ => none, hA, hK, by kernel_rfl, by kernel_rfl, ⟨trivial, trivial, rfl, trivial, trivial, rfl, rfl, trivial⟩, own_sp .., trivial, ?_⟩
    have h0' : ¬ n = 0 := by omega
    repeat ((conv => whnf); first | refine sdO ?_ | refine nlO ?_ | refine goA ?_ | refine goB ?_ | (apply Exists.intro; (repeat apply Exists.intro); refine caO ?_) | (refine Or.inl ?_; (conv => whnf); (repeat apply Exists.intro); refine caO ?_) | (refine Or.inr ?_; (conv => whnf); first | ((repeat apply Exists.intro); refine caO ?_) | (refine Or.inl ?_; (conv => whnf); (repeat apply Exists.intro); refine caO ?_) | (refine Or.inr ?_; (conv => whnf); (repeat apply Exists.intro); refine caO ?_)) | refine And.intro (by assumption) ?_ | refine goT ?_ | refine goF ?_ | refine goL ?_ | refine goR ?_ | refine goRL ?_ | refine goRR ?_)
    all_goals try (conv => whnf)
    (refine out_fnd ?_; (repeat' ((conv => whnf) <;> first | exact trivial | (with_reducible first | refine And.intro ?_ ?_ | refine qL1 ?_ | refine qL2 ?_ ?_ | refine qL3 ?_ ?_ ?_ | refine qL4 ?_ ?_ ?_ ?_ | refine qL5 ?_ ?_ ?_ ?_ ?_ | refine yL1 ?_ | refine yL2 ?_ ?_ | refine yL3 ?_ ?_ ?_ | refine qL7 ?_ ?_ ?_ ?_ ?_ ?_ ?_ | refine zL1 ?_ | refine zL2 ?_ ?_ | refine zL3 ?_ ?_ ?_ | refine fun (_ : Nat) => ?_) | refine fun (_ : (_ : Nat) < _) => ?_ | exact rfl | exact Nat.le_of_ble_eq_true rfl | (change (_ : Nat) ≤ _; omega) | (change (_ : Nat) = _; omega) | (change (_ : Int) = _; omega))); (all_goals try (conv => whnf)))
def ftW (b : Nat → BitVec 8) : BitVec 32 := (((b 0).setWidth 32 ||| (b 1).setWidth 32 <<< 8) ||| (b 2).setWidth 32 <<< 16) ||| (b 3).setWidth 32 <<< 24
abbrev ftK (st : Nat) (a : BitVec 32) : Nat × Nat × Nat := fdk 1 st a.toNat 4 false true 4
def C_sp_Fetch : SpecP := fun A K => ∃ (st : Nat) (ra po m : Nat → BitVec 8) (w : Nat → BitVec 32) (l : Nat → Bool) (a : BitVec 32), A [spI st ra po 40 m w l, .u32 a] ∧ (∀ i, i < 64 → l i = false) ∧
  ((ftK st a).2.2 = 0 ∧ K (tupOf [.u32 (ftW fun j => rdF (ftK st a).1 ra po m w ((ftK st a).2.1 + j)), .nat 0]) ∨ ¬ (ftK st a).2.2 = 0 ∧ K (tupOf [.u32 0, .nat (ftK st a).2.2]))
theorem g_sp_Fetch : Gd 64 (pureP ty C_sp_Fetch) := by
  refine goodP (E := PG [(34, pureP ty C_en_find), (47, pureP ty C_sp_read)]) (pgOK ⟨g_en_find, g_sp_read, trivial⟩) mixes Tryz.func64 (by kernel_rfl) (by kernel_rfl) ?_
  rintro A K ⟨st, ra, po, m, w, l, a, hA, hl, ⟨he, hK⟩ | ⟨he, hK⟩⟩
  · refine ⟨_, _, fun _ => none, hA, hK, by kernel_rfl, own_res trivial trivial, ?_⟩
    obtain ⟨f1, f2, f3⟩ := fdk_ok he
    have f4 : 0 < (ftK st a).1 ∧ (ftK st a).1 < 6 ∧ (ftK st a).2.1 + 4 ≤ rs (ftK st a).1 ∧ 0 < 4 ∧ ∀ i, i < 64 → l i = false := ⟨f1, f2, f3, by decide, hl⟩
    repeat ((conv => whnf); first | refine sdO ?_ | refine nlO ?_ | refine goA ?_ | refine goB ?_ | (apply Exists.intro; (repeat apply Exists.intro); refine caO ?_) | (refine Or.inl ?_; (conv => whnf); (repeat apply Exists.intro); refine caO ?_) | (refine Or.inr ?_; (conv => whnf); first | ((repeat apply Exists.intro); refine caO ?_) | (refine Or.inl ?_; (conv => whnf); (repeat apply Exists.intro); refine caO ?_) | (refine Or.inr ?_; (conv => whnf); (repeat apply Exists.intro); refine caO ?_)) | refine And.intro (by assumption) ?_ | refine goT ?_ | refine goF ?_ | refine goL ?_ | refine goR ?_ | refine goRL ?_ | refine goRR ?_)
    all_goals try (conv => whnf)
    ((repeat' ((conv => whnf) <;> first | exact trivial | (with_reducible first | refine And.intro ?_ ?_ | refine qL1 ?_ | refine qL2 ?_ ?_ | refine qL3 ?_ ?_ ?_ | refine qL4 ?_ ?_ ?_ ?_ | refine qL5 ?_ ?_ ?_ ?_ ?_ | refine yL1 ?_ | refine yL2 ?_ ?_ | refine yL3 ?_ ?_ ?_ | refine qL7 ?_ ?_ ?_ ?_ ?_ ?_ ?_ | refine zL1 ?_ | refine zL2 ?_ ?_ | refine zL3 ?_ ?_ ?_ | refine fun (_ : Nat) => ?_) | refine fun (_ : (_ : Nat) < _) => ?_ | exact rfl | exact Nat.le_of_ble_eq_true rfl | (change (_ : Nat) ≤ _; omega) | (change (_ : Nat) = _; omega) | (change (_ : Int) = _; omega))); (all_goals try (conv => whnf)))
  · refine ⟨_, _, fun _ => none, hA, hK, by kernel_rfl, own_res trivial trivial, ?_⟩
    repeat ((conv => whnf); first | refine sdO ?_ | refine nlO ?_ | refine goA ?_ | refine goB ?_ | (apply Exists.intro; (repeat apply Exists.intro); refine caO ?_) | (refine Or.inl ?_; (conv => whnf); (repeat apply Exists.intro); refine caO ?_) | (refine Or.inr ?_; (conv => whnf); first | ((repeat apply Exists.intro); refine caO ?_) | (refine Or.inl ?_; (conv => whnf); (repeat apply Exists.intro); refine caO ?_) | (refine Or.inr ?_; (conv => whnf); (repeat apply Exists.intro); refine caO ?_)) | refine And.intro (by assumption) ?_ | refine goT ?_ | refine goF ?_ | refine goL ?_ | refine goR ?_ | refine goRL ?_ | refine goRR ?_)
    all_goals try (conv => whnf)
    ((repeat' ((conv => whnf) <;> first | exact trivial | (with_reducible first | refine And.intro ?_ ?_ | refine qL1 ?_ | refine qL2 ?_ ?_ | refine qL3 ?_ ?_ ?_ | refine qL4 ?_ ?_ ?_ ?_ | refine qL5 ?_ ?_ ?_ ?_ ?_ | refine yL1 ?_ | refine yL2 ?_ ?_ | refine yL3 ?_ ?_ ?_ | refine qL7 ?_ ?_ ?_ ?_ ?_ ?_ ?_ | refine zL1 ?_ | refine zL2 ?_ ?_ | refine zL3 ?_ ?_ ?_ | refine fun (_ : Nat) => ?_) | refine fun (_ : (_ : Nat) < _) => ?_ | exact rfl | exact Nat.le_of_ble_eq_true rfl | (change (_ : Nat) ≤ _; omega) | (change (_ : Nat) = _; omega) | (change (_ : Int) = _; omega))); (all_goals try (conv => whnf)))
end Go.Proofs.YtglijhimopdgkaaGreatDoor
