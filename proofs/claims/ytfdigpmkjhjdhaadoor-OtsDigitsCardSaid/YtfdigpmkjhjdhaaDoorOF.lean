/- OtsDigits: the law. -/
import Derived.Test.YtfdigpmkjhjdhaaDoorOE
namespace Go.Proofs.YtfdigpmkjhjdhaaDoor
open Go.RowKit
set_option maxRecDepth 100000
set_option maxHeartbeats 40000000
attribute [local irreducible] hsh rst sha256 press dig tw tp tlS cf ckN dgF dgT at8
theorem i64t (x : BitVec 64) : I64 x.toInt := by
  have h1 := BitVec.toInt_lt (x := x)
  have h2 := BitVec.le_toInt (x := x)
  unfold I64; omega
def L_ODb (t : BitVec 32) (d : Nat → BitVec 8) (l : Nat) (b : Nat → BitVec 8) (i w : Int) : LI := ⟨Nat, (· ≤ tp t), fun k => [(2, bsl l b), (3, .int i), (4, .int w), (16, .gsl 3 7192 (tp t)), (17, .gsl 3 7216 (tp t)), (61, .nat (tp t)), (62, .nat k)],
  fun _ => [(7192, .grow 3 (tp t) (nts (dgT t d))), (7216, .grow 3 (tp t) (nts (dgT t d)))], fun k => tp t - k, some, some⟩
def C_l5_OD_yb : SpecP := fun A K => ∃ t d l b i w, A [.u32 t, arr8 32 d, bsl l b, .int i, .int w] ∧ l ≤ maxLen ∧ I64 i ∧ 9#32 < t ∧ otOK (t % 9#32) ∧ K (.bo true)
theorem g_l5_OD_yb : Gd 3 (pureP ty C_l5_OD_yb) := by
  refine goodP (E := PG [(9, pureP ty C_l5_awake), (10, pureP ty C_r5_TableO), (11, pureP ty C_ots_Params), (12, pureR ty C_ots_Digits), (13, pureR ty C_r5_All), (14, pureR ty C_r1_Cut), (16, pureR ty C_r5_Bits), (15, pureR ty C_r5_Digits), (17, pureP ty C_ots_CoefA)]) (pgOK ⟨g_l5_awake, g_r5_TableO, g_ots_Params, g_ots_Digits, g_r5_All, g_r1_Cut, g_r5_Bits, g_r5_Digits, g_ots_CoefA, trivial⟩) mixes Tryd.func3 (by kernel_rfl) (by kernel_rfl) ?_
  rintro A K ⟨t, d, l, b, i, w, hA, hl, hi, h9, ht, hK⟩
  obtain ⟨hw, hp1, hp2, hl7⟩ := ot_facts _ ht
  obtain ⟨hw1, hw8, h256⟩ := wpos hw
  have hg : (!(true == decide (Int.toNat 0 < tw (t % 9#32)))) = false := by rw [decide_eq_true (show Int.toNat 0 < tw (t % 9#32) from hw1)]; rfl
  refine ⟨_, _, loops [(13, L_ODb (t % 9#32) d l b i w)], hA, hK, by kernel_rfl, trivial, ?_⟩
  repeat (first | ((conv => whnf); refine And.intro ?_ ?_; exact sideOf) | ((conv => whnf); refine NilE.some ?_ ?_; exact sideOf) | ((conv => whnf); refine And.intro (fun _ => ?_) (fun h => nomatch (show true = false from h))) | ((conv => whnf); refine And.intro (fun h => nomatch (show false = true from h)) (fun _ => ?_)) | ((conv => whnf); first | (apply Exists.intro; (repeat apply Exists.intro); refine And.intro ?_ ?_; exact leOf) | (refine Or.inl ?_; (conv => whnf); (repeat apply Exists.intro); refine And.intro ?_ ?_; exact leOf) | (refine Or.inr ?_; (conv => whnf); first | ((repeat apply Exists.intro); refine And.intro ?_ ?_; exact leOf) | (refine Or.inl ?_; (conv => whnf); (repeat apply Exists.intro); refine And.intro ?_ ?_; exact leOf) | (refine Or.inr ?_; (conv => whnf); (repeat apply Exists.intro); refine And.intro ?_ ?_; exact leOf))) | ((conv => whnf); first | refine And.intro (by assumption) ?_ | refine goT ?_ | refine goF ?_ | refine goL ?_ | refine goR ?_ | refine goRL ?_ | refine goRR ?_))
  all_goals try (conv => whnf)
  refine And.intro (nq (eqB_agg fun i hi => by rcases i with _ | _ | _ | i <;> first | exact rfl | exact absurd hi (by omega))) (fun _ => ?_)
  repeat (first | ((conv => whnf); refine And.intro ?_ ?_; exact sideOf) | ((conv => whnf); refine NilE.some ?_ ?_; exact sideOf) | ((conv => whnf); refine And.intro (fun _ => ?_) (fun h => nomatch (show true = false from h))) | ((conv => whnf); refine And.intro (fun h => nomatch (show false = true from h)) (fun _ => ?_)) | ((conv => whnf); first | (apply Exists.intro; (repeat apply Exists.intro); refine And.intro ?_ ?_; exact leOf) | (refine Or.inl ?_; (conv => whnf); (repeat apply Exists.intro); refine And.intro ?_ ?_; exact leOf) | (refine Or.inr ?_; (conv => whnf); first | ((repeat apply Exists.intro); refine And.intro ?_ ?_; exact leOf) | (refine Or.inl ?_; (conv => whnf); (repeat apply Exists.intro); refine And.intro ?_ ?_; exact leOf) | (refine Or.inr ?_; (conv => whnf); (repeat apply Exists.intro); refine And.intro ?_ ?_; exact leOf))) | ((conv => whnf); first | refine And.intro (by assumption) ?_ | refine goT ?_ | refine goF ?_ | refine goL ?_ | refine goR ?_ | refine goRL ?_ | refine goRR ?_))
  all_goals try (conv => whnf)
  refine Exists.intro (fun _ => True) (And.intro (Enter.mk (0 : Nat) (Nat.zero_le _) trivial ?_) (fun (k : Nat) (hk : k ≤ tp (t % 9#32)) _ => ?_))
  · ((repeat' ((conv => whnf) <;> first | exact trivial | (with_reducible first | refine And.intro ?_ ?_ | refine rows_lt1 ?_ | refine rows_lt2 ?_ ?_ | refine rows_lt3 ?_ ?_ ?_ | refine rows_lt4 ?_ ?_ ?_ ?_ | refine rows_lt5 ?_ ?_ ?_ ?_ ?_ | refine aggs_lt1 ?_ | refine aggs_lt2 ?_ ?_ | refine aggs_lt3 ?_ ?_ ?_ | refine fun (_ : Nat) => ?_) | refine fun (_ : (_ : Nat) < _) => ?_ | exact rfl | exact Nat.le_of_ble_eq_true rfl | (change (_ : Nat) ≤ _; omega) | (change (_ : Nat) = _; omega) | (change (_ : Int) = _; omega))); (all_goals try (conv => whnf)))
  rcases Nat.lt_or_ge k (tp (t % 9#32)) with h | h
  · skip
    repeat (first | ((conv => whnf); refine And.intro ?_ ?_; exact sideOf) | ((conv => whnf); refine NilE.some ?_ ?_; exact sideOf) | ((conv => whnf); refine And.intro (fun _ => ?_) (fun h => nomatch (show true = false from h))) | ((conv => whnf); refine And.intro (fun h => nomatch (show false = true from h)) (fun _ => ?_)) | ((conv => whnf); first | (apply Exists.intro; (repeat apply Exists.intro); refine And.intro ?_ ?_; exact leOf) | (refine Or.inl ?_; (conv => whnf); (repeat apply Exists.intro); refine And.intro ?_ ?_; exact leOf) | (refine Or.inr ?_; (conv => whnf); first | ((repeat apply Exists.intro); refine And.intro ?_ ?_; exact leOf) | (refine Or.inl ?_; (conv => whnf); (repeat apply Exists.intro); refine And.intro ?_ ?_; exact leOf) | (refine Or.inr ?_; (conv => whnf); (repeat apply Exists.intro); refine And.intro ?_ ?_; exact leOf))) | ((conv => whnf); first | refine And.intro (by assumption) ?_ | refine goT ?_ | refine goF ?_ | refine goL ?_ | refine goR ?_ | refine goRL ?_ | refine goRR ?_))
    all_goals try (conv => whnf)
    refine Again.mk (k + 1 : Nat) (show k + 1 ≤ tp (t % 9#32) by omega) trivial (show tp (t % 9#32) - (k + 1) < tp (t % 9#32) - k by omega) ?_
    ((repeat' ((conv => whnf) <;> first | exact trivial | (with_reducible first | refine And.intro ?_ ?_ | refine rows_lt1 ?_ | refine rows_lt2 ?_ ?_ | refine rows_lt3 ?_ ?_ ?_ | refine rows_lt4 ?_ ?_ ?_ ?_ | refine rows_lt5 ?_ ?_ ?_ ?_ ?_ | refine aggs_lt1 ?_ | refine aggs_lt2 ?_ ?_ | refine aggs_lt3 ?_ ?_ ?_ | refine fun (_ : Nat) => ?_) | refine fun (_ : (_ : Nat) < _) => ?_ | exact rfl | exact Nat.le_of_ble_eq_true rfl | (change (_ : Nat) ≤ _; omega) | (change (_ : Nat) = _; omega) | (change (_ : Int) = _; omega))); (all_goals try (conv => whnf)))
  · obtain rfl : k = tp (t % 9#32) := by omega
    rcases Decidable.em (w = 1 ∨ w = 2 ∨ w = 4 ∨ w = 8) with hv | hv
    · obtain ⟨n, hn, rfl⟩ : ∃ n : Nat, wOK n ∧ w = (n : Nat) := by
        rcases hv with rfl | rfl | rfl | rfl
        · exact ⟨1, .inl rfl, rfl⟩
        · exact ⟨2, .inr (.inl rfl), rfl⟩
        · exact ⟨4, .inr (.inr (.inl rfl)), rfl⟩
        · exact ⟨8, .inr (.inr (.inr rfl)), rfl⟩
      rcases Int.lt_or_le i 0 with hi0 | hi0
      · have hc : co0 (min l 40) i (n : Nat) := .inr ⟨n, hn, rfl, .inl hi0⟩
        rcases hn with rfl | rfl | rfl | rfl
        all_goals
          repeat (first | ((conv => whnf); refine And.intro ?_ ?_; exact sideOf) | ((conv => whnf); refine NilE.some ?_ ?_; exact sideOf) | ((conv => whnf); refine And.intro (fun _ => ?_) (fun h => nomatch (show true = false from h))) | ((conv => whnf); refine And.intro (fun h => nomatch (show false = true from h)) (fun _ => ?_)) | ((conv => whnf); first | (apply Exists.intro; (repeat apply Exists.intro); refine And.intro ?_ ?_; exact leOf) | (refine Or.inl ?_; (conv => whnf); (repeat apply Exists.intro); refine And.intro ?_ ?_; exact leOf) | (refine Or.inr ?_; (conv => whnf); first | ((repeat apply Exists.intro); refine And.intro ?_ ?_; exact leOf) | (refine Or.inl ?_; (conv => whnf); (repeat apply Exists.intro); refine And.intro ?_ ?_; exact leOf) | (refine Or.inr ?_; (conv => whnf); (repeat apply Exists.intro); refine And.intro ?_ ?_; exact leOf))) | ((conv => whnf); first | refine And.intro (by assumption) ?_ | refine goT ?_ | refine goF ?_ | refine goL ?_ | refine goR ?_ | refine goRL ?_ | refine goRR ?_))
          all_goals try (conv => whnf)
          exact decide_eq_true rfl
      · obtain ⟨x, rfl⟩ : ∃ x : Nat, i = (x : Nat) := ⟨i.toNat, by omega⟩
        have hx63 : x ≤ 9223372036854775807 := by unfold I64 at hi; omega
        rcases Nat.lt_or_ge (x / (8 / n)) (min l 40) with hx | hx
        · have hx9 : x ≤ 1000 := by
            rcases hn with rfl | rfl | rfl | rfl <;> simp at hx <;> omega
          have hc : co1 (min l 40) (x : Nat) (n : Nat) := ⟨n, x, hn, rfl, rfl, hx, by omega⟩
          have hn' := hn
          have hx' := hx
          rcases hn with rfl | rfl | rfl | rfl
          all_goals
            simp only [show 8 / 1 = 8 from rfl, show 8 / 2 = 4 from rfl, show 8 / 4 = 2 from rfl, show 8 / 8 = 1 from rfl] at hx
            repeat (first | ((conv => whnf); refine And.intro ?_ ?_; exact sideOf) | ((conv => whnf); refine NilE.some ?_ ?_; exact sideOf) | ((conv => whnf); refine And.intro (fun _ => ?_) (fun h => nomatch (show true = false from h))) | ((conv => whnf); refine And.intro (fun h => nomatch (show false = true from h)) (fun _ => ?_)) | ((conv => whnf); first | (apply Exists.intro; (repeat apply Exists.intro); refine And.intro ?_ ?_; exact leOf) | (refine Or.inl ?_; (conv => whnf); (repeat apply Exists.intro); refine And.intro ?_ ?_; exact leOf) | (refine Or.inr ?_; (conv => whnf); first | ((repeat apply Exists.intro); refine And.intro ?_ ?_; exact leOf) | (refine Or.inl ?_; (conv => whnf); (repeat apply Exists.intro); refine And.intro ?_ ?_; exact leOf) | (refine Or.inr ?_; (conv => whnf); (repeat apply Exists.intro); refine And.intro ?_ ?_; exact leOf))) | ((conv => whnf); first | refine And.intro (by assumption) ?_ | refine goT ?_ | refine goF ?_ | refine goL ?_ | refine goR ?_ | refine goRL ?_ | refine goRR ?_))
            all_goals try (conv => whnf)
            refine And.intro (bitF_le _) ?_
            repeat (first | ((conv => whnf); refine And.intro ?_ ?_; exact sideOf) | ((conv => whnf); refine NilE.some ?_ ?_; exact sideOf) | ((conv => whnf); refine And.intro (fun _ => ?_) (fun h => nomatch (show true = false from h))) | ((conv => whnf); refine And.intro (fun h => nomatch (show false = true from h)) (fun _ => ?_)) | ((conv => whnf); first | (apply Exists.intro; (repeat apply Exists.intro); refine And.intro ?_ ?_; exact leOf) | (refine Or.inl ?_; (conv => whnf); (repeat apply Exists.intro); refine And.intro ?_ ?_; exact leOf) | (refine Or.inr ?_; (conv => whnf); first | ((repeat apply Exists.intro); refine And.intro ?_ ?_; exact leOf) | (refine Or.inl ?_; (conv => whnf); (repeat apply Exists.intro); refine And.intro ?_ ?_; exact leOf) | (refine Or.inr ?_; (conv => whnf); (repeat apply Exists.intro); refine And.intro ?_ ?_; exact leOf))) | ((conv => whnf); first | refine And.intro (by assumption) ?_ | refine goT ?_ | refine goF ?_ | refine goL ?_ | refine goR ?_ | refine goRL ?_ | refine goRR ?_))
            all_goals try (conv => whnf)
            exact decide_eq_true (dg_cf (min l 40) b _ x hn' hx').symm
        · have hc : co0 (min l 40) (x : Nat) (n : Nat) := .inr ⟨n, hn, rfl, .inr ⟨x, rfl, hx, hx63⟩⟩
          rcases hn with rfl | rfl | rfl | rfl
          all_goals
            simp only [show 8 / 1 = 8 from rfl, show 8 / 2 = 4 from rfl, show 8 / 4 = 2 from rfl, show 8 / 8 = 1 from rfl] at hx
            repeat (first | ((conv => whnf); refine And.intro ?_ ?_; exact sideOf) | ((conv => whnf); refine NilE.some ?_ ?_; exact sideOf) | ((conv => whnf); refine And.intro (fun _ => ?_) (fun h => nomatch (show true = false from h))) | ((conv => whnf); refine And.intro (fun h => nomatch (show false = true from h)) (fun _ => ?_)) | ((conv => whnf); first | (apply Exists.intro; (repeat apply Exists.intro); refine And.intro ?_ ?_; exact leOf) | (refine Or.inl ?_; (conv => whnf); (repeat apply Exists.intro); refine And.intro ?_ ?_; exact leOf) | (refine Or.inr ?_; (conv => whnf); first | ((repeat apply Exists.intro); refine And.intro ?_ ?_; exact leOf) | (refine Or.inl ?_; (conv => whnf); (repeat apply Exists.intro); refine And.intro ?_ ?_; exact leOf) | (refine Or.inr ?_; (conv => whnf); (repeat apply Exists.intro); refine And.intro ?_ ?_; exact leOf))) | ((conv => whnf); first | refine And.intro (by assumption) ?_ | refine goT ?_ | refine goF ?_ | refine goL ?_ | refine goR ?_ | refine goRL ?_ | refine goRR ?_))
            all_goals try (conv => whnf)
            exact decide_eq_true rfl
    · have hv' : ¬ w = 1 ∧ ¬ w = 2 ∧ ¬ w = 4 ∧ ¬ w = 8 := by omega
      have hc : co0 (min l 40) i w := .inl hv'
      obtain ⟨h1, h2, h4, h8⟩ := hv'
      repeat (first | ((conv => whnf); refine And.intro ?_ ?_; exact sideOf) | ((conv => whnf); refine NilE.some ?_ ?_; exact sideOf) | ((conv => whnf); refine And.intro (fun _ => ?_) (fun h => nomatch (show true = false from h))) | ((conv => whnf); refine And.intro (fun h => nomatch (show false = true from h)) (fun _ => ?_)) | ((conv => whnf); first | (apply Exists.intro; (repeat apply Exists.intro); refine And.intro ?_ ?_; exact leOf) | (refine Or.inl ?_; (conv => whnf); (repeat apply Exists.intro); refine And.intro ?_ ?_; exact leOf) | (refine Or.inr ?_; (conv => whnf); first | ((repeat apply Exists.intro); refine And.intro ?_ ?_; exact leOf) | (refine Or.inl ?_; (conv => whnf); (repeat apply Exists.intro); refine And.intro ?_ ?_; exact leOf) | (refine Or.inr ?_; (conv => whnf); (repeat apply Exists.intro); refine And.intro ?_ ?_; exact leOf))) | ((conv => whnf); first | refine And.intro (by assumption) ?_ | refine goT ?_ | refine goF ?_ | refine goL ?_ | refine goR ?_ | refine goRL ?_ | refine goRR ?_))
      all_goals try (conv => whnf)
      exact decide_eq_true rfl
def C_l5_OD_nb : SpecP := fun A K => ∃ t d l b i w, A [.u32 t, arr8 32 d, bsl l b, .int i, .int w] ∧ l ≤ maxLen ∧ I64 i ∧ 9#32 < t ∧ ¬ otOK (t % 9#32) ∧ K (.bo true)
theorem g_l5_OD_nb : Gd 3 (pureP ty C_l5_OD_nb) := by
  refine goodP (E := PG [(9, pureP ty C_l5_awake), (10, pureP ty C_r5_TableN), (11, pureP ty C_ots_Params), (12, pureP ty C_ots_Digits_n), (13, pureP ty C_r5_All_n), (14, pureR ty C_r1_Cut), (16, pureR ty C_r5_Bits), (15, pureR ty C_r5_Digits), (17, pureP ty C_ots_CoefA)]) (pgOK ⟨g_l5_awake, g_r5_TableN, g_ots_Params, g_ots_Digits_n, g_r5_All_n, g_r1_Cut, g_r5_Bits, g_r5_Digits, g_ots_CoefA, trivial⟩) mixes Tryd.func3 (by kernel_rfl) (by kernel_rfl) ?_
  rintro A K ⟨t, d, l, b, i, w, hA, hl, hi, h9, ht, hK⟩
  have hg : (!(false == decide (Int.toNat 0 < 0))) = false := by decide
  refine ⟨_, _, loops [(13, L_OD0 l b i w)], hA, hK, by kernel_rfl, trivial, ?_⟩
  repeat (first | ((conv => whnf); refine And.intro ?_ ?_; exact sideOf) | ((conv => whnf); refine NilE.some ?_ ?_; exact sideOf) | ((conv => whnf); refine And.intro (fun _ => ?_) (fun h => nomatch (show true = false from h))) | ((conv => whnf); refine And.intro (fun h => nomatch (show false = true from h)) (fun _ => ?_)) | ((conv => whnf); first | (apply Exists.intro; (repeat apply Exists.intro); refine And.intro ?_ ?_; exact leOf) | (refine Or.inl ?_; (conv => whnf); (repeat apply Exists.intro); refine And.intro ?_ ?_; exact leOf) | (refine Or.inr ?_; (conv => whnf); first | ((repeat apply Exists.intro); refine And.intro ?_ ?_; exact leOf) | (refine Or.inl ?_; (conv => whnf); (repeat apply Exists.intro); refine And.intro ?_ ?_; exact leOf) | (refine Or.inr ?_; (conv => whnf); (repeat apply Exists.intro); refine And.intro ?_ ?_; exact leOf))) | ((conv => whnf); first | refine And.intro (by assumption) ?_ | refine goT ?_ | refine goF ?_ | refine goL ?_ | refine goR ?_ | refine goRL ?_ | refine goRR ?_))
  all_goals try (conv => whnf)
  refine And.intro (nq (eqB_agg fun i hi => by rcases i with _ | _ | _ | i <;> first | exact rfl | exact absurd hi (by omega))) (fun _ => ?_)
  repeat (first | ((conv => whnf); refine And.intro ?_ ?_; exact sideOf) | ((conv => whnf); refine NilE.some ?_ ?_; exact sideOf) | ((conv => whnf); refine And.intro (fun _ => ?_) (fun h => nomatch (show true = false from h))) | ((conv => whnf); refine And.intro (fun h => nomatch (show false = true from h)) (fun _ => ?_)) | ((conv => whnf); first | (apply Exists.intro; (repeat apply Exists.intro); refine And.intro ?_ ?_; exact leOf) | (refine Or.inl ?_; (conv => whnf); (repeat apply Exists.intro); refine And.intro ?_ ?_; exact leOf) | (refine Or.inr ?_; (conv => whnf); first | ((repeat apply Exists.intro); refine And.intro ?_ ?_; exact leOf) | (refine Or.inl ?_; (conv => whnf); (repeat apply Exists.intro); refine And.intro ?_ ?_; exact leOf) | (refine Or.inr ?_; (conv => whnf); (repeat apply Exists.intro); refine And.intro ?_ ?_; exact leOf))) | ((conv => whnf); first | refine And.intro (by assumption) ?_ | refine goT ?_ | refine goF ?_ | refine goL ?_ | refine goR ?_ | refine goRL ?_ | refine goRR ?_))
  all_goals try (conv => whnf)
  refine Exists.intro (fun _ => True) (And.intro (Enter.mk (0 : Nat) (Nat.zero_le _) trivial ?_) (fun (k : Nat) (hk : k ≤ 0) _ => ?_))
  · ((repeat' ((conv => whnf) <;> first | exact trivial | (with_reducible first | refine And.intro ?_ ?_ | refine rows_lt1 ?_ | refine rows_lt2 ?_ ?_ | refine rows_lt3 ?_ ?_ ?_ | refine rows_lt4 ?_ ?_ ?_ ?_ | refine rows_lt5 ?_ ?_ ?_ ?_ ?_ | refine aggs_lt1 ?_ | refine aggs_lt2 ?_ ?_ | refine aggs_lt3 ?_ ?_ ?_ | refine fun (_ : Nat) => ?_) | refine fun (_ : (_ : Nat) < _) => ?_ | exact rfl | exact Nat.le_of_ble_eq_true rfl | (change (_ : Nat) ≤ _; omega) | (change (_ : Nat) = _; omega) | (change (_ : Int) = _; omega))); (all_goals try (conv => whnf)))
  obtain rfl : k = 0 := by omega
  rcases Decidable.em (w = 1 ∨ w = 2 ∨ w = 4 ∨ w = 8) with hv | hv
  · obtain ⟨n, hn, rfl⟩ : ∃ n : Nat, wOK n ∧ w = (n : Nat) := by
      rcases hv with rfl | rfl | rfl | rfl
      · exact ⟨1, .inl rfl, rfl⟩
      · exact ⟨2, .inr (.inl rfl), rfl⟩
      · exact ⟨4, .inr (.inr (.inl rfl)), rfl⟩
      · exact ⟨8, .inr (.inr (.inr rfl)), rfl⟩
    rcases Int.lt_or_le i 0 with hi0 | hi0
    · have hc : co0 (min l 40) i (n : Nat) := .inr ⟨n, hn, rfl, .inl hi0⟩
      rcases hn with rfl | rfl | rfl | rfl
      all_goals
        repeat (first | ((conv => whnf); refine And.intro ?_ ?_; exact sideOf) | ((conv => whnf); refine NilE.some ?_ ?_; exact sideOf) | ((conv => whnf); refine And.intro (fun _ => ?_) (fun h => nomatch (show true = false from h))) | ((conv => whnf); refine And.intro (fun h => nomatch (show false = true from h)) (fun _ => ?_)) | ((conv => whnf); first | (apply Exists.intro; (repeat apply Exists.intro); refine And.intro ?_ ?_; exact leOf) | (refine Or.inl ?_; (conv => whnf); (repeat apply Exists.intro); refine And.intro ?_ ?_; exact leOf) | (refine Or.inr ?_; (conv => whnf); first | ((repeat apply Exists.intro); refine And.intro ?_ ?_; exact leOf) | (refine Or.inl ?_; (conv => whnf); (repeat apply Exists.intro); refine And.intro ?_ ?_; exact leOf) | (refine Or.inr ?_; (conv => whnf); (repeat apply Exists.intro); refine And.intro ?_ ?_; exact leOf))) | ((conv => whnf); first | refine And.intro (by assumption) ?_ | refine goT ?_ | refine goF ?_ | refine goL ?_ | refine goR ?_ | refine goRL ?_ | refine goRR ?_))
        all_goals try (conv => whnf)
        exact decide_eq_true rfl
    · obtain ⟨x, rfl⟩ : ∃ x : Nat, i = (x : Nat) := ⟨i.toNat, by omega⟩
      have hx63 : x ≤ 9223372036854775807 := by unfold I64 at hi; omega
      rcases Nat.lt_or_ge (x / (8 / n)) (min l 40) with hx | hx
      · have hx9 : x ≤ 1000 := by
          rcases hn with rfl | rfl | rfl | rfl <;> simp at hx <;> omega
        have hc : co1 (min l 40) (x : Nat) (n : Nat) := ⟨n, x, hn, rfl, rfl, hx, by omega⟩
        have hn' := hn
        have hx' := hx
        rcases hn with rfl | rfl | rfl | rfl
        all_goals
          simp only [show 8 / 1 = 8 from rfl, show 8 / 2 = 4 from rfl, show 8 / 4 = 2 from rfl, show 8 / 8 = 1 from rfl] at hx
          repeat (first | ((conv => whnf); refine And.intro ?_ ?_; exact sideOf) | ((conv => whnf); refine NilE.some ?_ ?_; exact sideOf) | ((conv => whnf); refine And.intro (fun _ => ?_) (fun h => nomatch (show true = false from h))) | ((conv => whnf); refine And.intro (fun h => nomatch (show false = true from h)) (fun _ => ?_)) | ((conv => whnf); first | (apply Exists.intro; (repeat apply Exists.intro); refine And.intro ?_ ?_; exact leOf) | (refine Or.inl ?_; (conv => whnf); (repeat apply Exists.intro); refine And.intro ?_ ?_; exact leOf) | (refine Or.inr ?_; (conv => whnf); first | ((repeat apply Exists.intro); refine And.intro ?_ ?_; exact leOf) | (refine Or.inl ?_; (conv => whnf); (repeat apply Exists.intro); refine And.intro ?_ ?_; exact leOf) | (refine Or.inr ?_; (conv => whnf); (repeat apply Exists.intro); refine And.intro ?_ ?_; exact leOf))) | ((conv => whnf); first | refine And.intro (by assumption) ?_ | refine goT ?_ | refine goF ?_ | refine goL ?_ | refine goR ?_ | refine goRL ?_ | refine goRR ?_))
          all_goals try (conv => whnf)
          refine And.intro (bitF_le _) ?_
          repeat (first | ((conv => whnf); refine And.intro ?_ ?_; exact sideOf) | ((conv => whnf); refine NilE.some ?_ ?_; exact sideOf) | ((conv => whnf); refine And.intro (fun _ => ?_) (fun h => nomatch (show true = false from h))) | ((conv => whnf); refine And.intro (fun h => nomatch (show false = true from h)) (fun _ => ?_)) | ((conv => whnf); first | (apply Exists.intro; (repeat apply Exists.intro); refine And.intro ?_ ?_; exact leOf) | (refine Or.inl ?_; (conv => whnf); (repeat apply Exists.intro); refine And.intro ?_ ?_; exact leOf) | (refine Or.inr ?_; (conv => whnf); first | ((repeat apply Exists.intro); refine And.intro ?_ ?_; exact leOf) | (refine Or.inl ?_; (conv => whnf); (repeat apply Exists.intro); refine And.intro ?_ ?_; exact leOf) | (refine Or.inr ?_; (conv => whnf); (repeat apply Exists.intro); refine And.intro ?_ ?_; exact leOf))) | ((conv => whnf); first | refine And.intro (by assumption) ?_ | refine goT ?_ | refine goF ?_ | refine goL ?_ | refine goR ?_ | refine goRL ?_ | refine goRR ?_))
          all_goals try (conv => whnf)
          exact decide_eq_true (dg_cf (min l 40) b _ x hn' hx').symm
      · have hc : co0 (min l 40) (x : Nat) (n : Nat) := .inr ⟨n, hn, rfl, .inr ⟨x, rfl, hx, hx63⟩⟩
        rcases hn with rfl | rfl | rfl | rfl
        all_goals
          simp only [show 8 / 1 = 8 from rfl, show 8 / 2 = 4 from rfl, show 8 / 4 = 2 from rfl, show 8 / 8 = 1 from rfl] at hx
          repeat (first | ((conv => whnf); refine And.intro ?_ ?_; exact sideOf) | ((conv => whnf); refine NilE.some ?_ ?_; exact sideOf) | ((conv => whnf); refine And.intro (fun _ => ?_) (fun h => nomatch (show true = false from h))) | ((conv => whnf); refine And.intro (fun h => nomatch (show false = true from h)) (fun _ => ?_)) | ((conv => whnf); first | (apply Exists.intro; (repeat apply Exists.intro); refine And.intro ?_ ?_; exact leOf) | (refine Or.inl ?_; (conv => whnf); (repeat apply Exists.intro); refine And.intro ?_ ?_; exact leOf) | (refine Or.inr ?_; (conv => whnf); first | ((repeat apply Exists.intro); refine And.intro ?_ ?_; exact leOf) | (refine Or.inl ?_; (conv => whnf); (repeat apply Exists.intro); refine And.intro ?_ ?_; exact leOf) | (refine Or.inr ?_; (conv => whnf); (repeat apply Exists.intro); refine And.intro ?_ ?_; exact leOf))) | ((conv => whnf); first | refine And.intro (by assumption) ?_ | refine goT ?_ | refine goF ?_ | refine goL ?_ | refine goR ?_ | refine goRL ?_ | refine goRR ?_))
          all_goals try (conv => whnf)
          exact decide_eq_true rfl
  · have hv' : ¬ w = 1 ∧ ¬ w = 2 ∧ ¬ w = 4 ∧ ¬ w = 8 := by omega
    have hc : co0 (min l 40) i w := .inl hv'
    obtain ⟨h1, h2, h4, h8⟩ := hv'
    repeat (first | ((conv => whnf); refine And.intro ?_ ?_; exact sideOf) | ((conv => whnf); refine NilE.some ?_ ?_; exact sideOf) | ((conv => whnf); refine And.intro (fun _ => ?_) (fun h => nomatch (show true = false from h))) | ((conv => whnf); refine And.intro (fun h => nomatch (show false = true from h)) (fun _ => ?_)) | ((conv => whnf); first | (apply Exists.intro; (repeat apply Exists.intro); refine And.intro ?_ ?_; exact leOf) | (refine Or.inl ?_; (conv => whnf); (repeat apply Exists.intro); refine And.intro ?_ ?_; exact leOf) | (refine Or.inr ?_; (conv => whnf); first | ((repeat apply Exists.intro); refine And.intro ?_ ?_; exact leOf) | (refine Or.inl ?_; (conv => whnf); (repeat apply Exists.intro); refine And.intro ?_ ?_; exact leOf) | (refine Or.inr ?_; (conv => whnf); (repeat apply Exists.intro); refine And.intro ?_ ?_; exact leOf))) | ((conv => whnf); first | refine And.intro (by assumption) ?_ | refine goT ?_ | refine goF ?_ | refine goL ?_ | refine goR ?_ | refine goRL ?_ | refine goRR ?_))
    all_goals try (conv => whnf)
    exact decide_eq_true rfl
theorem g_l5_OtsDigits : Gd 3 (pureP ty C_l5_OtsDigits) := fun args m key K h => by
  rw [pureP_eq] at h
  obtain ⟨t, d, l, b, i, w, hA, hl, hi, _, hK⟩ := h
  rcases Decidable.em (9#32 < t) with h9 | h9
  · rcases Decidable.em (otOK (t % 9#32)) with ht | ht
    · exact g_l5_OD_yb args m key K (by rw [pureP_eq]; exact ⟨t, d, l, b, i, w, hA, hl, hi, h9, ht, hK⟩)
    · exact g_l5_OD_nb args m key K (by rw [pureP_eq]; exact ⟨t, d, l, b, i, w, hA, hl, hi, h9, ht, hK⟩)
  · rcases Decidable.em (otOK t) with ht | ht
    · exact g_l5_OD_ya args m key K (by rw [pureP_eq]; exact ⟨t, d, l, b, i, w, hA, hl, hi, h9, ht, hK⟩)
    · exact g_l5_OD_na args m key K (by rw [pureP_eq]; exact ⟨t, d, l, b, i, w, hA, hl, hi, h9, ht, hK⟩)
end Go.Proofs.YtfdigpmkjhjdhaaDoor
