/- Ways. -/
import Derived.Test.YtbpkmlakfdaooaaDoorR7
import Derived.Test.YtbpkmlakfdaooaaDoorR8
namespace Go.Proofs.YtbpkmlakfdaooaaDoor
open Go.RowKit
set_option maxRecDepth 100000
set_option maxHeartbeats 20000000
def five (x : BitVec 8) : Prop := x = 0 ∨ x = 1 ∨ x = 3 ∨ x = 5 ∨ x = 7
theorem row_five : ∀ j, j < 9 → ∀ i, i < 5 → ((rows9.getD j (0, 0, [])).2.2.getD i 0 = 0 ∨ (rows9.getD j (0, 0, [])).2.2.getD i 0 = 1 ∨ (rows9.getD j (0, 0, [])).2.2.getD i 0 = 3 ∨ (rows9.getD j (0, 0, [])).2.2.getD i 0 = 5 ∨ (rows9.getD j (0, 0, [])).2.2.getD i 0 = 7) := by decide
theorem rgt_five (w s : Int) (i : Nat) (hi : i < 5) : five (rgt w s i) := by
  by_cases h : ∃ j, j < 9 ∧ (rows9.getD j (0, 0, [])).1 = w ∧ (rows9.getD j (0, 0, [])).2.1 = s
  · obtain ⟨j, hj, rfl, rfl⟩ := h
    rw [rgt_hit j hj]
    exact row_five j hj i hi
  · rw [rgt_miss h]; exact .inl rfl
theorem inR_all {Q : BitVec 8 → Prop} {f : Nat → BitVec 8} (h : ∀ i, i < 5 → Q (f i)) (h0 : Q 0) (z : Int) : Q (inR f z) := by
  unfold inR
  repeat' split
  · exact h 0 (by decide)
  · exact h 1 (by decide)
  · exact h 2 (by decide)
  · exact h 3 (by decide)
  · exact h 4 (by decide)
  · exact h0
theorem inR_five (w s z : Int) : five (inR (rgt w s) z) := inR_all (rgt_five w s) (.inl rfl) z
theorem sub_tab : ∀ j, j < 9 → (rows9.getD j (0, 0, [])).2.1 = 1 → ∃ q, q < 9 ∧ (rows9.getD q (0, 0, [])).1 = (rows9.getD j (0, 0, [])).1 ∧ (rows9.getD q (0, 0, [])).2.1 = 2 ∧ ∀ i, i < 5 → (rows9.getD j (0, 0, [])).2.2.getD i 0 &&& (rows9.getD q (0, 0, [])).2.2.getD i 0 = (rows9.getD j (0, 0, [])).2.2.getD i 0 := by decide
theorem rgt_sub (w : Int) (i : Nat) (hi : i < 5) : rgt w 1 i &&& rgt w 2 i = rgt w 1 i := by
  by_cases h : ∃ j, j < 9 ∧ (rows9.getD j (0, 0, [])).1 = w ∧ (rows9.getD j (0, 0, [])).2.1 = 1
  · obtain ⟨j, hj, rfl, h1⟩ := h
    obtain ⟨q, hq, h2, h3, h4⟩ := sub_tab j hj h1
    have e1 := rgt_hit j hj
    have e2 := rgt_hit q hq
    rw [h1] at e1
    rw [h2, h3] at e2
    rw [e1, e2]
    exact h4 i hi
  · rw [rgt_miss h]; exact BitVec.zero_and
theorem inR_sub (w z : Int) : inR (rgt w 1) z &&& inR (rgt w 2) z = inR (rgt w 1) z := by
  unfold inR
  repeat' split
  all_goals first | exact rgt_sub w _ (by decide) | rfl
theorem lets : ∀ x : BitVec 8, five x → (hasB (ltk x 3) (BitVec.ofInt 8 119) = true ∨ hasB (ltk x 3) (BitVec.ofInt 8 120) = true) → hasB (ltk x 3) (BitVec.ofInt 8 114) = true := by
  rintro x (rfl | rfl | rfl | rfl | rfl) <;> decide
theorem lets_sub : ∀ x y : BitVec 8, five x → five y → x &&& y = x → ∀ i, i < (ltk x 3).length → hasB (ltk y 3) (BitVec.ofNat 8 ((ltk x 3).getD i 0).toNat) = true := by
  rintro x y (rfl | rfl | rfl | rfl | rfl) (rfl | rfl | rfl | rfl | rfl) <;> decide
theorem back_at {a : BitVec 32} (h : ¬ whi a.toNat = 0) : BitVec.ofInt 32 (rb (whi a.toNat) : Int) + BitVec.ofNat 32 (who a.toNat) = a ∧ who a.toNat < rs (whi a.toNat) := by
  obtain ⟨⟨h1, h2⟩, h6⟩ := whi_in h
  rw [who_at h]
  refine ⟨BitVec.eq_of_toNat_eq ?_, by omega⟩
  have ha := a.isLt
  rw [BitVec.toNat_add, BitVec.ofInt_natCast, BitVec.toNat_ofNat, BitVec.toNat_ofNat]
  have := (rb_ok _ h6).1
  omega
def L_Wa (w rg : Int) (a : BitVec 32) : LI := ⟨Nat, fun k => k ≤ 3, fun k => [(0, .int w), (1, .int rg), (2, .u32 a), (7, .nat k)], fun _ => [], fun k => 3 - k, some, some⟩
def L_Wb (w rg : Int) (a : BitVec 32) (x y : List UInt8) : LI := ⟨Nat, fun k => k ≤ x.length, fun k => [(0, .int w), (1, .int rg), (2, .u32 a), (9, .str x), (10, .str y), (11, .nat k)], fun _ => [], fun k => x.length - k, some, some⟩
def C_l14_GrantWays : SpecP := fun A K => ∃ (w rg : Int) (a : BitVec 32), A [.int w, .int rg, .u32 a] ∧ K (.bo true)
theorem g_l14_GrantWays : Gd 6 (pureP ty C_l14_GrantWays) := by
  refine goodP (E := PG [(7, pureP ty C_l14_awake), (11, pureP ty C_g_Where), (13, pureP ty C_g_Base), (14, pureP ty C_g_May), (16, pureP ty C_r14_Has)]) (pgOK ⟨g_l14_awake, g_g_Where, g_g_Base, g_g_May, g_r14_Has, trivial⟩) mixes Tryd.func6 (by kernel_rfl) (by kernel_rfl) ?_
  rintro A K ⟨w, rg, a, hA, hK⟩
  refine ⟨_, _, loops [(4, L_Wa w rg a), (11, L_Wb w rg a (ltk (inR (rgt w ((Int.toNat 1 : Nat) : Int)) rg) 3) (ltk (inR (rgt w ((Int.toNat 2 : Nat) : Int)) rg) 3))], hA, hK, by kernel_rfl, trivial, ?_⟩
  repeat (first | ((conv => whnf); refine And.intro ?_ ?_; exact sideOf) | ((conv => whnf); refine NilE.some ?_ ?_; exact sideOf) | ((conv => whnf); refine And.intro (fun _ => ?_) (fun h => nomatch (show true = false from h))) | ((conv => whnf); refine And.intro (fun h => nomatch (show false = true from h)) (fun _ => ?_)) | ((conv => whnf); first | (apply Exists.intro; (repeat apply Exists.intro); refine And.intro ?_ ?_; exact leOf) | (refine Or.inl ?_; (conv => whnf); (repeat apply Exists.intro); refine And.intro ?_ ?_; exact leOf) | (refine Or.inr ?_; (conv => whnf); first | ((repeat apply Exists.intro); refine And.intro ?_ ?_; exact leOf) | (refine Or.inl ?_; (conv => whnf); (repeat apply Exists.intro); refine And.intro ?_ ?_; exact leOf) | (refine Or.inr ?_; (conv => whnf); (repeat apply Exists.intro); refine And.intro ?_ ?_; exact leOf))) | ((conv => whnf); first | refine And.intro (by assumption) ?_ | refine goT ?_ | refine goF ?_ | refine goL ?_ | refine goR ?_ | refine goRL ?_ | refine goRR ?_))
  all_goals try (conv => whnf)
  refine Exists.intro (fun _ => True) (And.intro (Enter.mk (0 : Nat) (Nat.zero_le _) trivial ?_) (fun (k : Nat) (hk : k ≤ 3) _ => ?_))
  · ((repeat' ((conv => whnf) <;> first | exact trivial | (with_reducible first | refine And.intro ?_ ?_ | refine rows_lt1 ?_ | refine rows_lt2 ?_ ?_ | refine rows_lt3 ?_ ?_ ?_ | refine rows_lt4 ?_ ?_ ?_ ?_ | refine rows_lt5 ?_ ?_ ?_ ?_ ?_ | refine aggs_lt1 ?_ | refine aggs_lt2 ?_ ?_ | refine aggs_lt3 ?_ ?_ ?_ | refine fun (_ : Nat) => ?_) | refine fun (_ : (_ : Nat) < _) => ?_ | exact rfl | exact Nat.le_of_ble_eq_true rfl | (change (_ : Nat) ≤ _; omega) | (change (_ : Nat) = _; omega) | (change (_ : Int) = _; omega))); (all_goals try (conv => whnf)))
  repeat (first | ((conv => whnf); refine And.intro ?_ ?_; exact sideOf) | ((conv => whnf); refine NilE.some ?_ ?_; exact sideOf) | ((conv => whnf); refine And.intro (fun _ => ?_) (fun h => nomatch (show true = false from h))) | ((conv => whnf); refine And.intro (fun h => nomatch (show false = true from h)) (fun _ => ?_)) | ((conv => whnf); first | (apply Exists.intro; (repeat apply Exists.intro); refine And.intro ?_ ?_; exact leOf) | (refine Or.inl ?_; (conv => whnf); (repeat apply Exists.intro); refine And.intro ?_ ?_; exact leOf) | (refine Or.inr ?_; (conv => whnf); first | ((repeat apply Exists.intro); refine And.intro ?_ ?_; exact leOf) | (refine Or.inl ?_; (conv => whnf); (repeat apply Exists.intro); refine And.intro ?_ ?_; exact leOf) | (refine Or.inr ?_; (conv => whnf); (repeat apply Exists.intro); refine And.intro ?_ ?_; exact leOf))) | ((conv => whnf); first | refine And.intro (by assumption) ?_ | refine goT ?_ | refine goF ?_ | refine goL ?_ | refine goR ?_ | refine goRL ?_ | refine goRR ?_))
  all_goals try (conv => whnf)
  refine And.intro (fun h => ?_) (fun h => ?_)
  · have h : k < 3 := of_decide_eq_true h
    have hl := ltk_len (inR (rgt w (k : Int)) rg) 3
    have hl' : (ltk (inR (rgt w (k : Int)) rg) 3).length ≤ 100 := by omega
    have hw := lets _ (inR_five w k rg)
    cases c1 : hasB (ltk (inR (rgt w (k : Int)) rg) 3) (BitVec.ofInt 8 119) with
    | true =>
      have c3 := hw (.inl c1)
      have c4 : (!hasB (ltk (inR (rgt w (k : Int)) rg) 3) (BitVec.ofInt 8 114)) = false := by rw [c3]; rfl
      repeat (first | ((conv => whnf); refine And.intro ?_ ?_; exact sideOf) | ((conv => whnf); refine NilE.some ?_ ?_; exact sideOf) | ((conv => whnf); refine And.intro (fun _ => ?_) (fun h => nomatch (show true = false from h))) | ((conv => whnf); refine And.intro (fun h => nomatch (show false = true from h)) (fun _ => ?_)) | ((conv => whnf); first | (apply Exists.intro; (repeat apply Exists.intro); refine And.intro ?_ ?_; exact leOf) | (refine Or.inl ?_; (conv => whnf); (repeat apply Exists.intro); refine And.intro ?_ ?_; exact leOf) | (refine Or.inr ?_; (conv => whnf); first | ((repeat apply Exists.intro); refine And.intro ?_ ?_; exact leOf) | (refine Or.inl ?_; (conv => whnf); (repeat apply Exists.intro); refine And.intro ?_ ?_; exact leOf) | (refine Or.inr ?_; (conv => whnf); (repeat apply Exists.intro); refine And.intro ?_ ?_; exact leOf))) | ((conv => whnf); first | refine And.intro (by assumption) ?_ | refine goT ?_ | refine goF ?_ | refine goL ?_ | refine goR ?_ | refine goRL ?_ | refine goRR ?_))
      all_goals try (conv => whnf)
      refine Again.mk (k + 1 : Nat) (show k + 1 ≤ 3 by omega) trivial (show 3 - (k + 1) < 3 - k by omega) ?_
      ((repeat' ((conv => whnf) <;> first | exact trivial | (with_reducible first | refine And.intro ?_ ?_ | refine rows_lt1 ?_ | refine rows_lt2 ?_ ?_ | refine rows_lt3 ?_ ?_ ?_ | refine rows_lt4 ?_ ?_ ?_ ?_ | refine rows_lt5 ?_ ?_ ?_ ?_ ?_ | refine aggs_lt1 ?_ | refine aggs_lt2 ?_ ?_ | refine aggs_lt3 ?_ ?_ ?_ | refine fun (_ : Nat) => ?_) | refine fun (_ : (_ : Nat) < _) => ?_ | exact rfl | exact Nat.le_of_ble_eq_true rfl | (change (_ : Nat) ≤ _; omega) | (change (_ : Nat) = _; omega) | (change (_ : Int) = _; omega))); (all_goals try (conv => whnf)))
    | false =>
      cases c2 : hasB (ltk (inR (rgt w (k : Int)) rg) 3) (BitVec.ofInt 8 120) with
      | true =>
        have c3 := hw (.inr c2)
        have c4 : (!hasB (ltk (inR (rgt w (k : Int)) rg) 3) (BitVec.ofInt 8 114)) = false := by rw [c3]; rfl
        repeat (first | ((conv => whnf); refine And.intro ?_ ?_; exact sideOf) | ((conv => whnf); refine NilE.some ?_ ?_; exact sideOf) | ((conv => whnf); refine And.intro (fun _ => ?_) (fun h => nomatch (show true = false from h))) | ((conv => whnf); refine And.intro (fun h => nomatch (show false = true from h)) (fun _ => ?_)) | ((conv => whnf); first | (apply Exists.intro; (repeat apply Exists.intro); refine And.intro ?_ ?_; exact leOf) | (refine Or.inl ?_; (conv => whnf); (repeat apply Exists.intro); refine And.intro ?_ ?_; exact leOf) | (refine Or.inr ?_; (conv => whnf); first | ((repeat apply Exists.intro); refine And.intro ?_ ?_; exact leOf) | (refine Or.inl ?_; (conv => whnf); (repeat apply Exists.intro); refine And.intro ?_ ?_; exact leOf) | (refine Or.inr ?_; (conv => whnf); (repeat apply Exists.intro); refine And.intro ?_ ?_; exact leOf))) | ((conv => whnf); first | refine And.intro (by assumption) ?_ | refine goT ?_ | refine goF ?_ | refine goL ?_ | refine goR ?_ | refine goRL ?_ | refine goRR ?_))
        all_goals try (conv => whnf)
        refine Again.mk (k + 1 : Nat) (show k + 1 ≤ 3 by omega) trivial (show 3 - (k + 1) < 3 - k by omega) ?_
        ((repeat' ((conv => whnf) <;> first | exact trivial | (with_reducible first | refine And.intro ?_ ?_ | refine rows_lt1 ?_ | refine rows_lt2 ?_ ?_ | refine rows_lt3 ?_ ?_ ?_ | refine rows_lt4 ?_ ?_ ?_ ?_ | refine rows_lt5 ?_ ?_ ?_ ?_ ?_ | refine aggs_lt1 ?_ | refine aggs_lt2 ?_ ?_ | refine aggs_lt3 ?_ ?_ ?_ | refine fun (_ : Nat) => ?_) | refine fun (_ : (_ : Nat) < _) => ?_ | exact rfl | exact Nat.le_of_ble_eq_true rfl | (change (_ : Nat) ≤ _; omega) | (change (_ : Nat) = _; omega) | (change (_ : Int) = _; omega))); (all_goals try (conv => whnf)))
      | false =>
        repeat (first | ((conv => whnf); refine And.intro ?_ ?_; exact sideOf) | ((conv => whnf); refine NilE.some ?_ ?_; exact sideOf) | ((conv => whnf); refine And.intro (fun _ => ?_) (fun h => nomatch (show true = false from h))) | ((conv => whnf); refine And.intro (fun h => nomatch (show false = true from h)) (fun _ => ?_)) | ((conv => whnf); first | (apply Exists.intro; (repeat apply Exists.intro); refine And.intro ?_ ?_; exact leOf) | (refine Or.inl ?_; (conv => whnf); (repeat apply Exists.intro); refine And.intro ?_ ?_; exact leOf) | (refine Or.inr ?_; (conv => whnf); first | ((repeat apply Exists.intro); refine And.intro ?_ ?_; exact leOf) | (refine Or.inl ?_; (conv => whnf); (repeat apply Exists.intro); refine And.intro ?_ ?_; exact leOf) | (refine Or.inr ?_; (conv => whnf); (repeat apply Exists.intro); refine And.intro ?_ ?_; exact leOf))) | ((conv => whnf); first | refine And.intro (by assumption) ?_ | refine goT ?_ | refine goF ?_ | refine goL ?_ | refine goR ?_ | refine goRL ?_ | refine goRR ?_))
        all_goals try (conv => whnf)
        refine Again.mk (k + 1 : Nat) (show k + 1 ≤ 3 by omega) trivial (show 3 - (k + 1) < 3 - k by omega) ?_
        ((repeat' ((conv => whnf) <;> first | exact trivial | (with_reducible first | refine And.intro ?_ ?_ | refine rows_lt1 ?_ | refine rows_lt2 ?_ ?_ | refine rows_lt3 ?_ ?_ ?_ | refine rows_lt4 ?_ ?_ ?_ ?_ | refine rows_lt5 ?_ ?_ ?_ ?_ ?_ | refine aggs_lt1 ?_ | refine aggs_lt2 ?_ ?_ | refine aggs_lt3 ?_ ?_ ?_ | refine fun (_ : Nat) => ?_) | refine fun (_ : (_ : Nat) < _) => ?_ | exact rfl | exact Nat.le_of_ble_eq_true rfl | (change (_ : Nat) ≤ _; omega) | (change (_ : Nat) = _; omega) | (change (_ : Int) = _; omega))); (all_goals try (conv => whnf)))
  · have h := of_decide_eq_false h
    have hsub := lets_sub _ _ (inR_five w 1 rg) (inR_five w 2 rg) (inR_sub w rg)
    have hl1 := ltk_len (inR (rgt w ((Int.toNat 1 : Nat) : Int)) rg) 3
    have hl2 := ltk_len (inR (rgt w ((Int.toNat 2 : Nat) : Int)) rg) 3
    have hl2' : (ltk (inR (rgt w ((Int.toNat 2 : Nat) : Int)) rg) 3).length ≤ 100 := by omega
    repeat (first | ((conv => whnf); refine And.intro ?_ ?_; exact sideOf) | ((conv => whnf); refine NilE.some ?_ ?_; exact sideOf) | ((conv => whnf); refine And.intro (fun _ => ?_) (fun h => nomatch (show true = false from h))) | ((conv => whnf); refine And.intro (fun h => nomatch (show false = true from h)) (fun _ => ?_)) | ((conv => whnf); first | (apply Exists.intro; (repeat apply Exists.intro); refine And.intro ?_ ?_; exact leOf) | (refine Or.inl ?_; (conv => whnf); (repeat apply Exists.intro); refine And.intro ?_ ?_; exact leOf) | (refine Or.inr ?_; (conv => whnf); first | ((repeat apply Exists.intro); refine And.intro ?_ ?_; exact leOf) | (refine Or.inl ?_; (conv => whnf); (repeat apply Exists.intro); refine And.intro ?_ ?_; exact leOf) | (refine Or.inr ?_; (conv => whnf); (repeat apply Exists.intro); refine And.intro ?_ ?_; exact leOf))) | ((conv => whnf); first | refine And.intro (by assumption) ?_ | refine goT ?_ | refine goF ?_ | refine goL ?_ | refine goR ?_ | refine goRL ?_ | refine goRR ?_))
    all_goals try (conv => whnf)
    refine Exists.intro (fun _ => True) (And.intro (Enter.mk (0 : Nat) (Nat.zero_le _) trivial ?_) (fun (j : Nat) (hj : j ≤ (ltk (inR (rgt w ((Int.toNat 1 : Nat) : Int)) rg) 3).length) _ => ?_))
    · ((repeat' ((conv => whnf) <;> first | exact trivial | (with_reducible first | refine And.intro ?_ ?_ | refine rows_lt1 ?_ | refine rows_lt2 ?_ ?_ | refine rows_lt3 ?_ ?_ ?_ | refine rows_lt4 ?_ ?_ ?_ ?_ | refine rows_lt5 ?_ ?_ ?_ ?_ ?_ | refine aggs_lt1 ?_ | refine aggs_lt2 ?_ ?_ | refine aggs_lt3 ?_ ?_ ?_ | refine fun (_ : Nat) => ?_) | refine fun (_ : (_ : Nat) < _) => ?_ | exact rfl | exact Nat.le_of_ble_eq_true rfl | (change (_ : Nat) ≤ _; omega) | (change (_ : Nat) = _; omega) | (change (_ : Int) = _; omega))); (all_goals try (conv => whnf)))
    rcases Nat.lt_or_eq_of_le hj with hlt | hjl
    · have hn : (!hasB (ltk (inR (rgt w ((Int.toNat 2 : Nat) : Int)) rg) 3) (BitVec.ofNat 8 ((ltk (inR (rgt w ((Int.toNat 1 : Nat) : Int)) rg) 3).getD j 0).toNat)) = false := by
        have h9 : hasB (ltk (inR (rgt w ((Int.toNat 2 : Nat) : Int)) rg) 3) (BitVec.ofNat 8 ((ltk (inR (rgt w ((Int.toNat 1 : Nat) : Int)) rg) 3).getD j 0).toNat) = true := hsub j hlt
        rw [h9]; rfl
      repeat (first | ((conv => whnf); refine And.intro ?_ ?_; exact sideOf) | ((conv => whnf); refine NilE.some ?_ ?_; exact sideOf) | ((conv => whnf); refine And.intro (fun _ => ?_) (fun h => nomatch (show true = false from h))) | ((conv => whnf); refine And.intro (fun h => nomatch (show false = true from h)) (fun _ => ?_)) | ((conv => whnf); first | (apply Exists.intro; (repeat apply Exists.intro); refine And.intro ?_ ?_; exact leOf) | (refine Or.inl ?_; (conv => whnf); (repeat apply Exists.intro); refine And.intro ?_ ?_; exact leOf) | (refine Or.inr ?_; (conv => whnf); first | ((repeat apply Exists.intro); refine And.intro ?_ ?_; exact leOf) | (refine Or.inl ?_; (conv => whnf); (repeat apply Exists.intro); refine And.intro ?_ ?_; exact leOf) | (refine Or.inr ?_; (conv => whnf); (repeat apply Exists.intro); refine And.intro ?_ ?_; exact leOf))) | ((conv => whnf); first | refine And.intro (by assumption) ?_ | refine goT ?_ | refine goF ?_ | refine goL ?_ | refine goR ?_ | refine goRL ?_ | refine goRR ?_))
      all_goals try (conv => whnf)
      refine Again.mk (j + 1 : Nat) hlt trivial (show (ltk (inR (rgt w ((Int.toNat 1 : Nat) : Int)) rg) 3).length - (j + 1) < (ltk (inR (rgt w ((Int.toNat 1 : Nat) : Int)) rg) 3).length - j by omega) ?_
      ((repeat' ((conv => whnf) <;> first | exact trivial | (with_reducible first | refine And.intro ?_ ?_ | refine rows_lt1 ?_ | refine rows_lt2 ?_ ?_ | refine rows_lt3 ?_ ?_ ?_ | refine rows_lt4 ?_ ?_ ?_ ?_ | refine rows_lt5 ?_ ?_ ?_ ?_ ?_ | refine aggs_lt1 ?_ | refine aggs_lt2 ?_ ?_ | refine aggs_lt3 ?_ ?_ ?_ | refine fun (_ : Nat) => ?_) | refine fun (_ : (_ : Nat) < _) => ?_ | exact rfl | exact Nat.le_of_ble_eq_true rfl | (change (_ : Nat) ≤ _; omega) | (change (_ : Nat) = _; omega) | (change (_ : Int) = _; omega))); (all_goals try (conv => whnf)))
    · have hnl : ¬ j < (ltk (inR (rgt w ((Int.toNat 1 : Nat) : Int)) rg) 3).length := by omega
      by_cases hr : whi a.toNat = 0
      · have g1 : (0 : Int) ≤ (whi a.toNat : Int) := by omega
        have g2 : (whi a.toNat : Int) < 6 := by omega
        repeat (first | ((conv => whnf); refine And.intro ?_ ?_; exact sideOf) | ((conv => whnf); refine NilE.some ?_ ?_; exact sideOf) | ((conv => whnf); refine And.intro (fun _ => ?_) (fun h => nomatch (show true = false from h))) | ((conv => whnf); refine And.intro (fun h => nomatch (show false = true from h)) (fun _ => ?_)) | ((conv => whnf); first | (apply Exists.intro; (repeat apply Exists.intro); refine And.intro ?_ ?_; exact leOf) | (refine Or.inl ?_; (conv => whnf); (repeat apply Exists.intro); refine And.intro ?_ ?_; exact leOf) | (refine Or.inr ?_; (conv => whnf); first | ((repeat apply Exists.intro); refine And.intro ?_ ?_; exact leOf) | (refine Or.inl ?_; (conv => whnf); (repeat apply Exists.intro); refine And.intro ?_ ?_; exact leOf) | (refine Or.inr ?_; (conv => whnf); (repeat apply Exists.intro); refine And.intro ?_ ?_; exact leOf))) | ((conv => whnf); first | refine And.intro (by assumption) ?_ | refine goT ?_ | refine goF ?_ | refine goL ?_ | refine goR ?_ | refine goRL ?_ | refine goRR ?_))
        all_goals try (conv => whnf)
      · have h6 := (whi_in hr).2
        have g1 : (0 : Int) ≤ (whi a.toNat : Int) := by omega
        have g2 : (whi a.toNat : Int) < 6 := by omega
        obtain ⟨b1, b2⟩ := back_at hr
        have b3 : who a.toNat < rs (whi a.toNat : Int).toNat := b2
        repeat (first | ((conv => whnf); refine And.intro ?_ ?_; exact sideOf) | ((conv => whnf); refine NilE.some ?_ ?_; exact sideOf) | ((conv => whnf); refine And.intro (fun _ => ?_) (fun h => nomatch (show true = false from h))) | ((conv => whnf); refine And.intro (fun h => nomatch (show false = true from h)) (fun _ => ?_)) | ((conv => whnf); first | (apply Exists.intro; (repeat apply Exists.intro); refine And.intro ?_ ?_; exact leOf) | (refine Or.inl ?_; (conv => whnf); (repeat apply Exists.intro); refine And.intro ?_ ?_; exact leOf) | (refine Or.inr ?_; (conv => whnf); first | ((repeat apply Exists.intro); refine And.intro ?_ ?_; exact leOf) | (refine Or.inl ?_; (conv => whnf); (repeat apply Exists.intro); refine And.intro ?_ ?_; exact leOf) | (refine Or.inr ?_; (conv => whnf); (repeat apply Exists.intro); refine And.intro ?_ ?_; exact leOf))) | ((conv => whnf); first | refine And.intro (by assumption) ?_ | refine goT ?_ | refine goF ?_ | refine goL ?_ | refine goR ?_ | refine goRL ?_ | refine goRR ?_))
        all_goals try (conv => whnf)
        all_goals exact decide_eq_true b1
end Go.Proofs.YtbpkmlakfdaooaaDoor
