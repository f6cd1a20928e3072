/- Where an address is, as the document has it; first addresses and sizes; what can be wrong. -/
import Derived.Test.YtbpkmlakfdaooaaDoorR3
namespace Go.Proofs.YtbpkmlakfdaooaaDoor
open Go.RowKit
set_option maxRecDepth 100000
set_option maxHeartbeats 20000000
theorem w64 (a : BitVec 32) : (a.setWidth 64).toNat = a.toNat := by
  rw [BitVec.toNat_setWidth]; have := a.isLt; omega
theorem c64 {b : Nat} (hb : b < 4294967296) : (BitVec.ofInt 64 (b : Int)).toNat = b := by
  rw [BitVec.ofInt_natCast, BitVec.toNat_ofNat]; omega
theorem ge_yes {a : BitVec 32} {b : Nat} (hb : b < 4294967296) (h : b ≤ a.toNat) : BitVec.ofInt 64 (b : Int) ≤ a.setWidth 64 := by
  rw [BitVec.le_def, w64, c64 hb]; exact h
theorem ge_no {a : BitVec 32} {b : Nat} (hb : b < 4294967296) (h : ¬ b ≤ a.toNat) : ¬ BitVec.ofInt 64 (b : Int) ≤ a.setWidth 64 := by
  rw [BitVec.le_def, w64, c64 hb]; exact h
theorem lt_yes {a : BitVec 32} {b : Nat} (hb : b < 4294967296) (h : a.toNat < b) : a.setWidth 64 < BitVec.ofInt 64 (b : Int) := by
  rw [BitVec.lt_def, w64, c64 hb]; exact h
theorem lt_no {a : BitVec 32} {b : Nat} (hb : b < 4294967296) (h : ¬ a.toNat < b) : ¬ a.setWidth 64 < BitVec.ofInt 64 (b : Int) := by
  rw [BitVec.lt_def, w64, c64 hb]; exact h
theorem sub64 {a : BitVec 32} {b : Nat} (hb : b < 4294967296) (h : b ≤ a.toNat) : (a.setWidth 64 - BitVec.ofInt 64 (b : Int)).toNat = a.toNat - b := by
  have ha := a.isLt
  rw [BitVec.toNat_sub, w64, c64 hb]
  omega
theorem whi_is {n i : Nat} (hi : i < 6) (h0 : 0 < i) (h : rb i ≤ n ∧ n < rb i + rs i) : whi n = i ∧ who n = n - rb i := by
  have h1 := whi_at hi h
  have h2 : ¬ whi n = 0 := by omega
  rw [who_at h2, h1]; exact ⟨rfl, rfl⟩
theorem whi_gap {n : Nat} (h : ¬ (536870912 ≤ n ∧ n < 536879104) ∧ ¬ (268435456 ≤ n ∧ n < 268445696) ∧ ¬ (1073741824 ≤ n ∧ n < 1073741888) ∧ ¬ (1610612736 ≤ n ∧ n < 1610612992)) : whi n = 0 ∧ who n = 0 := by
  have h1 : whi n = 0 := by
    have h1 : ∀ j, inI n j ↔ (rb j ≤ n ∧ n < rb j + rs j) := fun _ => Iff.rfl
    unfold whi
    simp only [h1]
    simp [rb, rs]
    (repeat' split) <;> omega
  exact ⟨h1, if_pos h1⟩
def C_r14_Where : SpecP := fun A K => ∃ a : BitVec 32, A [.u32 a] ∧ K (tupOf [.nat (whi a.toNat), .nat (who a.toNat)])
theorem g_r14_Where : Gd 12 (pureP ty C_r14_Where) := by
  refine goodP (E := PG []) (pgOK trivial) mixes Tryd.func12 (by kernel_rfl) (by kernel_rfl) ?_
  rintro A K ⟨a, hA, hK⟩
  generalize hn : a.toNat = n at hK
  have hlt : n < 4294967296 := hn ▸ a.isLt
  have hcase : (n < 268435456) ∨ (268435456 ≤ n ∧ n < 268445696) ∨ (268445696 ≤ n ∧ n < 536870912) ∨ (536870912 ≤ n ∧ n < 536875008) ∨ (536875008 ≤ n ∧ n < 536879104) ∨ (536879104 ≤ n ∧ n < 1073741824) ∨ (1073741824 ≤ n ∧ n < 1073741888) ∨ (1073741888 ≤ n ∧ n < 1610612736) ∨ (1610612736 ≤ n ∧ n < 1610612992) ∨ (1610612992 ≤ n) := by omega
  rcases hcase with h | h | h | h | h | h | h | h | h | h
  · refine ⟨_, _, fun _ => none, hA, hK, by kernel_rfl, own_res trivial trivial, ?_⟩
    have l1 : ¬ BitVec.ofInt 64 536870912 ≤ a.setWidth 64 := ge_no (b := 536870912) (by decide) (by omega)
    have u1 : a.setWidth 64 < BitVec.ofInt 64 536875008 := lt_yes (b := 536875008) (by decide) (by omega)
    have l2 : ¬ BitVec.ofInt 64 536875008 ≤ a.setWidth 64 := ge_no (b := 536875008) (by decide) (by omega)
    have u2 : a.setWidth 64 < BitVec.ofInt 64 536879104 := lt_yes (b := 536879104) (by decide) (by omega)
    have l3 : ¬ BitVec.ofInt 64 268435456 ≤ a.setWidth 64 := ge_no (b := 268435456) (by decide) (by omega)
    have u3 : a.setWidth 64 < BitVec.ofInt 64 268445696 := lt_yes (b := 268445696) (by decide) (by omega)
    have l4 : ¬ BitVec.ofInt 64 1073741824 ≤ a.setWidth 64 := ge_no (b := 1073741824) (by decide) (by omega)
    have u4 : a.setWidth 64 < BitVec.ofInt 64 1073741888 := lt_yes (b := 1073741888) (by decide) (by omega)
    have l5 : ¬ BitVec.ofInt 64 1610612736 ≤ a.setWidth 64 := ge_no (b := 1610612736) (by decide) (by omega)
    have u5 : a.setWidth 64 < BitVec.ofInt 64 1610612992 := lt_yes (b := 1610612992) (by decide) (by omega)
    obtain ⟨e1, e2⟩ := whi_gap (n := n) (by omega)
    rw [e1, e2]
    repeat (first | ((conv => whnf); refine And.intro ?_ ?_; exact sideOf) | ((conv => whnf); refine NilE.some ?_ ?_; exact sideOf) | ((conv => whnf); refine And.intro (fun _ => ?_) (fun h => nomatch (show true = false from h))) | ((conv => whnf); refine And.intro (fun h => nomatch (show false = true from h)) (fun _ => ?_)) | ((conv => whnf); first | (apply Exists.intro; (repeat apply Exists.intro); refine And.intro ?_ ?_; exact leOf) | (refine Or.inl ?_; (conv => whnf); (repeat apply Exists.intro); refine And.intro ?_ ?_; exact leOf) | (refine Or.inr ?_; (conv => whnf); first | ((repeat apply Exists.intro); refine And.intro ?_ ?_; exact leOf) | (refine Or.inl ?_; (conv => whnf); (repeat apply Exists.intro); refine And.intro ?_ ?_; exact leOf) | (refine Or.inr ?_; (conv => whnf); (repeat apply Exists.intro); refine And.intro ?_ ?_; exact leOf))) | ((conv => whnf); first | refine And.intro (by assumption) ?_ | refine goT ?_ | refine goF ?_ | refine goL ?_ | refine goR ?_ | refine goRL ?_ | refine goRR ?_))
    all_goals try (conv => whnf)
    ((repeat' ((conv => whnf) <;> first | exact trivial | (with_reducible first | refine And.intro ?_ ?_ | refine rows_lt1 ?_ | refine rows_lt2 ?_ ?_ | refine rows_lt3 ?_ ?_ ?_ | refine rows_lt4 ?_ ?_ ?_ ?_ | refine rows_lt5 ?_ ?_ ?_ ?_ ?_ | refine aggs_lt1 ?_ | refine aggs_lt2 ?_ ?_ | refine aggs_lt3 ?_ ?_ ?_ | refine fun (_ : Nat) => ?_) | refine fun (_ : (_ : Nat) < _) => ?_ | exact rfl | exact Nat.le_of_ble_eq_true rfl | (change (_ : Nat) ≤ _; omega) | (change (_ : Nat) = _; omega) | (change (_ : Int) = _; omega))); (all_goals try (conv => whnf)))
  · refine ⟨_, _, fun _ => none, hA, hK, by kernel_rfl, own_res trivial trivial, ?_⟩
    have l1 : ¬ BitVec.ofInt 64 536870912 ≤ a.setWidth 64 := ge_no (b := 536870912) (by decide) (by omega)
    have u1 : a.setWidth 64 < BitVec.ofInt 64 536875008 := lt_yes (b := 536875008) (by decide) (by omega)
    have l2 : ¬ BitVec.ofInt 64 536875008 ≤ a.setWidth 64 := ge_no (b := 536875008) (by decide) (by omega)
    have u2 : a.setWidth 64 < BitVec.ofInt 64 536879104 := lt_yes (b := 536879104) (by decide) (by omega)
    have l3 : BitVec.ofInt 64 268435456 ≤ a.setWidth 64 := ge_yes (b := 268435456) (by decide) (by omega)
    have u3 : a.setWidth 64 < BitVec.ofInt 64 268445696 := lt_yes (b := 268445696) (by decide) (by omega)
    have l4 : ¬ BitVec.ofInt 64 1073741824 ≤ a.setWidth 64 := ge_no (b := 1073741824) (by decide) (by omega)
    have u4 : a.setWidth 64 < BitVec.ofInt 64 1073741888 := lt_yes (b := 1073741888) (by decide) (by omega)
    have l5 : ¬ BitVec.ofInt 64 1610612736 ≤ a.setWidth 64 := ge_no (b := 1610612736) (by decide) (by omega)
    have u5 : a.setWidth 64 < BitVec.ofInt 64 1610612992 := lt_yes (b := 1610612992) (by decide) (by omega)
    obtain ⟨e1, e2⟩ := whi_is (n := n) (i := 3) (by decide) (by decide) (by show 268435456 ≤ n ∧ n < 268435456 + 10240; omega)
    rw [e1, e2]
    repeat (first | ((conv => whnf); refine And.intro ?_ ?_; exact sideOf) | ((conv => whnf); refine NilE.some ?_ ?_; exact sideOf) | ((conv => whnf); refine And.intro (fun _ => ?_) (fun h => nomatch (show true = false from h))) | ((conv => whnf); refine And.intro (fun h => nomatch (show false = true from h)) (fun _ => ?_)) | ((conv => whnf); first | (apply Exists.intro; (repeat apply Exists.intro); refine And.intro ?_ ?_; exact leOf) | (refine Or.inl ?_; (conv => whnf); (repeat apply Exists.intro); refine And.intro ?_ ?_; exact leOf) | (refine Or.inr ?_; (conv => whnf); first | ((repeat apply Exists.intro); refine And.intro ?_ ?_; exact leOf) | (refine Or.inl ?_; (conv => whnf); (repeat apply Exists.intro); refine And.intro ?_ ?_; exact leOf) | (refine Or.inr ?_; (conv => whnf); (repeat apply Exists.intro); refine And.intro ?_ ?_; exact leOf))) | ((conv => whnf); first | refine And.intro (by assumption) ?_ | refine goT ?_ | refine goF ?_ | refine goL ?_ | refine goR ?_ | refine goRL ?_ | refine goRR ?_))
    all_goals try (conv => whnf)
    have hs : (a.setWidth 64 - BitVec.ofInt 64 268435456).toNat = n - 268435456 := (sub64 (b := 268435456) (by decide) (by omega)).trans (by rw [hn])
    rw [hs]
    refine And.intro (show n - 268435456 ≤ 9223372036854775807 by omega) ?_
    repeat (first | ((conv => whnf); refine And.intro ?_ ?_; exact sideOf) | ((conv => whnf); refine NilE.some ?_ ?_; exact sideOf) | ((conv => whnf); refine And.intro (fun _ => ?_) (fun h => nomatch (show true = false from h))) | ((conv => whnf); refine And.intro (fun h => nomatch (show false = true from h)) (fun _ => ?_)) | ((conv => whnf); first | (apply Exists.intro; (repeat apply Exists.intro); refine And.intro ?_ ?_; exact leOf) | (refine Or.inl ?_; (conv => whnf); (repeat apply Exists.intro); refine And.intro ?_ ?_; exact leOf) | (refine Or.inr ?_; (conv => whnf); first | ((repeat apply Exists.intro); refine And.intro ?_ ?_; exact leOf) | (refine Or.inl ?_; (conv => whnf); (repeat apply Exists.intro); refine And.intro ?_ ?_; exact leOf) | (refine Or.inr ?_; (conv => whnf); (repeat apply Exists.intro); refine And.intro ?_ ?_; exact leOf))) | ((conv => whnf); first | refine And.intro (by assumption) ?_ | refine goT ?_ | refine goF ?_ | refine goL ?_ | refine goR ?_ | refine goRL ?_ | refine goRR ?_))
    all_goals try (conv => whnf)
    ((repeat' ((conv => whnf) <;> first | exact trivial | (with_reducible first | refine And.intro ?_ ?_ | refine rows_lt1 ?_ | refine rows_lt2 ?_ ?_ | refine rows_lt3 ?_ ?_ ?_ | refine rows_lt4 ?_ ?_ ?_ ?_ | refine rows_lt5 ?_ ?_ ?_ ?_ ?_ | refine aggs_lt1 ?_ | refine aggs_lt2 ?_ ?_ | refine aggs_lt3 ?_ ?_ ?_ | refine fun (_ : Nat) => ?_) | refine fun (_ : (_ : Nat) < _) => ?_ | exact rfl | exact Nat.le_of_ble_eq_true rfl | (change (_ : Nat) ≤ _; omega) | (change (_ : Nat) = _; omega) | (change (_ : Int) = _; omega))); (all_goals try (conv => whnf)))
  · refine ⟨_, _, fun _ => none, hA, hK, by kernel_rfl, own_res trivial trivial, ?_⟩
    have l1 : ¬ BitVec.ofInt 64 536870912 ≤ a.setWidth 64 := ge_no (b := 536870912) (by decide) (by omega)
    have u1 : a.setWidth 64 < BitVec.ofInt 64 536875008 := lt_yes (b := 536875008) (by decide) (by omega)
    have l2 : ¬ BitVec.ofInt 64 536875008 ≤ a.setWidth 64 := ge_no (b := 536875008) (by decide) (by omega)
    have u2 : a.setWidth 64 < BitVec.ofInt 64 536879104 := lt_yes (b := 536879104) (by decide) (by omega)
    have l3 : BitVec.ofInt 64 268435456 ≤ a.setWidth 64 := ge_yes (b := 268435456) (by decide) (by omega)
    have u3 : ¬ a.setWidth 64 < BitVec.ofInt 64 268445696 := lt_no (b := 268445696) (by decide) (by omega)
    have l4 : ¬ BitVec.ofInt 64 1073741824 ≤ a.setWidth 64 := ge_no (b := 1073741824) (by decide) (by omega)
    have u4 : a.setWidth 64 < BitVec.ofInt 64 1073741888 := lt_yes (b := 1073741888) (by decide) (by omega)
    have l5 : ¬ BitVec.ofInt 64 1610612736 ≤ a.setWidth 64 := ge_no (b := 1610612736) (by decide) (by omega)
    have u5 : a.setWidth 64 < BitVec.ofInt 64 1610612992 := lt_yes (b := 1610612992) (by decide) (by omega)
    obtain ⟨e1, e2⟩ := whi_gap (n := n) (by omega)
    rw [e1, e2]
    repeat (first | ((conv => whnf); refine And.intro ?_ ?_; exact sideOf) | ((conv => whnf); refine NilE.some ?_ ?_; exact sideOf) | ((conv => whnf); refine And.intro (fun _ => ?_) (fun h => nomatch (show true = false from h))) | ((conv => whnf); refine And.intro (fun h => nomatch (show false = true from h)) (fun _ => ?_)) | ((conv => whnf); first | (apply Exists.intro; (repeat apply Exists.intro); refine And.intro ?_ ?_; exact leOf) | (refine Or.inl ?_; (conv => whnf); (repeat apply Exists.intro); refine And.intro ?_ ?_; exact leOf) | (refine Or.inr ?_; (conv => whnf); first | ((repeat apply Exists.intro); refine And.intro ?_ ?_; exact leOf) | (refine Or.inl ?_; (conv => whnf); (repeat apply Exists.intro); refine And.intro ?_ ?_; exact leOf) | (refine Or.inr ?_; (conv => whnf); (repeat apply Exists.intro); refine And.intro ?_ ?_; exact leOf))) | ((conv => whnf); first | refine And.intro (by assumption) ?_ | refine goT ?_ | refine goF ?_ | refine goL ?_ | refine goR ?_ | refine goRL ?_ | refine goRR ?_))
    all_goals try (conv => whnf)
    ((repeat' ((conv => whnf) <;> first | exact trivial | (with_reducible first | refine And.intro ?_ ?_ | refine rows_lt1 ?_ | refine rows_lt2 ?_ ?_ | refine rows_lt3 ?_ ?_ ?_ | refine rows_lt4 ?_ ?_ ?_ ?_ | refine rows_lt5 ?_ ?_ ?_ ?_ ?_ | refine aggs_lt1 ?_ | refine aggs_lt2 ?_ ?_ | refine aggs_lt3 ?_ ?_ ?_ | refine fun (_ : Nat) => ?_) | refine fun (_ : (_ : Nat) < _) => ?_ | exact rfl | exact Nat.le_of_ble_eq_true rfl | (change (_ : Nat) ≤ _; omega) | (change (_ : Nat) = _; omega) | (change (_ : Int) = _; omega))); (all_goals try (conv => whnf)))
  · refine ⟨_, _, fun _ => none, hA, hK, by kernel_rfl, own_res trivial trivial, ?_⟩
    have l1 : BitVec.ofInt 64 536870912 ≤ a.setWidth 64 := ge_yes (b := 536870912) (by decide) (by omega)
    have u1 : a.setWidth 64 < BitVec.ofInt 64 536875008 := lt_yes (b := 536875008) (by decide) (by omega)
    have l2 : ¬ BitVec.ofInt 64 536875008 ≤ a.setWidth 64 := ge_no (b := 536875008) (by decide) (by omega)
    have u2 : a.setWidth 64 < BitVec.ofInt 64 536879104 := lt_yes (b := 536879104) (by decide) (by omega)
    have l3 : BitVec.ofInt 64 268435456 ≤ a.setWidth 64 := ge_yes (b := 268435456) (by decide) (by omega)
    have u3 : ¬ a.setWidth 64 < BitVec.ofInt 64 268445696 := lt_no (b := 268445696) (by decide) (by omega)
    have l4 : ¬ BitVec.ofInt 64 1073741824 ≤ a.setWidth 64 := ge_no (b := 1073741824) (by decide) (by omega)
    have u4 : a.setWidth 64 < BitVec.ofInt 64 1073741888 := lt_yes (b := 1073741888) (by decide) (by omega)
    have l5 : ¬ BitVec.ofInt 64 1610612736 ≤ a.setWidth 64 := ge_no (b := 1610612736) (by decide) (by omega)
    have u5 : a.setWidth 64 < BitVec.ofInt 64 1610612992 := lt_yes (b := 1610612992) (by decide) (by omega)
    obtain ⟨e1, e2⟩ := whi_is (n := n) (i := 1) (by decide) (by decide) (by show 536870912 ≤ n ∧ n < 536870912 + 4096; omega)
    rw [e1, e2]
    repeat (first | ((conv => whnf); refine And.intro ?_ ?_; exact sideOf) | ((conv => whnf); refine NilE.some ?_ ?_; exact sideOf) | ((conv => whnf); refine And.intro (fun _ => ?_) (fun h => nomatch (show true = false from h))) | ((conv => whnf); refine And.intro (fun h => nomatch (show false = true from h)) (fun _ => ?_)) | ((conv => whnf); first | (apply Exists.intro; (repeat apply Exists.intro); refine And.intro ?_ ?_; exact leOf) | (refine Or.inl ?_; (conv => whnf); (repeat apply Exists.intro); refine And.intro ?_ ?_; exact leOf) | (refine Or.inr ?_; (conv => whnf); first | ((repeat apply Exists.intro); refine And.intro ?_ ?_; exact leOf) | (refine Or.inl ?_; (conv => whnf); (repeat apply Exists.intro); refine And.intro ?_ ?_; exact leOf) | (refine Or.inr ?_; (conv => whnf); (repeat apply Exists.intro); refine And.intro ?_ ?_; exact leOf))) | ((conv => whnf); first | refine And.intro (by assumption) ?_ | refine goT ?_ | refine goF ?_ | refine goL ?_ | refine goR ?_ | refine goRL ?_ | refine goRR ?_))
    all_goals try (conv => whnf)
    have hs : (a.setWidth 64 - BitVec.ofInt 64 536870912).toNat = n - 536870912 := (sub64 (b := 536870912) (by decide) (by omega)).trans (by rw [hn])
    rw [hs]
    refine And.intro (show n - 536870912 ≤ 9223372036854775807 by omega) ?_
    repeat (first | ((conv => whnf); refine And.intro ?_ ?_; exact sideOf) | ((conv => whnf); refine NilE.some ?_ ?_; exact sideOf) | ((conv => whnf); refine And.intro (fun _ => ?_) (fun h => nomatch (show true = false from h))) | ((conv => whnf); refine And.intro (fun h => nomatch (show false = true from h)) (fun _ => ?_)) | ((conv => whnf); first | (apply Exists.intro; (repeat apply Exists.intro); refine And.intro ?_ ?_; exact leOf) | (refine Or.inl ?_; (conv => whnf); (repeat apply Exists.intro); refine And.intro ?_ ?_; exact leOf) | (refine Or.inr ?_; (conv => whnf); first | ((repeat apply Exists.intro); refine And.intro ?_ ?_; exact leOf) | (refine Or.inl ?_; (conv => whnf); (repeat apply Exists.intro); refine And.intro ?_ ?_; exact leOf) | (refine Or.inr ?_; (conv => whnf); (repeat apply Exists.intro); refine And.intro ?_ ?_; exact leOf))) | ((conv => whnf); first | refine And.intro (by assumption) ?_ | refine goT ?_ | refine goF ?_ | refine goL ?_ | refine goR ?_ | refine goRL ?_ | refine goRR ?_))
    all_goals try (conv => whnf)
    ((repeat' ((conv => whnf) <;> first | exact trivial | (with_reducible first | refine And.intro ?_ ?_ | refine rows_lt1 ?_ | refine rows_lt2 ?_ ?_ | refine rows_lt3 ?_ ?_ ?_ | refine rows_lt4 ?_ ?_ ?_ ?_ | refine rows_lt5 ?_ ?_ ?_ ?_ ?_ | refine aggs_lt1 ?_ | refine aggs_lt2 ?_ ?_ | refine aggs_lt3 ?_ ?_ ?_ | refine fun (_ : Nat) => ?_) | refine fun (_ : (_ : Nat) < _) => ?_ | exact rfl | exact Nat.le_of_ble_eq_true rfl | (change (_ : Nat) ≤ _; omega) | (change (_ : Nat) = _; omega) | (change (_ : Int) = _; omega))); (all_goals try (conv => whnf)))
  · refine ⟨_, _, fun _ => none, hA, hK, by kernel_rfl, own_res trivial trivial, ?_⟩
    have l1 : BitVec.ofInt 64 536870912 ≤ a.setWidth 64 := ge_yes (b := 536870912) (by decide) (by omega)
    have u1 : ¬ a.setWidth 64 < BitVec.ofInt 64 536875008 := lt_no (b := 536875008) (by decide) (by omega)
    have l2 : BitVec.ofInt 64 536875008 ≤ a.setWidth 64 := ge_yes (b := 536875008) (by decide) (by omega)
    have u2 : a.setWidth 64 < BitVec.ofInt 64 536879104 := lt_yes (b := 536879104) (by decide) (by omega)
    have l3 : BitVec.ofInt 64 268435456 ≤ a.setWidth 64 := ge_yes (b := 268435456) (by decide) (by omega)
    have u3 : ¬ a.setWidth 64 < BitVec.ofInt 64 268445696 := lt_no (b := 268445696) (by decide) (by omega)
    have l4 : ¬ BitVec.ofInt 64 1073741824 ≤ a.setWidth 64 := ge_no (b := 1073741824) (by decide) (by omega)
    have u4 : a.setWidth 64 < BitVec.ofInt 64 1073741888 := lt_yes (b := 1073741888) (by decide) (by omega)
    have l5 : ¬ BitVec.ofInt 64 1610612736 ≤ a.setWidth 64 := ge_no (b := 1610612736) (by decide) (by omega)
    have u5 : a.setWidth 64 < BitVec.ofInt 64 1610612992 := lt_yes (b := 1610612992) (by decide) (by omega)
    obtain ⟨e1, e2⟩ := whi_is (n := n) (i := 2) (by decide) (by decide) (by show 536875008 ≤ n ∧ n < 536875008 + 4096; omega)
    rw [e1, e2]
    repeat (first | ((conv => whnf); refine And.intro ?_ ?_; exact sideOf) | ((conv => whnf); refine NilE.some ?_ ?_; exact sideOf) | ((conv => whnf); refine And.intro (fun _ => ?_) (fun h => nomatch (show true = false from h))) | ((conv => whnf); refine And.intro (fun h => nomatch (show false = true from h)) (fun _ => ?_)) | ((conv => whnf); first | (apply Exists.intro; (repeat apply Exists.intro); refine And.intro ?_ ?_; exact leOf) | (refine Or.inl ?_; (conv => whnf); (repeat apply Exists.intro); refine And.intro ?_ ?_; exact leOf) | (refine Or.inr ?_; (conv => whnf); first | ((repeat apply Exists.intro); refine And.intro ?_ ?_; exact leOf) | (refine Or.inl ?_; (conv => whnf); (repeat apply Exists.intro); refine And.intro ?_ ?_; exact leOf) | (refine Or.inr ?_; (conv => whnf); (repeat apply Exists.intro); refine And.intro ?_ ?_; exact leOf))) | ((conv => whnf); first | refine And.intro (by assumption) ?_ | refine goT ?_ | refine goF ?_ | refine goL ?_ | refine goR ?_ | refine goRL ?_ | refine goRR ?_))
    all_goals try (conv => whnf)
    have hs : (a.setWidth 64 - BitVec.ofInt 64 536875008).toNat = n - 536875008 := (sub64 (b := 536875008) (by decide) (by omega)).trans (by rw [hn])
    rw [hs]
    refine And.intro (show n - 536875008 ≤ 9223372036854775807 by omega) ?_
    repeat (first | ((conv => whnf); refine And.intro ?_ ?_; exact sideOf) | ((conv => whnf); refine NilE.some ?_ ?_; exact sideOf) | ((conv => whnf); refine And.intro (fun _ => ?_) (fun h => nomatch (show true = false from h))) | ((conv => whnf); refine And.intro (fun h => nomatch (show false = true from h)) (fun _ => ?_)) | ((conv => whnf); first | (apply Exists.intro; (repeat apply Exists.intro); refine And.intro ?_ ?_; exact leOf) | (refine Or.inl ?_; (conv => whnf); (repeat apply Exists.intro); refine And.intro ?_ ?_; exact leOf) | (refine Or.inr ?_; (conv => whnf); first | ((repeat apply Exists.intro); refine And.intro ?_ ?_; exact leOf) | (refine Or.inl ?_; (conv => whnf); (repeat apply Exists.intro); refine And.intro ?_ ?_; exact leOf) | (refine Or.inr ?_; (conv => whnf); (repeat apply Exists.intro); refine And.intro ?_ ?_; exact leOf))) | ((conv => whnf); first | refine And.intro (by assumption) ?_ | refine goT ?_ | refine goF ?_ | refine goL ?_ | refine goR ?_ | refine goRL ?_ | refine goRR ?_))
    all_goals try (conv => whnf)
    ((repeat' ((conv => whnf) <;> first | exact trivial | (with_reducible first | refine And.intro ?_ ?_ | refine rows_lt1 ?_ | refine rows_lt2 ?_ ?_ | refine rows_lt3 ?_ ?_ ?_ | refine rows_lt4 ?_ ?_ ?_ ?_ | refine rows_lt5 ?_ ?_ ?_ ?_ ?_ | refine aggs_lt1 ?_ | refine aggs_lt2 ?_ ?_ | refine aggs_lt3 ?_ ?_ ?_ | refine fun (_ : Nat) => ?_) | refine fun (_ : (_ : Nat) < _) => ?_ | exact rfl | exact Nat.le_of_ble_eq_true rfl | (change (_ : Nat) ≤ _; omega) | (change (_ : Nat) = _; omega) | (change (_ : Int) = _; omega))); (all_goals try (conv => whnf)))
  · refine ⟨_, _, fun _ => none, hA, hK, by kernel_rfl, own_res trivial trivial, ?_⟩
    have l1 : BitVec.ofInt 64 536870912 ≤ a.setWidth 64 := ge_yes (b := 536870912) (by decide) (by omega)
    have u1 : ¬ a.setWidth 64 < BitVec.ofInt 64 536875008 := lt_no (b := 536875008) (by decide) (by omega)
    have l2 : BitVec.ofInt 64 536875008 ≤ a.setWidth 64 := ge_yes (b := 536875008) (by decide) (by omega)
    have u2 : ¬ a.setWidth 64 < BitVec.ofInt 64 536879104 := lt_no (b := 536879104) (by decide) (by omega)
    have l3 : BitVec.ofInt 64 268435456 ≤ a.setWidth 64 := ge_yes (b := 268435456) (by decide) (by omega)
    have u3 : ¬ a.setWidth 64 < BitVec.ofInt 64 268445696 := lt_no (b := 268445696) (by decide) (by omega)
    have l4 : ¬ BitVec.ofInt 64 1073741824 ≤ a.setWidth 64 := ge_no (b := 1073741824) (by decide) (by omega)
    have u4 : a.setWidth 64 < BitVec.ofInt 64 1073741888 := lt_yes (b := 1073741888) (by decide) (by omega)
    have l5 : ¬ BitVec.ofInt 64 1610612736 ≤ a.setWidth 64 := ge_no (b := 1610612736) (by decide) (by omega)
    have u5 : a.setWidth 64 < BitVec.ofInt 64 1610612992 := lt_yes (b := 1610612992) (by decide) (by omega)
    obtain ⟨e1, e2⟩ := whi_gap (n := n) (by omega)
    rw [e1, e2]
    repeat (first | ((conv => whnf); refine And.intro ?_ ?_; exact sideOf) | ((conv => whnf); refine NilE.some ?_ ?_; exact sideOf) | ((conv => whnf); refine And.intro (fun _ => ?_) (fun h => nomatch (show true = false from h))) | ((conv => whnf); refine And.intro (fun h => nomatch (show false = true from h)) (fun _ => ?_)) | ((conv => whnf); first | (apply Exists.intro; (repeat apply Exists.intro); refine And.intro ?_ ?_; exact leOf) | (refine Or.inl ?_; (conv => whnf); (repeat apply Exists.intro); refine And.intro ?_ ?_; exact leOf) | (refine Or.inr ?_; (conv => whnf); first | ((repeat apply Exists.intro); refine And.intro ?_ ?_; exact leOf) | (refine Or.inl ?_; (conv => whnf); (repeat apply Exists.intro); refine And.intro ?_ ?_; exact leOf) | (refine Or.inr ?_; (conv => whnf); (repeat apply Exists.intro); refine And.intro ?_ ?_; exact leOf))) | ((conv => whnf); first | refine And.intro (by assumption) ?_ | refine goT ?_ | refine goF ?_ | refine goL ?_ | refine goR ?_ | refine goRL ?_ | refine goRR ?_))
    all_goals try (conv => whnf)
    ((repeat' ((conv => whnf) <;> first | exact trivial | (with_reducible first | refine And.intro ?_ ?_ | refine rows_lt1 ?_ | refine rows_lt2 ?_ ?_ | refine rows_lt3 ?_ ?_ ?_ | refine rows_lt4 ?_ ?_ ?_ ?_ | refine rows_lt5 ?_ ?_ ?_ ?_ ?_ | refine aggs_lt1 ?_ | refine aggs_lt2 ?_ ?_ | refine aggs_lt3 ?_ ?_ ?_ | refine fun (_ : Nat) => ?_) | refine fun (_ : (_ : Nat) < _) => ?_ | exact rfl | exact Nat.le_of_ble_eq_true rfl | (change (_ : Nat) ≤ _; omega) | (change (_ : Nat) = _; omega) | (change (_ : Int) = _; omega))); (all_goals try (conv => whnf)))
  · refine ⟨_, _, fun _ => none, hA, hK, by kernel_rfl, own_res trivial trivial, ?_⟩
    have l1 : BitVec.ofInt 64 536870912 ≤ a.setWidth 64 := ge_yes (b := 536870912) (by decide) (by omega)
    have u1 : ¬ a.setWidth 64 < BitVec.ofInt 64 536875008 := lt_no (b := 536875008) (by decide) (by omega)
    have l2 : BitVec.ofInt 64 536875008 ≤ a.setWidth 64 := ge_yes (b := 536875008) (by decide) (by omega)
    have u2 : ¬ a.setWidth 64 < BitVec.ofInt 64 536879104 := lt_no (b := 536879104) (by decide) (by omega)
    have l3 : BitVec.ofInt 64 268435456 ≤ a.setWidth 64 := ge_yes (b := 268435456) (by decide) (by omega)
    have u3 : ¬ a.setWidth 64 < BitVec.ofInt 64 268445696 := lt_no (b := 268445696) (by decide) (by omega)
    have l4 : BitVec.ofInt 64 1073741824 ≤ a.setWidth 64 := ge_yes (b := 1073741824) (by decide) (by omega)
    have u4 : a.setWidth 64 < BitVec.ofInt 64 1073741888 := lt_yes (b := 1073741888) (by decide) (by omega)
    have l5 : ¬ BitVec.ofInt 64 1610612736 ≤ a.setWidth 64 := ge_no (b := 1610612736) (by decide) (by omega)
    have u5 : a.setWidth 64 < BitVec.ofInt 64 1610612992 := lt_yes (b := 1610612992) (by decide) (by omega)
    obtain ⟨e1, e2⟩ := whi_is (n := n) (i := 4) (by decide) (by decide) (by show 1073741824 ≤ n ∧ n < 1073741824 + 64; omega)
    rw [e1, e2]
    repeat (first | ((conv => whnf); refine And.intro ?_ ?_; exact sideOf) | ((conv => whnf); refine NilE.some ?_ ?_; exact sideOf) | ((conv => whnf); refine And.intro (fun _ => ?_) (fun h => nomatch (show true = false from h))) | ((conv => whnf); refine And.intro (fun h => nomatch (show false = true from h)) (fun _ => ?_)) | ((conv => whnf); first | (apply Exists.intro; (repeat apply Exists.intro); refine And.intro ?_ ?_; exact leOf) | (refine Or.inl ?_; (conv => whnf); (repeat apply Exists.intro); refine And.intro ?_ ?_; exact leOf) | (refine Or.inr ?_; (conv => whnf); first | ((repeat apply Exists.intro); refine And.intro ?_ ?_; exact leOf) | (refine Or.inl ?_; (conv => whnf); (repeat apply Exists.intro); refine And.intro ?_ ?_; exact leOf) | (refine Or.inr ?_; (conv => whnf); (repeat apply Exists.intro); refine And.intro ?_ ?_; exact leOf))) | ((conv => whnf); first | refine And.intro (by assumption) ?_ | refine goT ?_ | refine goF ?_ | refine goL ?_ | refine goR ?_ | refine goRL ?_ | refine goRR ?_))
    all_goals try (conv => whnf)
    have hs : (a.setWidth 64 - BitVec.ofInt 64 1073741824).toNat = n - 1073741824 := (sub64 (b := 1073741824) (by decide) (by omega)).trans (by rw [hn])
    rw [hs]
    refine And.intro (show n - 1073741824 ≤ 9223372036854775807 by omega) ?_
    repeat (first | ((conv => whnf); refine And.intro ?_ ?_; exact sideOf) | ((conv => whnf); refine NilE.some ?_ ?_; exact sideOf) | ((conv => whnf); refine And.intro (fun _ => ?_) (fun h => nomatch (show true = false from h))) | ((conv => whnf); refine And.intro (fun h => nomatch (show false = true from h)) (fun _ => ?_)) | ((conv => whnf); first | (apply Exists.intro; (repeat apply Exists.intro); refine And.intro ?_ ?_; exact leOf) | (refine Or.inl ?_; (conv => whnf); (repeat apply Exists.intro); refine And.intro ?_ ?_; exact leOf) | (refine Or.inr ?_; (conv => whnf); first | ((repeat apply Exists.intro); refine And.intro ?_ ?_; exact leOf) | (refine Or.inl ?_; (conv => whnf); (repeat apply Exists.intro); refine And.intro ?_ ?_; exact leOf) | (refine Or.inr ?_; (conv => whnf); (repeat apply Exists.intro); refine And.intro ?_ ?_; exact leOf))) | ((conv => whnf); first | refine And.intro (by assumption) ?_ | refine goT ?_ | refine goF ?_ | refine goL ?_ | refine goR ?_ | refine goRL ?_ | refine goRR ?_))
    all_goals try (conv => whnf)
    ((repeat' ((conv => whnf) <;> first | exact trivial | (with_reducible first | refine And.intro ?_ ?_ | refine rows_lt1 ?_ | refine rows_lt2 ?_ ?_ | refine rows_lt3 ?_ ?_ ?_ | refine rows_lt4 ?_ ?_ ?_ ?_ | refine rows_lt5 ?_ ?_ ?_ ?_ ?_ | refine aggs_lt1 ?_ | refine aggs_lt2 ?_ ?_ | refine aggs_lt3 ?_ ?_ ?_ | refine fun (_ : Nat) => ?_) | refine fun (_ : (_ : Nat) < _) => ?_ | exact rfl | exact Nat.le_of_ble_eq_true rfl | (change (_ : Nat) ≤ _; omega) | (change (_ : Nat) = _; omega) | (change (_ : Int) = _; omega))); (all_goals try (conv => whnf)))
  · refine ⟨_, _, fun _ => none, hA, hK, by kernel_rfl, own_res trivial trivial, ?_⟩
    have l1 : BitVec.ofInt 64 536870912 ≤ a.setWidth 64 := ge_yes (b := 536870912) (by decide) (by omega)
    have u1 : ¬ a.setWidth 64 < BitVec.ofInt 64 536875008 := lt_no (b := 536875008) (by decide) (by omega)
    have l2 : BitVec.ofInt 64 536875008 ≤ a.setWidth 64 := ge_yes (b := 536875008) (by decide) (by omega)
    have u2 : ¬ a.setWidth 64 < BitVec.ofInt 64 536879104 := lt_no (b := 536879104) (by decide) (by omega)
    have l3 : BitVec.ofInt 64 268435456 ≤ a.setWidth 64 := ge_yes (b := 268435456) (by decide) (by omega)
    have u3 : ¬ a.setWidth 64 < BitVec.ofInt 64 268445696 := lt_no (b := 268445696) (by decide) (by omega)
    have l4 : BitVec.ofInt 64 1073741824 ≤ a.setWidth 64 := ge_yes (b := 1073741824) (by decide) (by omega)
    have u4 : ¬ a.setWidth 64 < BitVec.ofInt 64 1073741888 := lt_no (b := 1073741888) (by decide) (by omega)
    have l5 : ¬ BitVec.ofInt 64 1610612736 ≤ a.setWidth 64 := ge_no (b := 1610612736) (by decide) (by omega)
    have u5 : a.setWidth 64 < BitVec.ofInt 64 1610612992 := lt_yes (b := 1610612992) (by decide) (by omega)
    obtain ⟨e1, e2⟩ := whi_gap (n := n) (by omega)
    rw [e1, e2]
    repeat (first | ((conv => whnf); refine And.intro ?_ ?_; exact sideOf) | ((conv => whnf); refine NilE.some ?_ ?_; exact sideOf) | ((conv => whnf); refine And.intro (fun _ => ?_) (fun h => nomatch (show true = false from h))) | ((conv => whnf); refine And.intro (fun h => nomatch (show false = true from h)) (fun _ => ?_)) | ((conv => whnf); first | (apply Exists.intro; (repeat apply Exists.intro); refine And.intro ?_ ?_; exact leOf) | (refine Or.inl ?_; (conv => whnf); (repeat apply Exists.intro); refine And.intro ?_ ?_; exact leOf) | (refine Or.inr ?_; (conv => whnf); first | ((repeat apply Exists.intro); refine And.intro ?_ ?_; exact leOf) | (refine Or.inl ?_; (conv => whnf); (repeat apply Exists.intro); refine And.intro ?_ ?_; exact leOf) | (refine Or.inr ?_; (conv => whnf); (repeat apply Exists.intro); refine And.intro ?_ ?_; exact leOf))) | ((conv => whnf); first | refine And.intro (by assumption) ?_ | refine goT ?_ | refine goF ?_ | refine goL ?_ | refine goR ?_ | refine goRL ?_ | refine goRR ?_))
    all_goals try (conv => whnf)
    ((repeat' ((conv => whnf) <;> first | exact trivial | (with_reducible first | refine And.intro ?_ ?_ | refine rows_lt1 ?_ | refine rows_lt2 ?_ ?_ | refine rows_lt3 ?_ ?_ ?_ | refine rows_lt4 ?_ ?_ ?_ ?_ | refine rows_lt5 ?_ ?_ ?_ ?_ ?_ | refine aggs_lt1 ?_ | refine aggs_lt2 ?_ ?_ | refine aggs_lt3 ?_ ?_ ?_ | refine fun (_ : Nat) => ?_) | refine fun (_ : (_ : Nat) < _) => ?_ | exact rfl | exact Nat.le_of_ble_eq_true rfl | (change (_ : Nat) ≤ _; omega) | (change (_ : Nat) = _; omega) | (change (_ : Int) = _; omega))); (all_goals try (conv => whnf)))
  · refine ⟨_, _, fun _ => none, hA, hK, by kernel_rfl, own_res trivial trivial, ?_⟩
    have l1 : BitVec.ofInt 64 536870912 ≤ a.setWidth 64 := ge_yes (b := 536870912) (by decide) (by omega)
    have u1 : ¬ a.setWidth 64 < BitVec.ofInt 64 536875008 := lt_no (b := 536875008) (by decide) (by omega)
    have l2 : BitVec.ofInt 64 536875008 ≤ a.setWidth 64 := ge_yes (b := 536875008) (by decide) (by omega)
    have u2 : ¬ a.setWidth 64 < BitVec.ofInt 64 536879104 := lt_no (b := 536879104) (by decide) (by omega)
    have l3 : BitVec.ofInt 64 268435456 ≤ a.setWidth 64 := ge_yes (b := 268435456) (by decide) (by omega)
    have u3 : ¬ a.setWidth 64 < BitVec.ofInt 64 268445696 := lt_no (b := 268445696) (by decide) (by omega)
    have l4 : BitVec.ofInt 64 1073741824 ≤ a.setWidth 64 := ge_yes (b := 1073741824) (by decide) (by omega)
    have u4 : ¬ a.setWidth 64 < BitVec.ofInt 64 1073741888 := lt_no (b := 1073741888) (by decide) (by omega)
    have l5 : BitVec.ofInt 64 1610612736 ≤ a.setWidth 64 := ge_yes (b := 1610612736) (by decide) (by omega)
    have u5 : a.setWidth 64 < BitVec.ofInt 64 1610612992 := lt_yes (b := 1610612992) (by decide) (by omega)
    obtain ⟨e1, e2⟩ := whi_is (n := n) (i := 5) (by decide) (by decide) (by show 1610612736 ≤ n ∧ n < 1610612736 + 256; omega)
    rw [e1, e2]
    repeat (first | ((conv => whnf); refine And.intro ?_ ?_; exact sideOf) | ((conv => whnf); refine NilE.some ?_ ?_; exact sideOf) | ((conv => whnf); refine And.intro (fun _ => ?_) (fun h => nomatch (show true = false from h))) | ((conv => whnf); refine And.intro (fun h => nomatch (show false = true from h)) (fun _ => ?_)) | ((conv => whnf); first | (apply Exists.intro; (repeat apply Exists.intro); refine And.intro ?_ ?_; exact leOf) | (refine Or.inl ?_; (conv => whnf); (repeat apply Exists.intro); refine And.intro ?_ ?_; exact leOf) | (refine Or.inr ?_; (conv => whnf); first | ((repeat apply Exists.intro); refine And.intro ?_ ?_; exact leOf) | (refine Or.inl ?_; (conv => whnf); (repeat apply Exists.intro); refine And.intro ?_ ?_; exact leOf) | (refine Or.inr ?_; (conv => whnf); (repeat apply Exists.intro); refine And.intro ?_ ?_; exact leOf))) | ((conv => whnf); first | refine And.intro (by assumption) ?_ | refine goT ?_ | refine goF ?_ | refine goL ?_ | refine goR ?_ | refine goRL ?_ | refine goRR ?_))
    all_goals try (conv => whnf)
    have hs : (a.setWidth 64 - BitVec.ofInt 64 1610612736).toNat = n - 1610612736 := (sub64 (b := 1610612736) (by decide) (by omega)).trans (by rw [hn])
    rw [hs]
    refine And.intro (show n - 1610612736 ≤ 9223372036854775807 by omega) ?_
    repeat (first | ((conv => whnf); refine And.intro ?_ ?_; exact sideOf) | ((conv => whnf); refine NilE.some ?_ ?_; exact sideOf) | ((conv => whnf); refine And.intro (fun _ => ?_) (fun h => nomatch (show true = false from h))) | ((conv => whnf); refine And.intro (fun h => nomatch (show false = true from h)) (fun _ => ?_)) | ((conv => whnf); first | (apply Exists.intro; (repeat apply Exists.intro); refine And.intro ?_ ?_; exact leOf) | (refine Or.inl ?_; (conv => whnf); (repeat apply Exists.intro); refine And.intro ?_ ?_; exact leOf) | (refine Or.inr ?_; (conv => whnf); first | ((repeat apply Exists.intro); refine And.intro ?_ ?_; exact leOf) | (refine Or.inl ?_; (conv => whnf); (repeat apply Exists.intro); refine And.intro ?_ ?_; exact leOf) | (refine Or.inr ?_; (conv => whnf); (repeat apply Exists.intro); refine And.intro ?_ ?_; exact leOf))) | ((conv => whnf); first | refine And.intro (by assumption) ?_ | refine goT ?_ | refine goF ?_ | refine goL ?_ | refine goR ?_ | refine goRL ?_ | refine goRR ?_))
    all_goals try (conv => whnf)
    ((repeat' ((conv => whnf) <;> first | exact trivial | (with_reducible first | refine And.intro ?_ ?_ | refine rows_lt1 ?_ | refine rows_lt2 ?_ ?_ | refine rows_lt3 ?_ ?_ ?_ | refine rows_lt4 ?_ ?_ ?_ ?_ | refine rows_lt5 ?_ ?_ ?_ ?_ ?_ | refine aggs_lt1 ?_ | refine aggs_lt2 ?_ ?_ | refine aggs_lt3 ?_ ?_ ?_ | refine fun (_ : Nat) => ?_) | refine fun (_ : (_ : Nat) < _) => ?_ | exact rfl | exact Nat.le_of_ble_eq_true rfl | (change (_ : Nat) ≤ _; omega) | (change (_ : Nat) = _; omega) | (change (_ : Int) = _; omega))); (all_goals try (conv => whnf)))
  · refine ⟨_, _, fun _ => none, hA, hK, by kernel_rfl, own_res trivial trivial, ?_⟩
    have l1 : BitVec.ofInt 64 536870912 ≤ a.setWidth 64 := ge_yes (b := 536870912) (by decide) (by omega)
    have u1 : ¬ a.setWidth 64 < BitVec.ofInt 64 536875008 := lt_no (b := 536875008) (by decide) (by omega)
    have l2 : BitVec.ofInt 64 536875008 ≤ a.setWidth 64 := ge_yes (b := 536875008) (by decide) (by omega)
    have u2 : ¬ a.setWidth 64 < BitVec.ofInt 64 536879104 := lt_no (b := 536879104) (by decide) (by omega)
    have l3 : BitVec.ofInt 64 268435456 ≤ a.setWidth 64 := ge_yes (b := 268435456) (by decide) (by omega)
    have u3 : ¬ a.setWidth 64 < BitVec.ofInt 64 268445696 := lt_no (b := 268445696) (by decide) (by omega)
    have l4 : BitVec.ofInt 64 1073741824 ≤ a.setWidth 64 := ge_yes (b := 1073741824) (by decide) (by omega)
    have u4 : ¬ a.setWidth 64 < BitVec.ofInt 64 1073741888 := lt_no (b := 1073741888) (by decide) (by omega)
    have l5 : BitVec.ofInt 64 1610612736 ≤ a.setWidth 64 := ge_yes (b := 1610612736) (by decide) (by omega)
    have u5 : ¬ a.setWidth 64 < BitVec.ofInt 64 1610612992 := lt_no (b := 1610612992) (by decide) (by omega)
    obtain ⟨e1, e2⟩ := whi_gap (n := n) (by omega)
    rw [e1, e2]
    repeat (first | ((conv => whnf); refine And.intro ?_ ?_; exact sideOf) | ((conv => whnf); refine NilE.some ?_ ?_; exact sideOf) | ((conv => whnf); refine And.intro (fun _ => ?_) (fun h => nomatch (show true = false from h))) | ((conv => whnf); refine And.intro (fun h => nomatch (show false = true from h)) (fun _ => ?_)) | ((conv => whnf); first | (apply Exists.intro; (repeat apply Exists.intro); refine And.intro ?_ ?_; exact leOf) | (refine Or.inl ?_; (conv => whnf); (repeat apply Exists.intro); refine And.intro ?_ ?_; exact leOf) | (refine Or.inr ?_; (conv => whnf); first | ((repeat apply Exists.intro); refine And.intro ?_ ?_; exact leOf) | (refine Or.inl ?_; (conv => whnf); (repeat apply Exists.intro); refine And.intro ?_ ?_; exact leOf) | (refine Or.inr ?_; (conv => whnf); (repeat apply Exists.intro); refine And.intro ?_ ?_; exact leOf))) | ((conv => whnf); first | refine And.intro (by assumption) ?_ | refine goT ?_ | refine goF ?_ | refine goL ?_ | refine goR ?_ | refine goRL ?_ | refine goRR ?_))
    all_goals try (conv => whnf)
    ((repeat' ((conv => whnf) <;> first | exact trivial | (with_reducible first | refine And.intro ?_ ?_ | refine rows_lt1 ?_ | refine rows_lt2 ?_ ?_ | refine rows_lt3 ?_ ?_ ?_ | refine rows_lt4 ?_ ?_ ?_ ?_ | refine rows_lt5 ?_ ?_ ?_ ?_ ?_ | refine aggs_lt1 ?_ | refine aggs_lt2 ?_ ?_ | refine aggs_lt3 ?_ ?_ ?_ | refine fun (_ : Nat) => ?_) | refine fun (_ : (_ : Nat) < _) => ?_ | exact rfl | exact Nat.le_of_ble_eq_true rfl | (change (_ : Nat) ≤ _; omega) | (change (_ : Nat) = _; omega) | (change (_ : Int) = _; omega))); (all_goals try (conv => whnf)))
def C_g_Base : SpecP := fun A K => ∃ z : Int, A [.int z] ∧ (0 ≤ z ∧ z < 6 ∧ K (tupOf [.u32 (BitVec.ofInt 32 (rb z.toNat : Int)), .nat (rs z.toNat)]) ∨ ¬ (0 ≤ z ∧ z < 6) ∧ K (tupOf [.u32 (BitVec.ofInt 32 0), .nat 0]))
theorem g_g_Base : Gd 13 (pureP ty C_g_Base) := by
  refine goodP (E := PG []) (pgOK trivial) mixes Tryd.func13 (by kernel_rfl) (by kernel_rfl) ?_
  rintro A K ⟨z, hA, ⟨h0, h1, hK⟩ | ⟨h, hK⟩⟩
  · refine ⟨_, _, fun _ => none, hA, hK, by kernel_rfl, own_res trivial trivial, ?_⟩
    have h2 : ¬ z < 0 := by omega
    have h3 : ¬ 6 ≤ z := by omega
    have h4 : z.toNat < 6 := by omega
    have h5 := (rb_ok _ h4).2.1
    have h6 : (BitVec.ofInt 32 (rs z.toNat : Int)).toNat = rs z.toNat := by rw [BitVec.ofInt_natCast, BitVec.toNat_ofNat]; omega
    repeat (first | ((conv => whnf); refine And.intro ?_ ?_; exact sideOf) | ((conv => whnf); refine NilE.some ?_ ?_; exact sideOf) | ((conv => whnf); refine And.intro (fun _ => ?_) (fun h => nomatch (show true = false from h))) | ((conv => whnf); refine And.intro (fun h => nomatch (show false = true from h)) (fun _ => ?_)) | ((conv => whnf); first | (apply Exists.intro; (repeat apply Exists.intro); refine And.intro ?_ ?_; exact leOf) | (refine Or.inl ?_; (conv => whnf); (repeat apply Exists.intro); refine And.intro ?_ ?_; exact leOf) | (refine Or.inr ?_; (conv => whnf); first | ((repeat apply Exists.intro); refine And.intro ?_ ?_; exact leOf) | (refine Or.inl ?_; (conv => whnf); (repeat apply Exists.intro); refine And.intro ?_ ?_; exact leOf) | (refine Or.inr ?_; (conv => whnf); (repeat apply Exists.intro); refine And.intro ?_ ?_; exact leOf))) | ((conv => whnf); first | refine And.intro (by assumption) ?_ | refine goT ?_ | refine goF ?_ | refine goL ?_ | refine goR ?_ | refine goRL ?_ | refine goRR ?_))
    all_goals try (conv => whnf)
    ((repeat' ((conv => whnf) <;> first | exact trivial | (with_reducible first | refine And.intro ?_ ?_ | refine rows_lt1 ?_ | refine rows_lt2 ?_ ?_ | refine rows_lt3 ?_ ?_ ?_ | refine rows_lt4 ?_ ?_ ?_ ?_ | refine rows_lt5 ?_ ?_ ?_ ?_ ?_ | refine aggs_lt1 ?_ | refine aggs_lt2 ?_ ?_ | refine aggs_lt3 ?_ ?_ ?_ | refine fun (_ : Nat) => ?_) | refine fun (_ : (_ : Nat) < _) => ?_ | exact rfl | exact Nat.le_of_ble_eq_true rfl | (change (_ : Nat) ≤ _; omega) | (change (_ : Nat) = _; omega) | (change (_ : Int) = _; omega))); (all_goals try (conv => whnf)))
    all_goals exact h6
  · refine ⟨_, _, fun _ => none, hA, hK, by kernel_rfl, own_res trivial trivial, ?_⟩
    rcases Int.lt_or_le z 0 with h0 | h0
    · skip
      repeat (first | ((conv => whnf); refine And.intro ?_ ?_; exact sideOf) | ((conv => whnf); refine NilE.some ?_ ?_; exact sideOf) | ((conv => whnf); refine And.intro (fun _ => ?_) (fun h => nomatch (show true = false from h))) | ((conv => whnf); refine And.intro (fun h => nomatch (show false = true from h)) (fun _ => ?_)) | ((conv => whnf); first | (apply Exists.intro; (repeat apply Exists.intro); refine And.intro ?_ ?_; exact leOf) | (refine Or.inl ?_; (conv => whnf); (repeat apply Exists.intro); refine And.intro ?_ ?_; exact leOf) | (refine Or.inr ?_; (conv => whnf); first | ((repeat apply Exists.intro); refine And.intro ?_ ?_; exact leOf) | (refine Or.inl ?_; (conv => whnf); (repeat apply Exists.intro); refine And.intro ?_ ?_; exact leOf) | (refine Or.inr ?_; (conv => whnf); (repeat apply Exists.intro); refine And.intro ?_ ?_; exact leOf))) | ((conv => whnf); first | refine And.intro (by assumption) ?_ | refine goT ?_ | refine goF ?_ | refine goL ?_ | refine goR ?_ | refine goRL ?_ | refine goRR ?_))
      all_goals try (conv => whnf)
      ((repeat' ((conv => whnf) <;> first | exact trivial | (with_reducible first | refine And.intro ?_ ?_ | refine rows_lt1 ?_ | refine rows_lt2 ?_ ?_ | refine rows_lt3 ?_ ?_ ?_ | refine rows_lt4 ?_ ?_ ?_ ?_ | refine rows_lt5 ?_ ?_ ?_ ?_ ?_ | refine aggs_lt1 ?_ | refine aggs_lt2 ?_ ?_ | refine aggs_lt3 ?_ ?_ ?_ | refine fun (_ : Nat) => ?_) | refine fun (_ : (_ : Nat) < _) => ?_ | exact rfl | exact Nat.le_of_ble_eq_true rfl | (change (_ : Nat) ≤ _; omega) | (change (_ : Nat) = _; omega) | (change (_ : Int) = _; omega))); (all_goals try (conv => whnf)))
    · have h1 : 6 ≤ z := by omega
      repeat (first | ((conv => whnf); refine And.intro ?_ ?_; exact sideOf) | ((conv => whnf); refine NilE.some ?_ ?_; exact sideOf) | ((conv => whnf); refine And.intro (fun _ => ?_) (fun h => nomatch (show true = false from h))) | ((conv => whnf); refine And.intro (fun h => nomatch (show false = true from h)) (fun _ => ?_)) | ((conv => whnf); first | (apply Exists.intro; (repeat apply Exists.intro); refine And.intro ?_ ?_; exact leOf) | (refine Or.inl ?_; (conv => whnf); (repeat apply Exists.intro); refine And.intro ?_ ?_; exact leOf) | (refine Or.inr ?_; (conv => whnf); first | ((repeat apply Exists.intro); refine And.intro ?_ ?_; exact leOf) | (refine Or.inl ?_; (conv => whnf); (repeat apply Exists.intro); refine And.intro ?_ ?_; exact leOf) | (refine Or.inr ?_; (conv => whnf); (repeat apply Exists.intro); refine And.intro ?_ ?_; exact leOf))) | ((conv => whnf); first | refine And.intro (by assumption) ?_ | refine goT ?_ | refine goF ?_ | refine goL ?_ | refine goR ?_ | refine goRL ?_ | refine goRR ?_))
      all_goals try (conv => whnf)
      ((repeat' ((conv => whnf) <;> first | exact trivial | (with_reducible first | refine And.intro ?_ ?_ | refine rows_lt1 ?_ | refine rows_lt2 ?_ ?_ | refine rows_lt3 ?_ ?_ ?_ | refine rows_lt4 ?_ ?_ ?_ ?_ | refine rows_lt5 ?_ ?_ ?_ ?_ ?_ | refine aggs_lt1 ?_ | refine aggs_lt2 ?_ ?_ | refine aggs_lt3 ?_ ?_ ?_ | refine fun (_ : Nat) => ?_) | refine fun (_ : (_ : Nat) < _) => ?_ | exact rfl | exact Nat.le_of_ble_eq_true rfl | (change (_ : Nat) ≤ _; omega) | (change (_ : Nat) = _; omega) | (change (_ : Int) = _; omega))); (all_goals try (conv => whnf)))
def malB (w s z : Int) (wr fe : Bool) : Bool := decide (w < 0 ∨ 3 < w ∨ s < 0 ∨ 2 < s ∨ ¬ (z = 1 ∨ z = 2 ∨ z = 4)) || (wr && fe)
theorem mal_no {w s z : Int} {wr fe : Bool} (h : malB w s z wr fe = false) : (0 ≤ w ∧ w ≤ 3 ∧ 0 ≤ s ∧ s ≤ 2 ∧ (z = 1 ∨ z = 2 ∨ z = 4)) ∧ (wr && fe) = false := by
  unfold malB at h
  rw [Bool.or_eq_false_iff] at h
  have := of_decide_eq_false h.1
  exact ⟨by omega, h.2⟩
def C_g_mal : SpecP := fun A K => ∃ w s a z wr fe, A [acA w s a z wr fe] ∧ K (.bo (malB w s z wr fe))
theorem g_g_mal : Gd 21 (pureP ty C_g_mal) := by
  refine goodP (E := PG []) (pgOK trivial) mixes Tryd.func21 (by kernel_rfl) (by kernel_rfl) ?_
  rintro A K ⟨w, s, a, z, wr, fe, hA, hK⟩
  refine ⟨_, _, fun _ => none, hA, hK, by kernel_rfl, trivial, ?_⟩
  by_cases hw : w < 0
  · have e : malB w s z wr fe = true := by unfold malB; rw [decide_eq_true (.inl hw)]; rfl
    rw [e]
    repeat (first | ((conv => whnf); refine And.intro ?_ ?_; exact sideOf) | ((conv => whnf); refine NilE.some ?_ ?_; exact sideOf) | ((conv => whnf); refine And.intro (fun _ => ?_) (fun h => nomatch (show true = false from h))) | ((conv => whnf); refine And.intro (fun h => nomatch (show false = true from h)) (fun _ => ?_)) | ((conv => whnf); first | (apply Exists.intro; (repeat apply Exists.intro); refine And.intro ?_ ?_; exact leOf) | (refine Or.inl ?_; (conv => whnf); (repeat apply Exists.intro); refine And.intro ?_ ?_; exact leOf) | (refine Or.inr ?_; (conv => whnf); first | ((repeat apply Exists.intro); refine And.intro ?_ ?_; exact leOf) | (refine Or.inl ?_; (conv => whnf); (repeat apply Exists.intro); refine And.intro ?_ ?_; exact leOf) | (refine Or.inr ?_; (conv => whnf); (repeat apply Exists.intro); refine And.intro ?_ ?_; exact leOf))) | ((conv => whnf); first | refine And.intro (by assumption) ?_ | refine goT ?_ | refine goF ?_ | refine goL ?_ | refine goR ?_ | refine goRL ?_ | refine goRR ?_))
    all_goals try (conv => whnf)
    ((repeat' ((conv => whnf) <;> first | exact trivial | (with_reducible first | refine And.intro ?_ ?_ | refine rows_lt1 ?_ | refine rows_lt2 ?_ ?_ | refine rows_lt3 ?_ ?_ ?_ | refine rows_lt4 ?_ ?_ ?_ ?_ | refine rows_lt5 ?_ ?_ ?_ ?_ ?_ | refine aggs_lt1 ?_ | refine aggs_lt2 ?_ ?_ | refine aggs_lt3 ?_ ?_ ?_ | refine fun (_ : Nat) => ?_) | refine fun (_ : (_ : Nat) < _) => ?_ | exact rfl | exact Nat.le_of_ble_eq_true rfl | (change (_ : Nat) ≤ _; omega) | (change (_ : Nat) = _; omega) | (change (_ : Int) = _; omega))); (all_goals try (conv => whnf)))
  by_cases hw3 : 3 < w
  · have e : malB w s z wr fe = true := by unfold malB; rw [decide_eq_true (.inr (.inl hw3))]; rfl
    rw [e]
    repeat (first | ((conv => whnf); refine And.intro ?_ ?_; exact sideOf) | ((conv => whnf); refine NilE.some ?_ ?_; exact sideOf) | ((conv => whnf); refine And.intro (fun _ => ?_) (fun h => nomatch (show true = false from h))) | ((conv => whnf); refine And.intro (fun h => nomatch (show false = true from h)) (fun _ => ?_)) | ((conv => whnf); first | (apply Exists.intro; (repeat apply Exists.intro); refine And.intro ?_ ?_; exact leOf) | (refine Or.inl ?_; (conv => whnf); (repeat apply Exists.intro); refine And.intro ?_ ?_; exact leOf) | (refine Or.inr ?_; (conv => whnf); first | ((repeat apply Exists.intro); refine And.intro ?_ ?_; exact leOf) | (refine Or.inl ?_; (conv => whnf); (repeat apply Exists.intro); refine And.intro ?_ ?_; exact leOf) | (refine Or.inr ?_; (conv => whnf); (repeat apply Exists.intro); refine And.intro ?_ ?_; exact leOf))) | ((conv => whnf); first | refine And.intro (by assumption) ?_ | refine goT ?_ | refine goF ?_ | refine goL ?_ | refine goR ?_ | refine goRL ?_ | refine goRR ?_))
    all_goals try (conv => whnf)
    ((repeat' ((conv => whnf) <;> first | exact trivial | (with_reducible first | refine And.intro ?_ ?_ | refine rows_lt1 ?_ | refine rows_lt2 ?_ ?_ | refine rows_lt3 ?_ ?_ ?_ | refine rows_lt4 ?_ ?_ ?_ ?_ | refine rows_lt5 ?_ ?_ ?_ ?_ ?_ | refine aggs_lt1 ?_ | refine aggs_lt2 ?_ ?_ | refine aggs_lt3 ?_ ?_ ?_ | refine fun (_ : Nat) => ?_) | refine fun (_ : (_ : Nat) < _) => ?_ | exact rfl | exact Nat.le_of_ble_eq_true rfl | (change (_ : Nat) ≤ _; omega) | (change (_ : Nat) = _; omega) | (change (_ : Int) = _; omega))); (all_goals try (conv => whnf)))
  by_cases hs : s < 0
  · have e : malB w s z wr fe = true := by unfold malB; rw [decide_eq_true (.inr (.inr (.inl hs)))]; rfl
    rw [e]
    repeat (first | ((conv => whnf); refine And.intro ?_ ?_; exact sideOf) | ((conv => whnf); refine NilE.some ?_ ?_; exact sideOf) | ((conv => whnf); refine And.intro (fun _ => ?_) (fun h => nomatch (show true = false from h))) | ((conv => whnf); refine And.intro (fun h => nomatch (show false = true from h)) (fun _ => ?_)) | ((conv => whnf); first | (apply Exists.intro; (repeat apply Exists.intro); refine And.intro ?_ ?_; exact leOf) | (refine Or.inl ?_; (conv => whnf); (repeat apply Exists.intro); refine And.intro ?_ ?_; exact leOf) | (refine Or.inr ?_; (conv => whnf); first | ((repeat apply Exists.intro); refine And.intro ?_ ?_; exact leOf) | (refine Or.inl ?_; (conv => whnf); (repeat apply Exists.intro); refine And.intro ?_ ?_; exact leOf) | (refine Or.inr ?_; (conv => whnf); (repeat apply Exists.intro); refine And.intro ?_ ?_; exact leOf))) | ((conv => whnf); first | refine And.intro (by assumption) ?_ | refine goT ?_ | refine goF ?_ | refine goL ?_ | refine goR ?_ | refine goRL ?_ | refine goRR ?_))
    all_goals try (conv => whnf)
    ((repeat' ((conv => whnf) <;> first | exact trivial | (with_reducible first | refine And.intro ?_ ?_ | refine rows_lt1 ?_ | refine rows_lt2 ?_ ?_ | refine rows_lt3 ?_ ?_ ?_ | refine rows_lt4 ?_ ?_ ?_ ?_ | refine rows_lt5 ?_ ?_ ?_ ?_ ?_ | refine aggs_lt1 ?_ | refine aggs_lt2 ?_ ?_ | refine aggs_lt3 ?_ ?_ ?_ | refine fun (_ : Nat) => ?_) | refine fun (_ : (_ : Nat) < _) => ?_ | exact rfl | exact Nat.le_of_ble_eq_true rfl | (change (_ : Nat) ≤ _; omega) | (change (_ : Nat) = _; omega) | (change (_ : Int) = _; omega))); (all_goals try (conv => whnf)))
  by_cases hs2 : 2 < s
  · have e : malB w s z wr fe = true := by unfold malB; rw [decide_eq_true (.inr (.inr (.inr (.inl hs2))))]; rfl
    rw [e]
    repeat (first | ((conv => whnf); refine And.intro ?_ ?_; exact sideOf) | ((conv => whnf); refine NilE.some ?_ ?_; exact sideOf) | ((conv => whnf); refine And.intro (fun _ => ?_) (fun h => nomatch (show true = false from h))) | ((conv => whnf); refine And.intro (fun h => nomatch (show false = true from h)) (fun _ => ?_)) | ((conv => whnf); first | (apply Exists.intro; (repeat apply Exists.intro); refine And.intro ?_ ?_; exact leOf) | (refine Or.inl ?_; (conv => whnf); (repeat apply Exists.intro); refine And.intro ?_ ?_; exact leOf) | (refine Or.inr ?_; (conv => whnf); first | ((repeat apply Exists.intro); refine And.intro ?_ ?_; exact leOf) | (refine Or.inl ?_; (conv => whnf); (repeat apply Exists.intro); refine And.intro ?_ ?_; exact leOf) | (refine Or.inr ?_; (conv => whnf); (repeat apply Exists.intro); refine And.intro ?_ ?_; exact leOf))) | ((conv => whnf); first | refine And.intro (by assumption) ?_ | refine goT ?_ | refine goF ?_ | refine goL ?_ | refine goR ?_ | refine goRL ?_ | refine goRR ?_))
    all_goals try (conv => whnf)
    ((repeat' ((conv => whnf) <;> first | exact trivial | (with_reducible first | refine And.intro ?_ ?_ | refine rows_lt1 ?_ | refine rows_lt2 ?_ ?_ | refine rows_lt3 ?_ ?_ ?_ | refine rows_lt4 ?_ ?_ ?_ ?_ | refine rows_lt5 ?_ ?_ ?_ ?_ ?_ | refine aggs_lt1 ?_ | refine aggs_lt2 ?_ ?_ | refine aggs_lt3 ?_ ?_ ?_ | refine fun (_ : Nat) => ?_) | refine fun (_ : (_ : Nat) < _) => ?_ | exact rfl | exact Nat.le_of_ble_eq_true rfl | (change (_ : Nat) ≤ _; omega) | (change (_ : Nat) = _; omega) | (change (_ : Int) = _; omega))); (all_goals try (conv => whnf)))
  by_cases hz : z = 1 ∨ z = 2 ∨ z = 4
  · have e : malB w s z wr fe = (wr && fe) := by unfold malB; rw [decide_eq_false (by omega)]; rfl
    rw [e]
    rcases hz with rfl | rfl | rfl <;> cases wr
    all_goals (
      repeat (first | ((conv => whnf); refine And.intro ?_ ?_; exact sideOf) | ((conv => whnf); refine NilE.some ?_ ?_; exact sideOf) | ((conv => whnf); refine And.intro (fun _ => ?_) (fun h => nomatch (show true = false from h))) | ((conv => whnf); refine And.intro (fun h => nomatch (show false = true from h)) (fun _ => ?_)) | ((conv => whnf); first | (apply Exists.intro; (repeat apply Exists.intro); refine And.intro ?_ ?_; exact leOf) | (refine Or.inl ?_; (conv => whnf); (repeat apply Exists.intro); refine And.intro ?_ ?_; exact leOf) | (refine Or.inr ?_; (conv => whnf); first | ((repeat apply Exists.intro); refine And.intro ?_ ?_; exact leOf) | (refine Or.inl ?_; (conv => whnf); (repeat apply Exists.intro); refine And.intro ?_ ?_; exact leOf) | (refine Or.inr ?_; (conv => whnf); (repeat apply Exists.intro); refine And.intro ?_ ?_; exact leOf))) | ((conv => whnf); first | refine And.intro (by assumption) ?_ | refine goT ?_ | refine goF ?_ | refine goL ?_ | refine goR ?_ | refine goRL ?_ | refine goRR ?_))
      all_goals try (conv => whnf)
      ((repeat' ((conv => whnf) <;> first | exact trivial | (with_reducible first | refine And.intro ?_ ?_ | refine rows_lt1 ?_ | refine rows_lt2 ?_ ?_ | refine rows_lt3 ?_ ?_ ?_ | refine rows_lt4 ?_ ?_ ?_ ?_ | refine rows_lt5 ?_ ?_ ?_ ?_ ?_ | refine aggs_lt1 ?_ | refine aggs_lt2 ?_ ?_ | refine aggs_lt3 ?_ ?_ ?_ | refine fun (_ : Nat) => ?_) | refine fun (_ : (_ : Nat) < _) => ?_ | exact rfl | exact Nat.le_of_ble_eq_true rfl | (change (_ : Nat) ≤ _; omega) | (change (_ : Nat) = _; omega) | (change (_ : Int) = _; omega))); (all_goals try (conv => whnf))))
  · have e : malB w s z wr fe = true := by unfold malB; rw [decide_eq_true (.inr (.inr (.inr (.inr hz))))]; rfl
    rw [e]
    have z1 : ¬ z = 1 := by omega
    have z2 : ¬ z = 2 := by omega
    have z4 : ¬ z = 4 := by omega
    repeat (first | ((conv => whnf); refine And.intro ?_ ?_; exact sideOf) | ((conv => whnf); refine NilE.some ?_ ?_; exact sideOf) | ((conv => whnf); refine And.intro (fun _ => ?_) (fun h => nomatch (show true = false from h))) | ((conv => whnf); refine And.intro (fun h => nomatch (show false = true from h)) (fun _ => ?_)) | ((conv => whnf); first | (apply Exists.intro; (repeat apply Exists.intro); refine And.intro ?_ ?_; exact leOf) | (refine Or.inl ?_; (conv => whnf); (repeat apply Exists.intro); refine And.intro ?_ ?_; exact leOf) | (refine Or.inr ?_; (conv => whnf); first | ((repeat apply Exists.intro); refine And.intro ?_ ?_; exact leOf) | (refine Or.inl ?_; (conv => whnf); (repeat apply Exists.intro); refine And.intro ?_ ?_; exact leOf) | (refine Or.inr ?_; (conv => whnf); (repeat apply Exists.intro); refine And.intro ?_ ?_; exact leOf))) | ((conv => whnf); first | refine And.intro (by assumption) ?_ | refine goT ?_ | refine goF ?_ | refine goL ?_ | refine goR ?_ | refine goRL ?_ | refine goRR ?_))
    all_goals try (conv => whnf)
    ((repeat' ((conv => whnf) <;> first | exact trivial | (with_reducible first | refine And.intro ?_ ?_ | refine rows_lt1 ?_ | refine rows_lt2 ?_ ?_ | refine rows_lt3 ?_ ?_ ?_ | refine rows_lt4 ?_ ?_ ?_ ?_ | refine rows_lt5 ?_ ?_ ?_ ?_ ?_ | refine aggs_lt1 ?_ | refine aggs_lt2 ?_ ?_ | refine aggs_lt3 ?_ ?_ ?_ | refine fun (_ : Nat) => ?_) | refine fun (_ : (_ : Nat) < _) => ?_ | exact rfl | exact Nat.le_of_ble_eq_true rfl | (change (_ : Nat) ≤ _; omega) | (change (_ : Nat) = _; omega) | (change (_ : Int) = _; omega))); (all_goals try (conv => whnf)))
end Go.Proofs.YtbpkmlakfdaooaaDoor
