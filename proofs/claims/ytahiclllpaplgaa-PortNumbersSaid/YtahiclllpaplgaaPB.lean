/- The port: PortNumbers, PortTicks. -/
import Derived.Test.YtahiclllpaplgaaPA
namespace Go.Proofs.Ytahiclllpaplgaa
open Go.RowKit
set_option maxRecDepth 100000
set_option maxHeartbeats 20000000
attribute [local irreducible] numN bytN alN
/-- The number of the bytes from a place up to another, from above. -/
def hiN (b : Nat → BitVec 8) (n : Nat) : Nat → Nat
  | 0 => 0
  | k + 1 => 256 * hiN b n k + (b (n - 1 - k)).toNat
theorem hi_lv (b : Nat → BitVec 8) (n : Nat) (hn : n ≤ 4) : hiN b n n = lvN b n := by
  rcases (show n = 0 ∨ n = 1 ∨ n = 2 ∨ n = 3 ∨ n = 4 by omega) with rfl | rfl | rfl | rfl | rfl
  · rfl
  all_goals (simp only [hiN, lvN, Nat.sub_self]; simp only [Nat.reduceSub, Nat.reduceMul, Nat.reducePow]; omega)
theorem hi_lt (b : Nat → BitVec 8) (n : Nat) : ∀ k, hiN b n k < 2 ^ (8 * k)
  | 0 => Nat.one_pos
  | k + 1 => by
    have h := hi_lt b n k
    have hb := (b (n - 1 - k)).isLt
    have e : 2 ^ (8 * (k + 1)) = 256 * 2 ^ (8 * k) := by rw [Nat.mul_add, Nat.pow_add]; exact Nat.mul_comm _ _
    rw [e]
    unfold hiN
    omega
theorem hi_num (b : Nat → BitVec 8) (n : Nat) (hn : n ≤ 4) : BitVec.ofNat 32 (hiN b n n) = numN b n := by
  apply BitVec.eq_of_toNat_eq
  have h := hi_lt b n n
  have hp : 2 ^ (8 * n) ≤ 2 ^ 32 := Nat.pow_le_pow_right (by decide) (by omega)
  rw [numN_nat b n hn, BitVec.toNat_ofNat, Nat.mod_eq_of_lt (by omega), hi_lv b n hn]
theorem hi_step (b : Nat → BitVec 8) (n k : Nat) : BitVec.ofInt 32 256 * BitVec.ofNat 32 (hiN b n k) + (b (n - 1 - k)).setWidth 32 = BitVec.ofNat 32 (hiN b n (k + 1)) := by
  apply BitVec.eq_of_toNat_eq
  have hb := (b (n - 1 - k)).isLt
  rw [BitVec.toNat_add, BitVec.toNat_mul, BitVec.toNat_ofNat, BitVec.toNat_ofNat, BitVec.toNat_setWidth, show (BitVec.ofInt 32 256).toNat = 256 from rfl, Nat.mod_eq_of_lt (show (b (n - 1 - k)).toNat < 2 ^ 32 by omega)]
  show _ = (256 * hiN b n k + (b (n - 1 - k)).toNat) % 2 ^ 32
  rw [Nat.mul_mod_mod, Nat.mod_add_mod]
def L_l21_N (n : BitVec 32) (l : Nat) (b : Nat → BitVec 8) (who at' : Int) (l0 : Nat) (b0 : Nat → BitVec 8) : LI := ⟨Nat, (· ≤ min l 4), fun k => [(0, .u32 n), (1, .gsl 5 2064 l), (2, .int who), (3, .int at'), (9, .u32 (BitVec.ofNat 32 (hiN b (min l 4) k))), (10, .int (((min l 4 : Nat) : Int) - 1 - (k : Int)))], fun _ => [(2064, .grow 5 l (bys b))], fun k => min l 4 - k, some, some⟩
def C_l21_PortNumbers : SpecP := fun A K => ∃ (n : BitVec 32) (l : Nat) (b : Nat → BitVec 8) (who at' : Int), A [.u32 n, bsl l b, .int who, .int at'] ∧ l ≤ maxLen ∧ K (.bo true)
theorem g_l21_PortNumbers : Gd 5 (pureP ty C_l21_PortNumbers) := by
  refine goodP (E := PG [(7, pureP ty C_l21_awake), (9, pureR ty C_r1_Cut), (17, pureP ty C_po_Bytes), (10, pureP ty C_po_Wrote_n), (15, pureP ty C_po_Reset_n), (19, pureP ty C_po_Number), (18, pureP ty C_po_TickN), (14, pureP ty C_po_nils), (12, pureP ty C_po_nils), (16, pureP ty C_po_Time_n)]) (pgOK ⟨g_l21_awake, g_r1_Cut, g_po_Bytes, g_po_Wrote_n, g_po_Reset_n, g_po_Number, g_po_TickN, g_po_Out_n, g_po_Messages_n, g_po_Time_n, trivial⟩) mixes Try.func5 (by kernel_rfl) (by kernel_rfl) ?_
  rintro A K ⟨n, l, b, who, at', hA, hl, hK⟩
  refine ⟨_, _, loops [(6, L_l21_N n (min l 10) b who at' l b)], hA, hK, by kernel_rfl, trivial, ?_⟩
  have hmx : maxLen = 9223372036854775807 := by decide
  repeat ((conv => whnf); first | refine sdO ?_ | refine nlO ?_ | refine goA ?_ | refine goB ?_ | (apply Exists.intro; (repeat apply Exists.intro); refine caO ?_) | (refine Or.inl ?_; (conv => whnf); (repeat apply Exists.intro); refine caO ?_) | (refine Or.inr ?_; (conv => whnf); first | ((repeat apply Exists.intro); refine caO ?_) | (refine Or.inl ?_; (conv => whnf); (repeat apply Exists.intro); refine caO ?_) | (refine Or.inr ?_; (conv => whnf); (repeat apply Exists.intro); refine caO ?_)) | refine And.intro (by assumption) ?_ | refine goT ?_ | refine goF ?_ | refine goL ?_ | refine goR ?_ | refine goRL ?_ | refine goRR ?_)
  all_goals try (conv => whnf)
  refine Exists.intro (fun _ => True) (And.intro (Enter.mk (0 : Nat) (Nat.zero_le _) trivial ?_) (fun (k : Nat) (hk : k ≤ min (min l 10) 4) _ => ?_))
  · ((repeat' ((conv => whnf) <;> first | exact trivial | (with_reducible first | refine And.intro ?_ ?_ | refine rows_lt1 ?_ | refine rows_lt2 ?_ ?_ | refine rows_lt3 ?_ ?_ ?_ | refine rows_lt4 ?_ ?_ ?_ ?_ | refine rows_lt5 ?_ ?_ ?_ ?_ ?_ | refine aggs_lt1 ?_ | refine aggs_lt2 ?_ ?_ | refine aggs_lt3 ?_ ?_ ?_ | refine fun (_ : Nat) => ?_) | refine fun (_ : (_ : Nat) < _) => ?_ | exact rfl | exact Nat.le_of_ble_eq_true rfl | (change (_ : Nat) ≤ _; omega) | (change (_ : Nat) = _; omega) | (change (_ : Int) = _; omega))); (all_goals try (conv => whnf)))
  rcases Nat.lt_or_ge k (min (min l 10) 4) with h | h
  · have h0 : 0 ≤ (((min (min l 10) 4 : Nat) : Int) - 1 - (k : Int)) := by omega
    have hi : (((min (min l 10) 4 : Nat) : Int) - 1 - (k : Int)).toNat = min (min l 10) 4 - 1 - k := by omega
    have hi2 : (((min (min l 10) 4 : Nat) : Int) - 1 - (k : Int)).toNat < min l 10 := by omega
    repeat ((conv => whnf); first | refine sdO ?_ | refine nlO ?_ | refine goA ?_ | refine goB ?_ | (apply Exists.intro; (repeat apply Exists.intro); refine caO ?_) | (refine Or.inl ?_; (conv => whnf); (repeat apply Exists.intro); refine caO ?_) | (refine Or.inr ?_; (conv => whnf); first | ((repeat apply Exists.intro); refine caO ?_) | (refine Or.inl ?_; (conv => whnf); (repeat apply Exists.intro); refine caO ?_) | (refine Or.inr ?_; (conv => whnf); (repeat apply Exists.intro); refine caO ?_)) | refine And.intro (by assumption) ?_ | refine goT ?_ | refine goF ?_ | refine goL ?_ | refine goR ?_ | refine goRL ?_ | refine goRR ?_)
    all_goals try (conv => whnf)
    refine Again.mk (k + 1 : Nat) h trivial (show min (min l 10) 4 - (k + 1) < min (min l 10) 4 - k by omega) ?_
    ((repeat' ((conv => whnf) <;> first | exact trivial | (with_reducible first | refine And.intro ?_ ?_ | refine rows_lt1 ?_ | refine rows_lt2 ?_ ?_ | refine rows_lt3 ?_ ?_ ?_ | refine rows_lt4 ?_ ?_ ?_ ?_ | refine rows_lt5 ?_ ?_ ?_ ?_ ?_ | refine aggs_lt1 ?_ | refine aggs_lt2 ?_ ?_ | refine aggs_lt3 ?_ ?_ ?_ | refine fun (_ : Nat) => ?_) | refine fun (_ : (_ : Nat) < _) => ?_ | exact rfl | exact Nat.le_of_ble_eq_true rfl | (change (_ : Nat) ≤ _; omega) | (change (_ : Nat) = _; omega) | (change (_ : Int) = _; omega))); (all_goals try (conv => whnf)))
    · rw [hi]; exact hi_step b _ k
  · obtain rfl : k = min (min l 10) 4 := by omega
    have h0 : ¬ 0 ≤ (((min (min l 10) 4 : Nat) : Int) - 1 - ((min (min l 10) 4 : Nat) : Int)) := by omega
    have e1 := num_byt n
    have e2 := (hi_num b (min (min l 10) 4) (by omega)).symm
    repeat ((conv => whnf); first | refine sdO ?_ | refine nlO ?_ | refine goA ?_ | refine goB ?_ | (apply Exists.intro; (repeat apply Exists.intro); refine caO ?_) | (refine Or.inl ?_; (conv => whnf); (repeat apply Exists.intro); refine caO ?_) | (refine Or.inr ?_; (conv => whnf); first | ((repeat apply Exists.intro); refine caO ?_) | (refine Or.inl ?_; (conv => whnf); (repeat apply Exists.intro); refine caO ?_) | (refine Or.inr ?_; (conv => whnf); (repeat apply Exists.intro); refine caO ?_)) | refine And.intro (by assumption) ?_ | refine goT ?_ | refine goF ?_ | refine goL ?_ | refine goR ?_ | refine goRL ?_ | refine goRR ?_)
    all_goals try (conv => whnf)
    ((repeat' ((conv => whnf) <;> first | exact trivial | (with_reducible first | refine And.intro ?_ ?_ | refine rows_lt1 ?_ | refine rows_lt2 ?_ ?_ | refine rows_lt3 ?_ ?_ ?_ | refine rows_lt4 ?_ ?_ ?_ ?_ | refine rows_lt5 ?_ ?_ ?_ ?_ ?_ | refine aggs_lt1 ?_ | refine aggs_lt2 ?_ ?_ | refine aggs_lt3 ?_ ?_ ?_ | refine fun (_ : Nat) => ?_) | refine fun (_ : (_ : Nat) < _) => ?_ | exact rfl | exact Nat.le_of_ble_eq_true rfl | (change (_ : Nat) ≤ _; omega) | (change (_ : Nat) = _; omega) | (change (_ : Int) = _; omega))); (all_goals try (conv => whnf)))
end Go.Proofs.Ytahiclllpaplgaa
