/- The port: PortFull. -/
import Derived.Test.YtahiclllpaplgaaPG
namespace Go.Proofs.Ytahiclllpaplgaa
open Go.RowKit
set_option maxRecDepth 100000
set_option maxHeartbeats 20000000
attribute [local irreducible] numN bytN alN
theorem num_i (i : Nat) (hi : i < 65536) (F : Nat → BitVec 8) (h0 : F 0 = BitVec.ofNat 8 i) (h1 : F 1 = BitVec.ofNat 8 (i / 256)) (h2 : F 2 = 0) (h3 : F 3 = 0) : numN F 4 = BitVec.ofNat 32 i := by
  apply BitVec.eq_of_toNat_eq
  have l4 : lvN F 4 = (F 0).toNat + (F 1).toNat * 256 + (F 2).toNat * 65536 + (F 3).toNat * 16777216 := by
    simp only [lvN, Nat.reduceMul, Nat.reducePow, Nat.mul_one, Nat.zero_add]
  rw [numN_nat F 4 (Nat.le_refl 4), l4, h0, h1, h2, h3, BitVec.toNat_ofNat, BitVec.toNat_ofNat, BitVec.toNat_ofNat]
  show i % 256 + i / 256 % 256 * 256 + 0 * 65536 + 0 * 16777216 = i % 4294967296
  omega
def L_PF6 (N : Nat) : LI := ⟨Nat, (· ≤ N), fun i => [(3, .ptr TPo 2056 []), (4, .nat N), (16, .nat N), (17, .nat i)],
  fun i => poR 2056 4003 4004 0 (min i 4096) (fun x => BitVec.ofNat 8 x) (min i 4096) (fun x => BitVec.ofNat 32 x), fun i => N - i, fun k => bif Nat.ble 4001 k then none else some k, some⟩
def C_l21_PortFull : SpecP := fun A K => ∃ more : BitVec 8, A [.u8 more] ∧ K (.bo true)
theorem g_l21_PortFull : Gd 6 (pureP ty C_l21_PortFull) := by
  refine goodP (E := PG [(7, pureP ty C_l21_awake), (8, pureR ty C_po_New), (10, mutD ty [true, false, false, false] C_po_Wrote), (12, pureP ty C_po_Messages), (14, pureP ty C_po_Out)]) (pgOK ⟨g_l21_awake, g_po_New, g_po_Wrote, g_po_Messages, g_po_Out, trivial⟩) mixes Try.func6 (by kernel_rfl) (by kernel_rfl) ?_
  rintro A K ⟨more, hA, hK⟩
  have hc : (more % BitVec.ofInt 8 5).toNat < 5 := by
    rw [BitVec.toNat_umod]; exact Nat.mod_lt _ (by decide)
  obtain ⟨c, ec⟩ : ∃ c, c = (more % BitVec.ofInt 8 5).toNat := ⟨_, rfl⟩
  rw [← ec] at hc
  refine ⟨_, _, loops [(6, L_PF6 (4094 + c))], hA, hK, by kernel_rfl, trivial, ?_⟩
  repeat ((conv => whnf); first | refine sdO ?_ | refine nlO ?_ | refine goA ?_ | refine goB ?_ | (apply Exists.intro; (repeat apply Exists.intro); refine caO ?_) | (refine Or.inl ?_; (conv => whnf); (repeat apply Exists.intro); refine caO ?_) | (refine Or.inr ?_; (conv => whnf); first | ((repeat apply Exists.intro); refine caO ?_) | (refine Or.inl ?_; (conv => whnf); (repeat apply Exists.intro); refine caO ?_) | (refine Or.inr ?_; (conv => whnf); (repeat apply Exists.intro); refine caO ?_)) | refine And.intro (by assumption) ?_ | refine goT ?_ | refine goF ?_ | refine goL ?_ | refine goR ?_ | refine goRL ?_ | refine goRR ?_)
  all_goals try (conv => whnf)
  refine Exists.intro (fun _ => True) (And.intro (Enter.mk (0 : Nat) (Nat.zero_le _) trivial ?_) (fun (i : Nat) (hi : i ≤ 4094 + c) _ => ?_))
  · ((repeat' ((conv => whnf) <;> first | exact trivial | (with_reducible first | refine And.intro ?_ ?_ | refine rows_lt1 ?_ | refine rows_lt2 ?_ ?_ | refine rows_lt3 ?_ ?_ ?_ | refine rows_lt4 ?_ ?_ ?_ ?_ | refine rows_lt5 ?_ ?_ ?_ ?_ ?_ | refine aggs_lt1 ?_ | refine aggs_lt2 ?_ ?_ | refine aggs_lt3 ?_ ?_ ?_ | refine fun (_ : Nat) => ?_) | refine fun (_ : (_ : Nat) < _) => ?_ | exact rfl | exact Nat.le_of_ble_eq_true rfl | (change (_ : Nat) ≤ _; omega) | (change (_ : Nat) = _; omega) | (change (_ : Int) = _; omega))); (all_goals try (conv => whnf)))
    all_goals (rw [ec])
  rcases Nat.lt_or_ge i (4094 + c) with h | h
  · rcases Nat.lt_or_ge i 4096 with h2 | h2
    · have hm : min i 4096 = i := Nat.min_eq_left (by omega)
      have c1 : ((Int.toNat 1 : Nat) : Int) = 1 ∧ OutAt ((Int.toNat 0 : Nat) : Int) 1 ∧ min i 4096 < 4096 := ⟨rfl, ⟨by decide, by decide⟩, by omega⟩
      have c2 : ((Int.toNat 1 : Nat) : Int) = 1 ∧ MsgAt ((Int.toNat 8 : Nat) : Int) 4 ∧ min i 4096 < 4096 := ⟨rfl, ⟨rfl, rfl⟩, by omega⟩
      have hm2 : min (i + 1) 4096 = min i 4096 + 1 := by omega
      repeat ((conv => whnf); first | refine sdO ?_ | refine nlO ?_ | refine goA ?_ | refine goB ?_ | (apply Exists.intro; (repeat apply Exists.intro); refine caO ?_) | (refine Or.inl ?_; (conv => whnf); (repeat apply Exists.intro); refine caO ?_) | (refine Or.inr ?_; (conv => whnf); first | ((repeat apply Exists.intro); refine caO ?_) | (refine Or.inl ?_; (conv => whnf); (repeat apply Exists.intro); refine caO ?_) | (refine Or.inr ?_; (conv => whnf); (repeat apply Exists.intro); refine caO ?_)) | refine And.intro (by assumption) ?_ | refine goT ?_ | refine goF ?_ | refine goL ?_ | refine goR ?_ | refine goRL ?_ | refine goRR ?_)
      all_goals try (conv => whnf)
      refine Again.mk (i + 1 : Nat) h trivial (show 4094 + c - (i + 1) < 4094 + c - i by omega) ?_
      ((repeat' ((conv => whnf) <;> first | exact trivial | (with_reducible first | refine And.intro ?_ ?_ | refine rows_lt1 ?_ | refine rows_lt2 ?_ ?_ | refine rows_lt3 ?_ ?_ ?_ | refine rows_lt4 ?_ ?_ ?_ ?_ | refine rows_lt5 ?_ ?_ ?_ ?_ ?_ | refine aggs_lt1 ?_ | refine aggs_lt2 ?_ ?_ | refine aggs_lt3 ?_ ?_ ?_ | refine fun (_ : Nat) => ?_) | refine fun (_ : (_ : Nat) < _) => ?_ | exact rfl | exact Nat.le_of_ble_eq_true rfl | (change (_ : Nat) ≤ _; omega) | (change (_ : Nat) = _; omega) | (change (_ : Int) = _; omega))); (all_goals try (conv => whnf)))
      · rename_i x hx
        by_cases e : x < min i 4096
        · exact snB_lt e
        · have hx : x < min i 4096 + 1 := hx
          have hx2 : x = min i 4096 := by omega
          rw [hx2]
          refine snB_eq.trans ?_
          show BitVec.ofNat 8 i = BitVec.ofNat 8 (min i 4096)
          rw [hm]
      · rename_i x hx
        by_cases e : x < min i 4096
        · exact snW_lt e
        · have hx : x < min i 4096 + 1 := hx
          have hx2 : x = min i 4096 := by omega
          rw [hx2]
          refine snW_eq.trans ?_
          show numN _ 4 = BitVec.ofNat 32 (min i 4096)
          rw [hm]
          exact num_i i (by omega) _ rfl rfl rfl rfl
    · have c1 : ¬ ((Int.toNat 1 : Nat) : Int) = 1 ∨ (¬ OutAt ((Int.toNat 0 : Nat) : Int) 1 ∨ ¬ min i 4096 < 4096) ∧ (¬ MsgAt ((Int.toNat 0 : Nat) : Int) 1 ∨ ¬ min i 4096 < 4096) := .inr ⟨.inr (by omega), .inr (by omega)⟩
      have c2 : ¬ ((Int.toNat 1 : Nat) : Int) = 1 ∨ (¬ OutAt ((Int.toNat 8 : Nat) : Int) 4 ∨ ¬ min i 4096 < 4096) ∧ (¬ MsgAt ((Int.toNat 8 : Nat) : Int) 4 ∨ ¬ min i 4096 < 4096) := .inr ⟨.inr (by omega), .inr (by omega)⟩
      have hm2 : min (i + 1) 4096 = min i 4096 := by omega
      repeat ((conv => whnf); first | refine sdO ?_ | refine nlO ?_ | refine goA ?_ | refine goB ?_ | (apply Exists.intro; (repeat apply Exists.intro); refine caO ?_) | (refine Or.inl ?_; (conv => whnf); (repeat apply Exists.intro); refine caO ?_) | (refine Or.inr ?_; (conv => whnf); first | ((repeat apply Exists.intro); refine caO ?_) | (refine Or.inl ?_; (conv => whnf); (repeat apply Exists.intro); refine caO ?_) | (refine Or.inr ?_; (conv => whnf); (repeat apply Exists.intro); refine caO ?_)) | refine And.intro (by assumption) ?_ | refine goT ?_ | refine goF ?_ | refine goL ?_ | refine goR ?_ | refine goRL ?_ | refine goRR ?_)
      all_goals try (conv => whnf)
      refine Again.mk (i + 1 : Nat) h trivial (show 4094 + c - (i + 1) < 4094 + c - i by omega) ?_
      ((repeat' ((conv => whnf) <;> first | exact trivial | (with_reducible first | refine And.intro ?_ ?_ | refine rows_lt1 ?_ | refine rows_lt2 ?_ ?_ | refine rows_lt3 ?_ ?_ ?_ | refine rows_lt4 ?_ ?_ ?_ ?_ | refine rows_lt5 ?_ ?_ ?_ ?_ ?_ | refine aggs_lt1 ?_ | refine aggs_lt2 ?_ ?_ | refine aggs_lt3 ?_ ?_ ?_ | refine fun (_ : Nat) => ?_) | refine fun (_ : (_ : Nat) < _) => ?_ | exact rfl | exact Nat.le_of_ble_eq_true rfl | (change (_ : Nat) ≤ _; omega) | (change (_ : Nat) = _; omega) | (change (_ : Int) = _; omega))); (all_goals try (conv => whnf)))
  · obtain rfl : i = 4094 + c := by omega
    have hk : ((((min (4094 + c) 4096 : Nat) : Int) - 1).toNat : Int) = ((min (4094 + c) 4096 : Nat) : Int) - 1 := by omega
    have hk2 : (((min (4094 + c) 4096 : Nat) : Int) - 1).toNat < min (4094 + c) 4096 := by omega
    have e1 : BitVec.ofNat 8 (((min (4094 + c) 4096 : Nat) : Int) - 1).toNat = BitVec.ofInt 8 (((min (4094 + c) 4096 : Nat) : Int) - 1) := by rw [← BitVec.ofInt_natCast, hk]
    have e2 : BitVec.ofNat 32 (((min (4094 + c) 4096 : Nat) : Int) - 1).toNat = BitVec.ofInt 32 (((min (4094 + c) 4096 : Nat) : Int) - 1) := by rw [← BitVec.ofInt_natCast, hk]
    repeat ((conv => whnf); first | refine sdO ?_ | refine nlO ?_ | refine goA ?_ | refine goB ?_ | (apply Exists.intro; (repeat apply Exists.intro); refine caO ?_) | (refine Or.inl ?_; (conv => whnf); (repeat apply Exists.intro); refine caO ?_) | (refine Or.inr ?_; (conv => whnf); first | ((repeat apply Exists.intro); refine caO ?_) | (refine Or.inl ?_; (conv => whnf); (repeat apply Exists.intro); refine caO ?_) | (refine Or.inr ?_; (conv => whnf); (repeat apply Exists.intro); refine caO ?_)) | refine And.intro (by assumption) ?_ | refine goT ?_ | refine goF ?_ | refine goL ?_ | refine goR ?_ | refine goRL ?_ | refine goRR ?_)
    all_goals try (conv => whnf)
    ((repeat' ((conv => whnf) <;> first | exact trivial | (with_reducible first | refine And.intro ?_ ?_ | refine rows_lt1 ?_ | refine rows_lt2 ?_ ?_ | refine rows_lt3 ?_ ?_ ?_ | refine rows_lt4 ?_ ?_ ?_ ?_ | refine rows_lt5 ?_ ?_ ?_ ?_ ?_ | refine aggs_lt1 ?_ | refine aggs_lt2 ?_ ?_ | refine aggs_lt3 ?_ ?_ ?_ | refine fun (_ : Nat) => ?_) | refine fun (_ : (_ : Nat) < _) => ?_ | exact rfl | exact Nat.le_of_ble_eq_true rfl | (change (_ : Nat) ≤ _; omega) | (change (_ : Nat) = _; omega) | (change (_ : Int) = _; omega))); (all_goals try (conv => whnf)))
    exact decide_eq_true e2
end Go.Proofs.Ytahiclllpaplgaa
