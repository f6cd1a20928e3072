/- The port: PortTicks. -/
import Derived.Test.YtahiclllpaplgaaPA
namespace Go.Proofs.Ytahiclllpaplgaa
open Go.RowKit
set_option maxRecDepth 100000
set_option maxHeartbeats 20000000
attribute [local irreducible] numN bytN alN
def setA (r : Nat → BitVec 8) (a : BitVec 32) (k : Nat) (j : Nat) : BitVec 8 := if 12 ≤ j ∧ j < 12 + k then bytN a (j - 12) else r j
theorem setA_step (r : Nat → BitVec 8) (a : BitVec 32) (k j : Nat) : (if j = 12 + k then bytN a k else setA r a k j) = setA r a (k + 1) j := by
  unfold setA
  by_cases e : j = 12 + k
  · subst e
    rw [if_pos rfl, if_pos (by omega), Nat.add_sub_cancel_left]
  · rw [if_neg e]
    by_cases h : 12 ≤ j ∧ j < 12 + k
    · rw [if_pos h, if_pos (by omega)]
    · rw [if_neg h, if_neg (by omega)]
structure PTk where
  i : Nat
  r : Nat → BitVec 8
def L_T7 (n : BitVec 8) (r : Nat → BitVec 8) (a : BitVec 32) : LI := ⟨Nat, fun _ => True, fun _ => [(1, .u8 n), (4, .ptr TRg 8 []), (9, .ptr TPo 2056 []), (10, .u32 a)], fun _ => [(8, .var TRg (arr8 64 r)), (2056, .var TPo (poA 0 .nils .nils))], fun _ => 0, some, some⟩
def L_T8 (n : BitVec 8) (r : Nat → BitVec 8) (a : BitVec 32) : LI := ⟨Nat, (· ≤ 4), fun k => [(1, .u8 n), (4, .ptr TRg 8 []), (9, .ptr TPo 2056 []), (10, .u32 a), (25, bsl 4 (bytN a)), (26, .nat 4), (27, .nat k)], fun k => [(8, .var TRg (arr8 64 (setA r a k))), (2056, .var TPo (poA 0 .nils .nils))], fun k => 4 - k, some, some⟩
def okTk (n : BitVec 8) (R : Nat → BitVec 8) (g : PTk) : Prop := 1 ≤ g.i ∧ g.i ≤ n.toNat + 1 ∧ ∀ j, ¬ (16 ≤ j ∧ j < 20) → g.r j = R j
def L_T14 (n : BitVec 8) (R : Nat → BitVec 8) (a : BitVec 32) : LI := ⟨PTk, okTk n R, fun g => [(1, .u8 n), (4, .ptr TRg 8 []), (9, .ptr TPo 2056 []), (10, .u32 a), (13, .ptr TRg 3089 []), (14, .u32 (BitVec.ofNat 32 g.i))], fun g => [(8, .var TRg (arr8 64 g.r)), (2056, .var TPo (poA (BitVec.ofNat 32 (g.i - 1)) .nils .nils)), (3089, .var TRg (arr8 64 R))], fun g => n.toNat + 1 - g.i, some, some⟩
def L_T20 (n : BitVec 8) (R : Nat → BitVec 8) : LI := ⟨PTk, fun g => g.i ≤ 64 ∧ ∀ j, ¬ (16 ≤ j ∧ j < 20) → g.r j = R j, fun g => [(1, .u8 n), (4, .ptr TRg 8 []), (9, .ptr TPo 2056 []), (13, .ptr TRg 3089 []), (67, .nat g.i)], fun g => [(8, .var TRg (arr8 64 g.r)), (2056, .var TPo (poA (n.setWidth 32) .nils .nils)), (3089, .var TRg (arr8 64 R))], fun g => 64 - g.i, some, some⟩
def C_l21_PortTicks : SpecP := fun A K => ∃ (r : Nat → BitVec 8) (n at' : BitVec 8) (no : Bool), A [arr8 64 r, .u8 n, .u8 at', .bo no] ∧ K (.bo true)
theorem g_l21_PortTicks : Gd 4 (pureP ty C_l21_PortTicks) := by
  refine goodP (E := PG [(7, pureP ty C_l21_awake), (8, pureR ty C_po_New), (17, pureP ty C_po_Bytes), (18, orC (mutD ty [true, true] C_po_Tick) (mutD ty [true, false] C_po_Tick_n)), (16, pureP ty C_po_Time), (19, pureP ty C_po_Number)]) (pgOK ⟨g_l21_awake, g_po_New, g_po_Bytes, (good_or g_po_Tick g_po_Tick_n), g_po_Time, g_po_Number, trivial⟩) mixes Try.func4 (by kernel_rfl) (by kernel_rfl) ?_
  rintro A K ⟨r, n, at', no, hA, hK⟩
  obtain ⟨a, ha⟩ : ∃ a : BitVec 32, a = (bif no then BitVec.ofInt 32 0 else at'.setWidth 32) := ⟨_, rfl⟩
  refine ⟨_, _, loops [(100007, L_T7 n r a), (8, L_T8 n r a), (14, L_T14 n (setA r a 4) a), (20, L_T20 n (setA r a 4))], hA, hK, by kernel_rfl, trivial, ?_⟩
  repeat ((conv => whnf); first | refine sdO ?_ | refine nlO ?_ | refine goA ?_ | refine goB ?_ | (apply Exists.intro; (repeat apply Exists.intro); refine caO ?_) | (refine Or.inl ?_; (conv => whnf); (repeat apply Exists.intro); refine caO ?_) | (refine Or.inr ?_; (conv => whnf); first | ((repeat apply Exists.intro); refine caO ?_) | (refine Or.inl ?_; (conv => whnf); (repeat apply Exists.intro); refine caO ?_) | (refine Or.inr ?_; (conv => whnf); (repeat apply Exists.intro); refine caO ?_)) | refine And.intro (by assumption) ?_ | refine goT ?_ | refine goF ?_ | refine goL ?_ | refine goR ?_ | refine goRL ?_ | refine goRR ?_)
  all_goals try (conv => whnf)
  refine Exists.intro (fun _ => True) (And.intro ?_ (fun (_ : Nat) _ _ => ?_))
  · cases no with
    | true =>
      repeat ((conv => whnf); first | refine sdO ?_ | refine nlO ?_ | refine goA ?_ | refine goB ?_ | (apply Exists.intro; (repeat apply Exists.intro); refine caO ?_) | (refine Or.inl ?_; (conv => whnf); (repeat apply Exists.intro); refine caO ?_) | (refine Or.inr ?_; (conv => whnf); first | ((repeat apply Exists.intro); refine caO ?_) | (refine Or.inl ?_; (conv => whnf); (repeat apply Exists.intro); refine caO ?_) | (refine Or.inr ?_; (conv => whnf); (repeat apply Exists.intro); refine caO ?_)) | refine And.intro (by assumption) ?_ | refine goT ?_ | refine goF ?_ | refine goL ?_ | refine goR ?_ | refine goRL ?_ | refine goRR ?_)
      all_goals try (conv => whnf)
      refine Enter.mk (0 : Nat) trivial trivial ?_
      ((repeat' ((conv => whnf) <;> first | exact trivial | (with_reducible first | refine And.intro ?_ ?_ | refine rows_lt1 ?_ | refine rows_lt2 ?_ ?_ | refine rows_lt3 ?_ ?_ ?_ | refine rows_lt4 ?_ ?_ ?_ ?_ | refine rows_lt5 ?_ ?_ ?_ ?_ ?_ | refine aggs_lt1 ?_ | refine aggs_lt2 ?_ ?_ | refine aggs_lt3 ?_ ?_ ?_ | refine fun (_ : Nat) => ?_) | refine fun (_ : (_ : Nat) < _) => ?_ | exact rfl | exact Nat.le_of_ble_eq_true rfl | (change (_ : Nat) ≤ _; omega) | (change (_ : Nat) = _; omega) | (change (_ : Int) = _; omega))); (all_goals try (conv => whnf)))
      exact ha.symm
    | false =>
      repeat ((conv => whnf); first | refine sdO ?_ | refine nlO ?_ | refine goA ?_ | refine goB ?_ | (apply Exists.intro; (repeat apply Exists.intro); refine caO ?_) | (refine Or.inl ?_; (conv => whnf); (repeat apply Exists.intro); refine caO ?_) | (refine Or.inr ?_; (conv => whnf); first | ((repeat apply Exists.intro); refine caO ?_) | (refine Or.inl ?_; (conv => whnf); (repeat apply Exists.intro); refine caO ?_) | (refine Or.inr ?_; (conv => whnf); (repeat apply Exists.intro); refine caO ?_)) | refine And.intro (by assumption) ?_ | refine goT ?_ | refine goF ?_ | refine goL ?_ | refine goR ?_ | refine goRL ?_ | refine goRR ?_)
      all_goals try (conv => whnf)
      refine Enter.mk (0 : Nat) trivial trivial ?_
      ((repeat' ((conv => whnf) <;> first | exact trivial | (with_reducible first | refine And.intro ?_ ?_ | refine rows_lt1 ?_ | refine rows_lt2 ?_ ?_ | refine rows_lt3 ?_ ?_ ?_ | refine rows_lt4 ?_ ?_ ?_ ?_ | refine rows_lt5 ?_ ?_ ?_ ?_ ?_ | refine aggs_lt1 ?_ | refine aggs_lt2 ?_ ?_ | refine aggs_lt3 ?_ ?_ ?_ | refine fun (_ : Nat) => ?_) | refine fun (_ : (_ : Nat) < _) => ?_ | exact rfl | exact Nat.le_of_ble_eq_true rfl | (change (_ : Nat) ≤ _; omega) | (change (_ : Nat) = _; omega) | (change (_ : Int) = _; omega))); (all_goals try (conv => whnf)))
      exact ha.symm
  clear ha
  repeat ((conv => whnf); first | refine sdO ?_ | refine nlO ?_ | refine goA ?_ | refine goB ?_ | (apply Exists.intro; (repeat apply Exists.intro); refine caO ?_) | (refine Or.inl ?_; (conv => whnf); (repeat apply Exists.intro); refine caO ?_) | (refine Or.inr ?_; (conv => whnf); first | ((repeat apply Exists.intro); refine caO ?_) | (refine Or.inl ?_; (conv => whnf); (repeat apply Exists.intro); refine caO ?_) | (refine Or.inr ?_; (conv => whnf); (repeat apply Exists.intro); refine caO ?_)) | refine And.intro (by assumption) ?_ | refine goT ?_ | refine goF ?_ | refine goL ?_ | refine goR ?_ | refine goRL ?_ | refine goRR ?_)
  all_goals try (conv => whnf)
  refine Exists.intro (fun _ => True) (And.intro (Enter.mk (0 : Nat) (Nat.zero_le _) trivial ?_) (fun (k : Nat) (hk : k ≤ 4) _ => ?_))
  · ((repeat' ((conv => whnf) <;> first | exact trivial | (with_reducible first | refine And.intro ?_ ?_ | refine rows_lt1 ?_ | refine rows_lt2 ?_ ?_ | refine rows_lt3 ?_ ?_ ?_ | refine rows_lt4 ?_ ?_ ?_ ?_ | refine rows_lt5 ?_ ?_ ?_ ?_ ?_ | refine aggs_lt1 ?_ | refine aggs_lt2 ?_ ?_ | refine aggs_lt3 ?_ ?_ ?_ | refine fun (_ : Nat) => ?_) | refine fun (_ : (_ : Nat) < _) => ?_ | exact rfl | exact Nat.le_of_ble_eq_true rfl | (change (_ : Nat) ≤ _; omega) | (change (_ : Nat) = _; omega) | (change (_ : Int) = _; omega))); (all_goals try (conv => whnf)))
    rename_i j hj
    unfold setA
    exact (if_neg (by omega)).symm
  rcases Nat.lt_or_ge k 4 with h | h
  · skip
    repeat ((conv => whnf); first | refine sdO ?_ | refine nlO ?_ | refine goA ?_ | refine goB ?_ | (apply Exists.intro; (repeat apply Exists.intro); refine caO ?_) | (refine Or.inl ?_; (conv => whnf); (repeat apply Exists.intro); refine caO ?_) | (refine Or.inr ?_; (conv => whnf); first | ((repeat apply Exists.intro); refine caO ?_) | (refine Or.inl ?_; (conv => whnf); (repeat apply Exists.intro); refine caO ?_) | (refine Or.inr ?_; (conv => whnf); (repeat apply Exists.intro); refine caO ?_)) | refine And.intro (by assumption) ?_ | refine goT ?_ | refine goF ?_ | refine goL ?_ | refine goR ?_ | refine goRL ?_ | refine goRR ?_)
    all_goals try (conv => whnf)
    refine Again.mk (k + 1 : Nat) h trivial (show 4 - (k + 1) < 4 - k by omega) ?_
    ((repeat' ((conv => whnf) <;> first | exact trivial | (with_reducible first | refine And.intro ?_ ?_ | refine rows_lt1 ?_ | refine rows_lt2 ?_ ?_ | refine rows_lt3 ?_ ?_ ?_ | refine rows_lt4 ?_ ?_ ?_ ?_ | refine rows_lt5 ?_ ?_ ?_ ?_ ?_ | refine aggs_lt1 ?_ | refine aggs_lt2 ?_ ?_ | refine aggs_lt3 ?_ ?_ ?_ | refine fun (_ : Nat) => ?_) | refine fun (_ : (_ : Nat) < _) => ?_ | exact rfl | exact Nat.le_of_ble_eq_true rfl | (change (_ : Nat) ≤ _; omega) | (change (_ : Nat) = _; omega) | (change (_ : Int) = _; omega))); (all_goals try (conv => whnf)))
    exact setA_step r a k _
  obtain rfl : k = 4 := by omega
  repeat ((conv => whnf); first | refine sdO ?_ | refine nlO ?_ | refine goA ?_ | refine goB ?_ | (apply Exists.intro; (repeat apply Exists.intro); refine caO ?_) | (refine Or.inl ?_; (conv => whnf); (repeat apply Exists.intro); refine caO ?_) | (refine Or.inr ?_; (conv => whnf); first | ((repeat apply Exists.intro); refine caO ?_) | (refine Or.inl ?_; (conv => whnf); (repeat apply Exists.intro); refine caO ?_) | (refine Or.inr ?_; (conv => whnf); (repeat apply Exists.intro); refine caO ?_)) | refine And.intro (by assumption) ?_ | refine goT ?_ | refine goF ?_ | refine goL ?_ | refine goR ?_ | refine goRL ?_ | refine goRR ?_)
  all_goals try (conv => whnf)
  refine Exists.intro (fun _ => True) (And.intro (Enter.mk (⟨1, setA r a 4⟩ : PTk) ⟨Nat.le_refl _, by show 1 ≤ n.toNat + 1; omega, fun _ _ => rfl⟩ trivial ?_) (fun (g : PTk) (hg : okTk n (setA r a 4) g) _ => ?_))
  · ((repeat' ((conv => whnf) <;> first | exact trivial | (with_reducible first | refine And.intro ?_ ?_ | refine rows_lt1 ?_ | refine rows_lt2 ?_ ?_ | refine rows_lt3 ?_ ?_ ?_ | refine rows_lt4 ?_ ?_ ?_ ?_ | refine rows_lt5 ?_ ?_ ?_ ?_ ?_ | refine aggs_lt1 ?_ | refine aggs_lt2 ?_ ?_ | refine aggs_lt3 ?_ ?_ ?_ | refine fun (_ : Nat) => ?_) | refine fun (_ : (_ : Nat) < _) => ?_ | exact rfl | exact Nat.le_of_ble_eq_true rfl | (change (_ : Nat) ≤ _; omega) | (change (_ : Nat) = _; omega) | (change (_ : Int) = _; omega))); (all_goals try (conv => whnf)))
  obtain ⟨i, r'⟩ := g
  obtain ⟨h1, h2, h3⟩ := hg
  replace h1 : 1 ≤ i := h1
  replace h2 : i ≤ n.toNat + 1 := h2
  replace h3 : ∀ j, ¬ (16 ≤ j ∧ j < 20) → r' j = setA r a 4 j := h3
  have hn := n.isLt
  have hal : alN r' = a := by
    rw [← num_byt a]
    exact (al_eq r' _ 4 rfl fun j hj => by rw [h3 (12 + j) (by omega)]; unfold setA; rw [if_pos (by omega), Nat.add_sub_cancel_left]).symm
  have e1 : BitVec.ofNat 32 (i - 1) + BitVec.ofInt 32 1 = BitVec.ofNat 32 i := by
    apply BitVec.eq_of_toNat_eq
    rw [BitVec.toNat_add, BitVec.toNat_ofNat, BitVec.toNat_ofNat, show (BitVec.ofInt 32 1).toNat = 1 from rfl]
    omega
  have e2 : numN (fun j => tmF r' (BitVec.ofNat 32 (i - 1) + BitVec.ofInt 32 1) (16 + j)) 4 = BitVec.ofNat 32 i := by
    rw [e1, ← num_byt (BitVec.ofNat 32 i)]
    exact num_cong fun j hj => by unfold tmF; rw [if_pos (by omega), Nat.add_sub_cancel_left, num_byt]
  have hag : okTk n (setA r a 4) ⟨i + 1, tmF r' (BitVec.ofNat 32 (i - 1) + BitVec.ofInt 32 1)⟩ ∨ n.toNat < i := by
    rcases Nat.lt_or_ge n.toNat i with h | h
    · exact .inr h
    · exact .inl ⟨by show 1 ≤ i + 1; omega, by show i + 1 ≤ n.toNat + 1; omega, fun j hj => by show tmF r' _ j = _; unfold tmF; rw [if_neg hj]; exact h3 j hj⟩
  rcases Nat.lt_or_ge n.toNat i with h | h
  · have hc : ¬ BitVec.ofNat 32 i ≤ n.setWidth 32 := by
      rw [BitVec.le_def, BitVec.toNat_ofNat, BitVec.toNat_setWidth]
      omega
    obtain rfl : i = n.toNat + 1 := by omega
    have e4 : BitVec.ofNat 32 (n.toNat + 1 - 1) = n.setWidth 32 := by
      apply BitVec.eq_of_toNat_eq
      rw [BitVec.toNat_ofNat, BitVec.toNat_setWidth, Nat.add_sub_cancel]
    repeat ((conv => whnf); first | refine sdO ?_ | refine nlO ?_ | refine goA ?_ | refine goB ?_ | (apply Exists.intro; (repeat apply Exists.intro); refine caO ?_) | (refine Or.inl ?_; (conv => whnf); (repeat apply Exists.intro); refine caO ?_) | (refine Or.inr ?_; (conv => whnf); first | ((repeat apply Exists.intro); refine caO ?_) | (refine Or.inl ?_; (conv => whnf); (repeat apply Exists.intro); refine caO ?_) | (refine Or.inr ?_; (conv => whnf); (repeat apply Exists.intro); refine caO ?_)) | refine And.intro (by assumption) ?_ | refine goT ?_ | refine goF ?_ | refine goL ?_ | refine goR ?_ | refine goRL ?_ | refine goRR ?_)
    all_goals try (conv => whnf)
    refine Exists.intro (fun _ => True) (And.intro (Enter.mk (⟨0, r'⟩ : PTk) ⟨Nat.zero_le _, h3⟩ trivial ?_) (fun (g : PTk) (hg : g.i ≤ 64 ∧ ∀ j, ¬ (16 ≤ j ∧ j < 20) → g.r j = setA r a 4 j) _ => ?_))
    · ((repeat' ((conv => whnf) <;> first | exact trivial | (with_reducible first | refine And.intro ?_ ?_ | refine rows_lt1 ?_ | refine rows_lt2 ?_ ?_ | refine rows_lt3 ?_ ?_ ?_ | refine rows_lt4 ?_ ?_ ?_ ?_ | refine rows_lt5 ?_ ?_ ?_ ?_ ?_ | refine aggs_lt1 ?_ | refine aggs_lt2 ?_ ?_ | refine aggs_lt3 ?_ ?_ ?_ | refine fun (_ : Nat) => ?_) | refine fun (_ : (_ : Nat) < _) => ?_ | exact rfl | exact Nat.le_of_ble_eq_true rfl | (change (_ : Nat) ≤ _; omega) | (change (_ : Nat) = _; omega) | (change (_ : Int) = _; omega))); (all_goals try (conv => whnf)))
      exact e4
    obtain ⟨i, r''⟩ := g
    obtain ⟨g1, g2⟩ := hg
    replace g1 : i ≤ 64 := g1
    replace g2 : ∀ j, ¬ (16 ≤ j ∧ j < 20) → r'' j = setA r a 4 j := g2
    rcases Nat.lt_or_ge i 64 with k1 | k1
    · by_cases k2 : 16 ≤ i ∧ i < 20
      · have k3 : ¬ i < 16 := by omega
        have k4 : ¬ 19 < i := by omega
        repeat ((conv => whnf); first | refine sdO ?_ | refine nlO ?_ | refine goA ?_ | refine goB ?_ | (apply Exists.intro; (repeat apply Exists.intro); refine caO ?_) | (refine Or.inl ?_; (conv => whnf); (repeat apply Exists.intro); refine caO ?_) | (refine Or.inr ?_; (conv => whnf); first | ((repeat apply Exists.intro); refine caO ?_) | (refine Or.inl ?_; (conv => whnf); (repeat apply Exists.intro); refine caO ?_) | (refine Or.inr ?_; (conv => whnf); (repeat apply Exists.intro); refine caO ?_)) | refine And.intro (by assumption) ?_ | refine goT ?_ | refine goF ?_ | refine goL ?_ | refine goR ?_ | refine goRL ?_ | refine goRR ?_)
        all_goals try (conv => whnf)
        refine Again.mk (⟨i + 1, r''⟩ : PTk) ⟨k1, g2⟩ trivial (show 64 - (i + 1) < 64 - i by omega) ?_
        ((repeat' ((conv => whnf) <;> first | exact trivial | (with_reducible first | refine And.intro ?_ ?_ | refine rows_lt1 ?_ | refine rows_lt2 ?_ ?_ | refine rows_lt3 ?_ ?_ ?_ | refine rows_lt4 ?_ ?_ ?_ ?_ | refine rows_lt5 ?_ ?_ ?_ ?_ ?_ | refine aggs_lt1 ?_ | refine aggs_lt2 ?_ ?_ | refine aggs_lt3 ?_ ?_ ?_ | refine fun (_ : Nat) => ?_) | refine fun (_ : (_ : Nat) < _) => ?_ | exact rfl | exact Nat.le_of_ble_eq_true rfl | (change (_ : Nat) ≤ _; omega) | (change (_ : Nat) = _; omega) | (change (_ : Int) = _; omega))); (all_goals try (conv => whnf)))
      · have k5 := g2 i k2
        rcases Nat.lt_or_ge i 16 with k3 | k3
        · skip
          repeat ((conv => whnf); first | refine sdO ?_ | refine nlO ?_ | refine goA ?_ | refine goB ?_ | (apply Exists.intro; (repeat apply Exists.intro); refine caO ?_) | (refine Or.inl ?_; (conv => whnf); (repeat apply Exists.intro); refine caO ?_) | (refine Or.inr ?_; (conv => whnf); first | ((repeat apply Exists.intro); refine caO ?_) | (refine Or.inl ?_; (conv => whnf); (repeat apply Exists.intro); refine caO ?_) | (refine Or.inr ?_; (conv => whnf); (repeat apply Exists.intro); refine caO ?_)) | refine And.intro (by assumption) ?_ | refine goT ?_ | refine goF ?_ | refine goL ?_ | refine goR ?_ | refine goRL ?_ | refine goRR ?_)
          all_goals try (conv => whnf)
          refine Again.mk (⟨i + 1, r''⟩ : PTk) ⟨k1, g2⟩ trivial (show 64 - (i + 1) < 64 - i by omega) ?_
          ((repeat' ((conv => whnf) <;> first | exact trivial | (with_reducible first | refine And.intro ?_ ?_ | refine rows_lt1 ?_ | refine rows_lt2 ?_ ?_ | refine rows_lt3 ?_ ?_ ?_ | refine rows_lt4 ?_ ?_ ?_ ?_ | refine rows_lt5 ?_ ?_ ?_ ?_ ?_ | refine aggs_lt1 ?_ | refine aggs_lt2 ?_ ?_ | refine aggs_lt3 ?_ ?_ ?_ | refine fun (_ : Nat) => ?_) | refine fun (_ : (_ : Nat) < _) => ?_ | exact rfl | exact Nat.le_of_ble_eq_true rfl | (change (_ : Nat) ≤ _; omega) | (change (_ : Nat) = _; omega) | (change (_ : Int) = _; omega))); (all_goals try (conv => whnf)))
        · have k4 : 19 < i := by omega
          have k6 : ¬ i < 16 := by omega
          repeat ((conv => whnf); first | refine sdO ?_ | refine nlO ?_ | refine goA ?_ | refine goB ?_ | (apply Exists.intro; (repeat apply Exists.intro); refine caO ?_) | (refine Or.inl ?_; (conv => whnf); (repeat apply Exists.intro); refine caO ?_) | (refine Or.inr ?_; (conv => whnf); first | ((repeat apply Exists.intro); refine caO ?_) | (refine Or.inl ?_; (conv => whnf); (repeat apply Exists.intro); refine caO ?_) | (refine Or.inr ?_; (conv => whnf); (repeat apply Exists.intro); refine caO ?_)) | refine And.intro (by assumption) ?_ | refine goT ?_ | refine goF ?_ | refine goL ?_ | refine goR ?_ | refine goRL ?_ | refine goRR ?_)
          all_goals try (conv => whnf)
          refine Again.mk (⟨i + 1, r''⟩ : PTk) ⟨k1, g2⟩ trivial (show 64 - (i + 1) < 64 - i by omega) ?_
          ((repeat' ((conv => whnf) <;> first | exact trivial | (with_reducible first | refine And.intro ?_ ?_ | refine rows_lt1 ?_ | refine rows_lt2 ?_ ?_ | refine rows_lt3 ?_ ?_ ?_ | refine rows_lt4 ?_ ?_ ?_ ?_ | refine rows_lt5 ?_ ?_ ?_ ?_ ?_ | refine aggs_lt1 ?_ | refine aggs_lt2 ?_ ?_ | refine aggs_lt3 ?_ ?_ ?_ | refine fun (_ : Nat) => ?_) | refine fun (_ : (_ : Nat) < _) => ?_ | exact rfl | exact Nat.le_of_ble_eq_true rfl | (change (_ : Nat) ≤ _; omega) | (change (_ : Nat) = _; omega) | (change (_ : Int) = _; omega))); (all_goals try (conv => whnf)))
    · obtain rfl : i = 64 := by omega
      repeat ((conv => whnf); first | refine sdO ?_ | refine nlO ?_ | refine goA ?_ | refine goB ?_ | (apply Exists.intro; (repeat apply Exists.intro); refine caO ?_) | (refine Or.inl ?_; (conv => whnf); (repeat apply Exists.intro); refine caO ?_) | (refine Or.inr ?_; (conv => whnf); first | ((repeat apply Exists.intro); refine caO ?_) | (refine Or.inl ?_; (conv => whnf); (repeat apply Exists.intro); refine caO ?_) | (refine Or.inr ?_; (conv => whnf); (repeat apply Exists.intro); refine caO ?_)) | refine And.intro (by assumption) ?_ | refine goT ?_ | refine goF ?_ | refine goL ?_ | refine goR ?_ | refine goRL ?_ | refine goRR ?_)
      all_goals try (conv => whnf)
      ((repeat' ((conv => whnf) <;> first | exact trivial | (with_reducible first | refine And.intro ?_ ?_ | refine rows_lt1 ?_ | refine rows_lt2 ?_ ?_ | refine rows_lt3 ?_ ?_ ?_ | refine rows_lt4 ?_ ?_ ?_ ?_ | refine rows_lt5 ?_ ?_ ?_ ?_ ?_ | refine aggs_lt1 ?_ | refine aggs_lt2 ?_ ?_ | refine aggs_lt3 ?_ ?_ ?_ | refine fun (_ : Nat) => ?_) | refine fun (_ : (_ : Nat) < _) => ?_ | exact rfl | exact Nat.le_of_ble_eq_true rfl | (change (_ : Nat) ≤ _; omega) | (change (_ : Nat) = _; omega) | (change (_ : Int) = _; omega))); (all_goals try (conv => whnf)))
      exact decide_eq_true rfl
  · have hc : BitVec.ofNat 32 i ≤ n.setWidth 32 := by
      rw [BitVec.le_def, BitVec.toNat_ofNat, BitVec.toNat_setWidth]
      omega
    by_cases q : a = BitVec.ofInt 32 0
    · have q1 : (!decide (¬ alN r' = BitVec.ofInt 32 0 ∧ alN r' ≤ BitVec.ofNat 32 (i - 1) + BitVec.ofInt 32 1) == false) = false := by rw [decide_eq_false fun w => w.1 (hal.trans q)]; rfl
      repeat ((conv => whnf); first | refine sdO ?_ | refine nlO ?_ | refine goA ?_ | refine goB ?_ | (apply Exists.intro; (repeat apply Exists.intro); refine caO ?_) | (refine Or.inl ?_; (conv => whnf); (repeat apply Exists.intro); refine caO ?_) | (refine Or.inr ?_; (conv => whnf); first | ((repeat apply Exists.intro); refine caO ?_) | (refine Or.inl ?_; (conv => whnf); (repeat apply Exists.intro); refine caO ?_) | (refine Or.inr ?_; (conv => whnf); (repeat apply Exists.intro); refine caO ?_)) | refine And.intro (by assumption) ?_ | refine goT ?_ | refine goF ?_ | refine goL ?_ | refine goR ?_ | refine goRL ?_ | refine goRR ?_)
      all_goals try (conv => whnf)
      refine Again.mk (⟨i + 1, tmF r' (BitVec.ofNat 32 (i - 1) + BitVec.ofInt 32 1)⟩ : PTk) (hag.resolve_right (by omega)) trivial (show n.toNat + 1 - (i + 1) < n.toNat + 1 - i by omega) ?_
      ((repeat' ((conv => whnf) <;> first | exact trivial | (with_reducible first | refine And.intro ?_ ?_ | refine rows_lt1 ?_ | refine rows_lt2 ?_ ?_ | refine rows_lt3 ?_ ?_ ?_ | refine rows_lt4 ?_ ?_ ?_ ?_ | refine rows_lt5 ?_ ?_ ?_ ?_ ?_ | refine aggs_lt1 ?_ | refine aggs_lt2 ?_ ?_ | refine aggs_lt3 ?_ ?_ ?_ | refine fun (_ : Nat) => ?_) | refine fun (_ : (_ : Nat) < _) => ?_ | exact rfl | exact Nat.le_of_ble_eq_true rfl | (change (_ : Nat) ≤ _; omega) | (change (_ : Nat) = _; omega) | (change (_ : Int) = _; omega))); (all_goals try (conv => whnf)))
      · exact e1
      · exact (BitVec.ofNat_add i 1).symm
    · by_cases q2 : a ≤ BitVec.ofNat 32 i
      · have q1 : (!decide (¬ alN r' = BitVec.ofInt 32 0 ∧ alN r' ≤ BitVec.ofNat 32 (i - 1) + BitVec.ofInt 32 1) == decide (a ≤ BitVec.ofNat 32 i)) = false := by rw [decide_eq_true q2, decide_eq_true ⟨by rw [hal]; exact q, by rw [hal, e1]; exact q2⟩]; rfl
        repeat ((conv => whnf); first | refine sdO ?_ | refine nlO ?_ | refine goA ?_ | refine goB ?_ | (apply Exists.intro; (repeat apply Exists.intro); refine caO ?_) | (refine Or.inl ?_; (conv => whnf); (repeat apply Exists.intro); refine caO ?_) | (refine Or.inr ?_; (conv => whnf); first | ((repeat apply Exists.intro); refine caO ?_) | (refine Or.inl ?_; (conv => whnf); (repeat apply Exists.intro); refine caO ?_) | (refine Or.inr ?_; (conv => whnf); (repeat apply Exists.intro); refine caO ?_)) | refine And.intro (by assumption) ?_ | refine goT ?_ | refine goF ?_ | refine goL ?_ | refine goR ?_ | refine goRL ?_ | refine goRR ?_)
        all_goals try (conv => whnf)
        refine Again.mk (⟨i + 1, tmF r' (BitVec.ofNat 32 (i - 1) + BitVec.ofInt 32 1)⟩ : PTk) (hag.resolve_right (by omega)) trivial (show n.toNat + 1 - (i + 1) < n.toNat + 1 - i by omega) ?_
        ((repeat' ((conv => whnf) <;> first | exact trivial | (with_reducible first | refine And.intro ?_ ?_ | refine rows_lt1 ?_ | refine rows_lt2 ?_ ?_ | refine rows_lt3 ?_ ?_ ?_ | refine rows_lt4 ?_ ?_ ?_ ?_ | refine rows_lt5 ?_ ?_ ?_ ?_ ?_ | refine aggs_lt1 ?_ | refine aggs_lt2 ?_ ?_ | refine aggs_lt3 ?_ ?_ ?_ | refine fun (_ : Nat) => ?_) | refine fun (_ : (_ : Nat) < _) => ?_ | exact rfl | exact Nat.le_of_ble_eq_true rfl | (change (_ : Nat) ≤ _; omega) | (change (_ : Nat) = _; omega) | (change (_ : Int) = _; omega))); (all_goals try (conv => whnf)))
        · exact e1
        · exact (BitVec.ofNat_add i 1).symm
      · have q1 : (!decide (¬ alN r' = BitVec.ofInt 32 0 ∧ alN r' ≤ BitVec.ofNat 32 (i - 1) + BitVec.ofInt 32 1) == decide (a ≤ BitVec.ofNat 32 i)) = false := by rw [decide_eq_false q2, decide_eq_false fun w => q2 (by rw [← hal, ← e1]; exact w.2)]; rfl
        repeat ((conv => whnf); first | refine sdO ?_ | refine nlO ?_ | refine goA ?_ | refine goB ?_ | (apply Exists.intro; (repeat apply Exists.intro); refine caO ?_) | (refine Or.inl ?_; (conv => whnf); (repeat apply Exists.intro); refine caO ?_) | (refine Or.inr ?_; (conv => whnf); first | ((repeat apply Exists.intro); refine caO ?_) | (refine Or.inl ?_; (conv => whnf); (repeat apply Exists.intro); refine caO ?_) | (refine Or.inr ?_; (conv => whnf); (repeat apply Exists.intro); refine caO ?_)) | refine And.intro (by assumption) ?_ | refine goT ?_ | refine goF ?_ | refine goL ?_ | refine goR ?_ | refine goRL ?_ | refine goRR ?_)
        all_goals try (conv => whnf)
        refine Again.mk (⟨i + 1, tmF r' (BitVec.ofNat 32 (i - 1) + BitVec.ofInt 32 1)⟩ : PTk) (hag.resolve_right (by omega)) trivial (show n.toNat + 1 - (i + 1) < n.toNat + 1 - i by omega) ?_
        ((repeat' ((conv => whnf) <;> first | exact trivial | (with_reducible first | refine And.intro ?_ ?_ | refine rows_lt1 ?_ | refine rows_lt2 ?_ ?_ | refine rows_lt3 ?_ ?_ ?_ | refine rows_lt4 ?_ ?_ ?_ ?_ | refine rows_lt5 ?_ ?_ ?_ ?_ ?_ | refine aggs_lt1 ?_ | refine aggs_lt2 ?_ ?_ | refine aggs_lt3 ?_ ?_ ?_ | refine fun (_ : Nat) => ?_) | refine fun (_ : (_ : Nat) < _) => ?_ | exact rfl | exact Nat.le_of_ble_eq_true rfl | (change (_ : Nat) ≤ _; omega) | (change (_ : Nat) = _; omega) | (change (_ : Int) = _; omega))); (all_goals try (conv => whnf)))
        · exact e1
        · exact (BitVec.ofNat_add i 1).symm
end Go.Proofs.Ytahiclllpaplgaa
