/- lms: hashes, parts, the climb. -/
import Derived.Test.YtnfebaialdfffaaDoorQ1
import Derived.Test.YtnfebaialdfffaaDoorN4
namespace Go.Proofs.YtnfebaialdfffaaDoor
open Go.RowKit
set_option maxRecDepth 100000
set_option maxHeartbeats 20000000
attribute [local irreducible] hsh rst sha256 press dig valN mash fold digs ch tw tp tlS cf ckN dgT pubE upTo sgV sigB mashD clE mixA clK pubK st1 at8 hgN
theorem LeW_jn {m : Nat → Option Row} {ty : TypeId → Ty} {rw : List (Nat × Row)} {ρ : Nat → Option Nat} {e : TypeId} {n j : Nat} {f g : Nat → AV} {b : AV} (hj : j < n + 1) (h1 : j < n → LeW m ty rw ρ (f j) b) (h2 : j = n → LeW m ty rw ρ (g 0) b) : LeW m ty rw ρ (joinA (.sl e) f n g j) b := by
  show LeW m ty rw ρ (if j < n then f j else g (j - n)) b
  by_cases h : j < n
  · rw [if_pos h]; exact h1 h
  · rw [if_neg h, show j - n = 0 by omega]; exact h2 (by omega)
abbrev hsO (b : Nat → BitVec 8) : Nat → Nat → BitVec 8 := fun i j => b (32 * i + j)
abbrev dgsf (n : Nat) (f : Nat → Nat → BitVec 8) : AV := .imm true TD n (fun i => arr8 32 (f i))
def C_lms_hashes : SpecP := fun A K => ∃ n b, A [bsl (32 * n) b] ∧ n ≤ 1000 ∧ K (dgsf n (hsO b))
def L_hashes (n : Nat) (b : Nat → BitVec 8) : LI := ⟨Nat, (· ≤ n), fun k => [(0, bsl (32 * n - 32 * k) (fun j => b (32 * k + j))), (3, .gsl 23 1056 k)], fun k => [(1056, .grow 23 k (dgA (hsO b)))], fun k => n - k, some, some⟩
theorem g_lms_hashes : Gd 72 (pureP ty C_lms_hashes) := by
  refine goodP (E := PG [(70, aliasP ty C_lms_cut)]) (pgOK ⟨g_lms_cut, trivial⟩) mixes Tryd.func72 (by kernel_rfl) (by kernel_rfl) ?_
  rintro A K ⟨n, b, hA, hn, hK⟩
  refine ⟨_, _, loops [(2, L_hashes n b)], hA, hK, by kernel_rfl, ⟨rfl, fun _ _ _ _ => trivial⟩, ?_⟩
  repeat ((conv => whnf); first | refine sdO ?_ | refine nlO ?_ | refine goA ?_ | refine goB ?_ | (apply Exists.intro; (repeat apply Exists.intro); refine caO ?_) | (refine Or.inl ?_; (conv => whnf); (repeat apply Exists.intro); refine caO ?_) | (refine Or.inr ?_; (conv => whnf); first | ((repeat apply Exists.intro); refine caO ?_) | (refine Or.inl ?_; (conv => whnf); (repeat apply Exists.intro); refine caO ?_) | (refine Or.inr ?_; (conv => whnf); (repeat apply Exists.intro); refine caO ?_)) | refine And.intro (by assumption) ?_ | refine goT ?_ | refine goF ?_ | refine goL ?_ | refine goR ?_ | refine goRL ?_ | refine goRR ?_)
  all_goals try (conv => whnf)
  refine Exists.intro (fun _ => True) (And.intro (Enter.mk (0 : Nat) (Nat.zero_le _) trivial ?_) (fun (k : Nat) (hk : k ≤ n) _ => ?_))
  · ((repeat' ((conv => whnf) <;> first | exact trivial | (with_reducible first | refine And.intro ?_ ?_ | refine rows_lt1 ?_ | refine rows_lt2 ?_ ?_ | refine rows_lt3 ?_ ?_ ?_ | refine rows_lt4 ?_ ?_ ?_ ?_ | refine rows_lt5 ?_ ?_ ?_ ?_ ?_ | refine aggs_lt1 ?_ | refine aggs_lt2 ?_ ?_ | refine aggs_lt3 ?_ ?_ ?_ | refine fun (_ : Nat) => ?_) | refine fun (_ : (_ : Nat) < _) => ?_ | exact rfl | exact Nat.le_of_ble_eq_true rfl | (change (_ : Nat) ≤ _; omega) | (change (_ : Nat) = _; omega) | (change (_ : Int) = _; omega))); (all_goals try (conv => whnf)))
    · rename_i i hi j hj
      exact absurd hi (Nat.not_lt_zero _)
    · show b _ = b _
      congr 1; omega
  rcases Nat.lt_or_ge k n with h | h
  · skip
    repeat ((conv => whnf); first | refine sdO ?_ | refine nlO ?_ | refine goA ?_ | refine goB ?_ | (apply Exists.intro; (repeat apply Exists.intro); refine caO ?_) | (refine Or.inl ?_; (conv => whnf); (repeat apply Exists.intro); refine caO ?_) | (refine Or.inr ?_; (conv => whnf); first | ((repeat apply Exists.intro); refine caO ?_) | (refine Or.inl ?_; (conv => whnf); (repeat apply Exists.intro); refine caO ?_) | (refine Or.inr ?_; (conv => whnf); (repeat apply Exists.intro); refine caO ?_)) | refine And.intro (by assumption) ?_ | refine goT ?_ | refine goF ?_ | refine goL ?_ | refine goR ?_ | refine goRL ?_ | refine goRR ?_)
    all_goals try (conv => whnf)
    refine Again.mk (k + 1 : Nat) (show k + 1 ≤ n by omega) trivial (show n - (k + 1) < n - k by omega) ?_
    ((repeat' ((conv => whnf) <;> first | exact trivial | (with_reducible first | refine And.intro ?_ ?_ | refine rows_lt1 ?_ | refine rows_lt2 ?_ ?_ | refine rows_lt3 ?_ ?_ ?_ | refine rows_lt4 ?_ ?_ ?_ ?_ | refine rows_lt5 ?_ ?_ ?_ ?_ ?_ | refine aggs_lt1 ?_ | refine aggs_lt2 ?_ ?_ | refine aggs_lt3 ?_ ?_ ?_ | refine fun (_ : Nat) => ?_) | refine fun (_ : (_ : Nat) < _) => ?_ | exact rfl | exact Nat.le_of_ble_eq_true rfl | (change (_ : Nat) ≤ _; omega) | (change (_ : Nat) = _; omega) | (change (_ : Int) = _; omega))); (all_goals try (conv => whnf)))
    · rename_i i hi
      refine LeW_jn (e := 23) hi (fun _ => ?_) (fun e => ?_)
      · ((repeat' ((conv => whnf) <;> first | exact trivial | (with_reducible first | refine And.intro ?_ ?_ | refine rows_lt1 ?_ | refine rows_lt2 ?_ ?_ | refine rows_lt3 ?_ ?_ ?_ | refine rows_lt4 ?_ ?_ ?_ ?_ | refine rows_lt5 ?_ ?_ ?_ ?_ ?_ | refine aggs_lt1 ?_ | refine aggs_lt2 ?_ ?_ | refine aggs_lt3 ?_ ?_ ?_ | refine fun (_ : Nat) => ?_) | refine fun (_ : (_ : Nat) < _) => ?_ | exact rfl | exact Nat.le_of_ble_eq_true rfl | (change (_ : Nat) ≤ _; omega) | (change (_ : Nat) = _; omega) | (change (_ : Int) = _; omega))); (all_goals try (conv => whnf)))
      · subst e
        ((repeat' ((conv => whnf) <;> first | exact trivial | (with_reducible first | refine And.intro ?_ ?_ | refine rows_lt1 ?_ | refine rows_lt2 ?_ ?_ | refine rows_lt3 ?_ ?_ ?_ | refine rows_lt4 ?_ ?_ ?_ ?_ | refine rows_lt5 ?_ ?_ ?_ ?_ ?_ | refine aggs_lt1 ?_ | refine aggs_lt2 ?_ ?_ | refine aggs_lt3 ?_ ?_ ?_ | refine fun (_ : Nat) => ?_) | refine fun (_ : (_ : Nat) < _) => ?_ | exact rfl | exact Nat.le_of_ble_eq_true rfl | (change (_ : Nat) ≤ _; omega) | (change (_ : Nat) = _; omega) | (change (_ : Int) = _; omega))); (all_goals try (conv => whnf)))
    · show b _ = b _
      congr 1; simp only [Int.reduceToNat]; omega
  · obtain rfl : k = n := by omega
    repeat ((conv => whnf); first | refine sdO ?_ | refine nlO ?_ | refine goA ?_ | refine goB ?_ | (apply Exists.intro; (repeat apply Exists.intro); refine caO ?_) | (refine Or.inl ?_; (conv => whnf); (repeat apply Exists.intro); refine caO ?_) | (refine Or.inr ?_; (conv => whnf); first | ((repeat apply Exists.intro); refine caO ?_) | (refine Or.inl ?_; (conv => whnf); (repeat apply Exists.intro); refine caO ?_) | (refine Or.inr ?_; (conv => whnf); (repeat apply Exists.intro); refine caO ?_)) | refine And.intro (by assumption) ?_ | refine goT ?_ | refine goF ?_ | refine goL ?_ | refine goR ?_ | refine goRL ?_ | refine goRR ?_)
    all_goals try (conv => whnf)
    ((repeat' ((conv => whnf) <;> first | exact trivial | (with_reducible first | refine And.intro ?_ ?_ | refine rows_lt1 ?_ | refine rows_lt2 ?_ ?_ | refine rows_lt3 ?_ ?_ ?_ | refine rows_lt4 ?_ ?_ ?_ ?_ | refine rows_lt5 ?_ ?_ ?_ ?_ ?_ | refine aggs_lt1 ?_ | refine aggs_lt2 ?_ ?_ | refine aggs_lt3 ?_ ?_ ?_ | refine fun (_ : Nat) => ?_) | refine fun (_ : (_ : Nat) < _) => ?_ | exact rfl | exact Nat.le_of_ble_eq_true rfl | (change (_ : Nat) ≤ _; omega) | (change (_ : Nat) = _; omega) | (change (_ : Int) = _; omega))); (all_goals try (conv => whnf)))
def C_lms_hashesL : SpecP := fun A K => ∃ l b, A [bsl l b] ∧ l % 32 = 0 ∧ l ≤ 32000 ∧ K (dgsf (l / 32) (hsO b))
theorem g_lms_hashesL : Gd 72 (pureP ty C_lms_hashesL) := good_imp g_lms_hashes fun args m key K ⟨l, b, hA, h, hl, hK⟩ => ⟨l / 32, b, by rw [show 32 * (l / 32) = l by omega]; exact hA, by omega, hK⟩
/-! ### Parts -/
abbrev reB (b : Nat → BitVec 8) (P : Nat) : Nat → BitVec 8 := fun j => b (4 + (36 + 32 * P + j))
abbrev trT (b : Nat → BitVec 8) : BitVec 32 := w4 (reB b (tp (sgT b)) 0) (reB b (tp (sgT b)) 1) (reB b (tp (sgT b)) 2) (reB b (tp (sgT b)) 3)
abbrev lfQ (b : Nat → BitVec 8) : BitVec 32 := w4 (b 0) (b 1) (b 2) (b 3)
abbrev paO (b : Nat → BitVec 8) : AV := tupOf [.u32 (lfQ b), bsf (36 + 32 * tp (sgT b)) (fun j => b (4 + j)), .u32 (trT b), dgsf (hgN (trT b)) (hsO fun j => reB b (tp (sgT b)) (4 + j)), .nat 0]
theorem tp_le' {t : BitVec 32} (h : otOK t) : 34 ≤ tp t ∧ tp t ≤ 265 := ⟨(ot_facts t h).2.2.1, (ot_facts t h).2.1⟩
theorem own_pa (b : Nat → BitVec 8) : Own (paO b) := fun i hi => by
  rcases i with _ | _ | _ | _ | _ | i
  · exact trivial
  · exact ⟨rfl, fun _ _ => trivial⟩
  · exact trivial
  · exact ⟨rfl, fun _ _ _ _ => trivial⟩
  · exact trivial
  · exact absurd hi (by show ¬ i + 5 < 5; omega)
def C_lms_Parts : SpecP := fun A K => ∃ l b, A [bsl l b] ∧ ((l < 8 ∧ K (eA 2)) ∨ (¬ otOK (sgT b) ∧ 8 ≤ l ∧ K (eA 6)) ∨ (otOK (sgT b) ∧ 8 ≤ l ∧ ((l < 44 + 32 * tp (sgT b) ∧ K (eA 2)) ∨ (¬ hgOK (trT b) ∧ 44 + 32 * tp (sgT b) ≤ l ∧ K (eA 6)) ∨
  (hgOK (trT b) ∧ 44 + 32 * tp (sgT b) ≤ l ∧ (((¬ l = 44 + 32 * tp (sgT b) + 32 * hgN (trT b) ∨ ¬ lfQ b >>> hgN (trT b) = BitVec.ofInt 32 0) ∧ K (eA 2)) ∨ (lfQ b >>> hgN (trT b) = BitVec.ofInt 32 0 ∧ l = 44 + 32 * tp (sgT b) + 32 * hgN (trT b) ∧ K (paO b)))))))
theorem g_lms_Parts : Gd 52 (pureP ty C_lms_Parts) := by
  refine goodP (E := PG [(69, pureP ty C_reject), (70, aliasP ty C_lms_cut), (53, pureP ty C_lms_word), (33, pureP ty C_ots_Params), (71, pureP ty C_oneSize), (35, pureP ty C_lms_HeightV), (23, pureP ty C_bytes_Clone), (72, pureP ty C_lms_hashesL)]) (pgOK ⟨g_reject, g_lms_cut, g_lms_word, g_ots_Params, g_oneSize, g_lms_HeightV, g_bytes_Clone, g_lms_hashesL, trivial⟩) mixes Tryd.func52 (by kernel_rfl) (by kernel_rfl) ?_
  rintro A K ⟨l, b, hA, ⟨h8, hK⟩ | ⟨ho, h8, hK⟩ | ⟨ho, h8, ⟨hl, hK⟩ | ⟨hg, hl, hK⟩ | ⟨hg, hl, ⟨hx, hK⟩ | ⟨hq, hx, hK⟩⟩⟩⟩
  · refine ⟨_, _, fun _ => none, hA, hK, by kernel_rfl, own_e _, ?_⟩
    repeat ((conv => whnf); first | refine sdO ?_ | refine nlO ?_ | refine goA ?_ | refine goB ?_ | (apply Exists.intro; (repeat apply Exists.intro); refine caO ?_) | (refine Or.inl ?_; (conv => whnf); (repeat apply Exists.intro); refine caO ?_) | (refine Or.inr ?_; (conv => whnf); first | ((repeat apply Exists.intro); refine caO ?_) | (refine Or.inl ?_; (conv => whnf); (repeat apply Exists.intro); refine caO ?_) | (refine Or.inr ?_; (conv => whnf); (repeat apply Exists.intro); refine caO ?_)) | refine And.intro (by assumption) ?_ | refine goT ?_ | refine goF ?_ | refine goL ?_ | refine goR ?_ | refine goRL ?_ | refine goRR ?_)
    all_goals try (conv => whnf)
    ((repeat' ((conv => whnf) <;> first | exact trivial | (with_reducible first | refine And.intro ?_ ?_ | refine rows_lt1 ?_ | refine rows_lt2 ?_ ?_ | refine rows_lt3 ?_ ?_ ?_ | refine rows_lt4 ?_ ?_ ?_ ?_ | refine rows_lt5 ?_ ?_ ?_ ?_ ?_ | refine aggs_lt1 ?_ | refine aggs_lt2 ?_ ?_ | refine aggs_lt3 ?_ ?_ ?_ | refine fun (_ : Nat) => ?_) | refine fun (_ : (_ : Nat) < _) => ?_ | exact rfl | exact Nat.le_of_ble_eq_true rfl | (change (_ : Nat) ≤ _; omega) | (change (_ : Nat) = _; omega) | (change (_ : Int) = _; omega))); (all_goals try (conv => whnf)))
  · refine ⟨_, _, fun _ => none, hA, hK, by kernel_rfl, own_e _, ?_⟩
    repeat ((conv => whnf); first | refine sdO ?_ | refine nlO ?_ | refine goA ?_ | refine goB ?_ | (apply Exists.intro; (repeat apply Exists.intro); refine caO ?_) | (refine Or.inl ?_; (conv => whnf); (repeat apply Exists.intro); refine caO ?_) | (refine Or.inr ?_; (conv => whnf); first | ((repeat apply Exists.intro); refine caO ?_) | (refine Or.inl ?_; (conv => whnf); (repeat apply Exists.intro); refine caO ?_) | (refine Or.inr ?_; (conv => whnf); (repeat apply Exists.intro); refine caO ?_)) | refine And.intro (by assumption) ?_ | refine goT ?_ | refine goF ?_ | refine goL ?_ | refine goR ?_ | refine goRL ?_ | refine goRR ?_)
    all_goals try (conv => whnf)
    ((repeat' ((conv => whnf) <;> first | exact trivial | (with_reducible first | refine And.intro ?_ ?_ | refine rows_lt1 ?_ | refine rows_lt2 ?_ ?_ | refine rows_lt3 ?_ ?_ ?_ | refine rows_lt4 ?_ ?_ ?_ ?_ | refine rows_lt5 ?_ ?_ ?_ ?_ ?_ | refine aggs_lt1 ?_ | refine aggs_lt2 ?_ ?_ | refine aggs_lt3 ?_ ?_ ?_ | refine fun (_ : Nat) => ?_) | refine fun (_ : (_ : Nat) < _) => ?_ | exact rfl | exact Nat.le_of_ble_eq_true rfl | (change (_ : Nat) ≤ _; omega) | (change (_ : Nat) = _; omega) | (change (_ : Int) = _; omega))); (all_goals try (conv => whnf)))
  · refine ⟨_, _, fun _ => none, hA, hK, by kernel_rfl, own_e _, ?_⟩
    have hp := tp_le' ho
    have e1 : tp (w4 (b (4 + 0)) (b (4 + 1)) (b (4 + 2)) (b (4 + 3))) = tp (sgT b) := rfl
    repeat ((conv => whnf); first | refine sdO ?_ | refine nlO ?_ | refine goA ?_ | refine goB ?_ | (apply Exists.intro; (repeat apply Exists.intro); refine caO ?_) | (refine Or.inl ?_; (conv => whnf); (repeat apply Exists.intro); refine caO ?_) | (refine Or.inr ?_; (conv => whnf); first | ((repeat apply Exists.intro); refine caO ?_) | (refine Or.inl ?_; (conv => whnf); (repeat apply Exists.intro); refine caO ?_) | (refine Or.inr ?_; (conv => whnf); (repeat apply Exists.intro); refine caO ?_)) | refine And.intro (by assumption) ?_ | refine goT ?_ | refine goF ?_ | refine goL ?_ | refine goR ?_ | refine goRL ?_ | refine goRR ?_)
    all_goals try (conv => whnf)
    ((repeat' ((conv => whnf) <;> first | exact trivial | (with_reducible first | refine And.intro ?_ ?_ | refine rows_lt1 ?_ | refine rows_lt2 ?_ ?_ | refine rows_lt3 ?_ ?_ ?_ | refine rows_lt4 ?_ ?_ ?_ ?_ | refine rows_lt5 ?_ ?_ ?_ ?_ ?_ | refine aggs_lt1 ?_ | refine aggs_lt2 ?_ ?_ | refine aggs_lt3 ?_ ?_ ?_ | refine fun (_ : Nat) => ?_) | refine fun (_ : (_ : Nat) < _) => ?_ | exact rfl | exact Nat.le_of_ble_eq_true rfl | (change (_ : Nat) ≤ _; omega) | (change (_ : Nat) = _; omega) | (change (_ : Int) = _; omega))); (all_goals try (conv => whnf)))
  · refine ⟨_, _, fun _ => none, hA, hK, by kernel_rfl, own_e _, ?_⟩
    have hp := tp_le' ho
    have e1 : tp (w4 (b (4 + 0)) (b (4 + 1)) (b (4 + 2)) (b (4 + 3))) = tp (sgT b) := rfl
    repeat ((conv => whnf); first | refine sdO ?_ | refine nlO ?_ | refine goA ?_ | refine goB ?_ | (apply Exists.intro; (repeat apply Exists.intro); refine caO ?_) | (refine Or.inl ?_; (conv => whnf); (repeat apply Exists.intro); refine caO ?_) | (refine Or.inr ?_; (conv => whnf); first | ((repeat apply Exists.intro); refine caO ?_) | (refine Or.inl ?_; (conv => whnf); (repeat apply Exists.intro); refine caO ?_) | (refine Or.inr ?_; (conv => whnf); (repeat apply Exists.intro); refine caO ?_)) | refine And.intro (by assumption) ?_ | refine goT ?_ | refine goF ?_ | refine goL ?_ | refine goR ?_ | refine goRL ?_ | refine goRR ?_)
    all_goals try (conv => whnf)
    ((repeat' ((conv => whnf) <;> first | exact trivial | (with_reducible first | refine And.intro ?_ ?_ | refine rows_lt1 ?_ | refine rows_lt2 ?_ ?_ | refine rows_lt3 ?_ ?_ ?_ | refine rows_lt4 ?_ ?_ ?_ ?_ | refine rows_lt5 ?_ ?_ ?_ ?_ ?_ | refine aggs_lt1 ?_ | refine aggs_lt2 ?_ ?_ | refine aggs_lt3 ?_ ?_ ?_ | refine fun (_ : Nat) => ?_) | refine fun (_ : (_ : Nat) < _) => ?_ | exact rfl | exact Nat.le_of_ble_eq_true rfl | (change (_ : Nat) ≤ _; omega) | (change (_ : Nat) = _; omega) | (change (_ : Int) = _; omega))); (all_goals try (conv => whnf)))
  · have hp := tp_le' ho
    have e1 : tp (w4 (b (4 + 0)) (b (4 + 1)) (b (4 + 2)) (b (4 + 3))) = tp (sgT b) := rfl
    have hg2 := hg_facts hg
    have e2 : hgN (w4 (b (4 + (36 + 32 * tp (w4 (b (4 + 0)) (b (4 + 1)) (b (4 + 2)) (b (4 + 3))) + 0))) (b (4 + (36 + 32 * tp (w4 (b (4 + 0)) (b (4 + 1)) (b (4 + 2)) (b (4 + 3))) + 1))) (b (4 + (36 + 32 * tp (w4 (b (4 + 0)) (b (4 + 1)) (b (4 + 2)) (b (4 + 3))) + 2))) (b (4 + (36 + 32 * tp (w4 (b (4 + 0)) (b (4 + 1)) (b (4 + 2)) (b (4 + 3))) + 3)))) = hgN (trT b) := rfl
    rcases Decidable.em (l = 44 + 32 * tp (sgT b) + 32 * hgN (trT b)) with hl2 | hl2
    · have hq : ¬ lfQ b >>> hgN (trT b) = BitVec.ofInt 32 0 := hx.elim (fun h => absurd hl2 h) id
      refine ⟨_, _, fun _ => none, hA, hK, by kernel_rfl, own_e _, ?_⟩
      repeat ((conv => whnf); first | refine sdO ?_ | refine nlO ?_ | refine goA ?_ | refine goB ?_ | (apply Exists.intro; (repeat apply Exists.intro); refine caO ?_) | (refine Or.inl ?_; (conv => whnf); (repeat apply Exists.intro); refine caO ?_) | (refine Or.inr ?_; (conv => whnf); first | ((repeat apply Exists.intro); refine caO ?_) | (refine Or.inl ?_; (conv => whnf); (repeat apply Exists.intro); refine caO ?_) | (refine Or.inr ?_; (conv => whnf); (repeat apply Exists.intro); refine caO ?_)) | refine And.intro (by assumption) ?_ | refine goT ?_ | refine goF ?_ | refine goL ?_ | refine goR ?_ | refine goRL ?_ | refine goRR ?_)
      all_goals try (conv => whnf)
      ((repeat' ((conv => whnf) <;> first | exact trivial | (with_reducible first | refine And.intro ?_ ?_ | refine rows_lt1 ?_ | refine rows_lt2 ?_ ?_ | refine rows_lt3 ?_ ?_ ?_ | refine rows_lt4 ?_ ?_ ?_ ?_ | refine rows_lt5 ?_ ?_ ?_ ?_ ?_ | refine aggs_lt1 ?_ | refine aggs_lt2 ?_ ?_ | refine aggs_lt3 ?_ ?_ ?_ | refine fun (_ : Nat) => ?_) | refine fun (_ : (_ : Nat) < _) => ?_ | exact rfl | exact Nat.le_of_ble_eq_true rfl | (change (_ : Nat) ≤ _; omega) | (change (_ : Nat) = _; omega) | (change (_ : Int) = _; omega))); (all_goals try (conv => whnf)))
    · refine ⟨_, _, fun _ => none, hA, hK, by kernel_rfl, own_e _, ?_⟩
      repeat ((conv => whnf); first | refine sdO ?_ | refine nlO ?_ | refine goA ?_ | refine goB ?_ | (apply Exists.intro; (repeat apply Exists.intro); refine caO ?_) | (refine Or.inl ?_; (conv => whnf); (repeat apply Exists.intro); refine caO ?_) | (refine Or.inr ?_; (conv => whnf); first | ((repeat apply Exists.intro); refine caO ?_) | (refine Or.inl ?_; (conv => whnf); (repeat apply Exists.intro); refine caO ?_) | (refine Or.inr ?_; (conv => whnf); (repeat apply Exists.intro); refine caO ?_)) | refine And.intro (by assumption) ?_ | refine goT ?_ | refine goF ?_ | refine goL ?_ | refine goR ?_ | refine goRL ?_ | refine goRR ?_)
      all_goals try (conv => whnf)
      ((repeat' ((conv => whnf) <;> first | exact trivial | (with_reducible first | refine And.intro ?_ ?_ | refine rows_lt1 ?_ | refine rows_lt2 ?_ ?_ | refine rows_lt3 ?_ ?_ ?_ | refine rows_lt4 ?_ ?_ ?_ ?_ | refine rows_lt5 ?_ ?_ ?_ ?_ ?_ | refine aggs_lt1 ?_ | refine aggs_lt2 ?_ ?_ | refine aggs_lt3 ?_ ?_ ?_ | refine fun (_ : Nat) => ?_) | refine fun (_ : (_ : Nat) < _) => ?_ | exact rfl | exact Nat.le_of_ble_eq_true rfl | (change (_ : Nat) ≤ _; omega) | (change (_ : Nat) = _; omega) | (change (_ : Int) = _; omega))); (all_goals try (conv => whnf)))
  · have hp := tp_le' ho
    have e1 : tp (w4 (b (4 + 0)) (b (4 + 1)) (b (4 + 2)) (b (4 + 3))) = tp (sgT b) := rfl
    have hg2 := hg_facts hg
    have e2 : hgN (w4 (b (4 + (36 + 32 * tp (w4 (b (4 + 0)) (b (4 + 1)) (b (4 + 2)) (b (4 + 3))) + 0))) (b (4 + (36 + 32 * tp (w4 (b (4 + 0)) (b (4 + 1)) (b (4 + 2)) (b (4 + 3))) + 1))) (b (4 + (36 + 32 * tp (w4 (b (4 + 0)) (b (4 + 1)) (b (4 + 2)) (b (4 + 3))) + 2))) (b (4 + (36 + 32 * tp (w4 (b (4 + 0)) (b (4 + 1)) (b (4 + 2)) (b (4 + 3))) + 3)))) = hgN (trT b) := rfl
    refine ⟨_, _, fun _ => none, hA, hK, by kernel_rfl, own_pa _, ?_⟩
    repeat ((conv => whnf); first | refine sdO ?_ | refine nlO ?_ | refine goA ?_ | refine goB ?_ | (apply Exists.intro; (repeat apply Exists.intro); refine caO ?_) | (refine Or.inl ?_; (conv => whnf); (repeat apply Exists.intro); refine caO ?_) | (refine Or.inr ?_; (conv => whnf); first | ((repeat apply Exists.intro); refine caO ?_) | (refine Or.inl ?_; (conv => whnf); (repeat apply Exists.intro); refine caO ?_) | (refine Or.inr ?_; (conv => whnf); (repeat apply Exists.intro); refine caO ?_)) | refine And.intro (by assumption) ?_ | refine goT ?_ | refine goF ?_ | refine goL ?_ | refine goR ?_ | refine goRL ?_ | refine goRR ?_)
    all_goals try (conv => whnf)
    ((repeat' ((conv => whnf) <;> first | exact trivial | (with_reducible first | refine And.intro ?_ ?_ | refine rows_lt1 ?_ | refine rows_lt2 ?_ ?_ | refine rows_lt3 ?_ ?_ ?_ | refine rows_lt4 ?_ ?_ ?_ ?_ | refine rows_lt5 ?_ ?_ ?_ ?_ ?_ | refine aggs_lt1 ?_ | refine aggs_lt2 ?_ ?_ | refine aggs_lt3 ?_ ?_ ?_ | refine fun (_ : Nat) => ?_) | refine fun (_ : (_ : Nat) < _) => ?_ | exact rfl | exact Nat.le_of_ble_eq_true rfl | (change (_ : Nat) ≤ _; omega) | (change (_ : Nat) = _; omega) | (change (_ : Int) = _; omega))); (all_goals try (conv => whnf)))
    show (l - 4 - (36 + 32 * tp (sgT b)) - 4) / 32 = hgN (trT b)
    omega
end Go.Proofs.YtnfebaialdfffaaDoor
