/- lms: the reference's parts, where they are good. -/
import Derived.Test.YtnfebaialdfffaaDoorQ6
namespace Go.Proofs.YtnfebaialdfffaaDoor
open Go.RowKit
set_option maxRecDepth 100000
set_option maxHeartbeats 20000000
attribute [local irreducible] hsh rst sha256 press dig valN mash fold digs ch tw tp tlS cf ckN dgT pubE upTo sgV sigB mashD clE mixA clK pubK st1 at8 hgN w4
theorem LeW_jT {m : Nat → Option Row} {ty : TypeId → Ty} {rw : List (Nat × Row)} {ρ : Nat → Option Nat} {τ : Ty} {n j : Nat} {f g : Nat → AV} {b : AV} (hτ : ∀ f n g j, joinA τ f n g j = if j < n then f j else g (j - n)) (hj : j < n + 1) (h1 : j < n → LeW m ty rw ρ (f j) b) (h2 : j = n → LeW m ty rw ρ (g 0) b) : LeW m ty rw ρ (joinA τ f n g j) b := by
  rw [hτ]
  by_cases h : j < n
  · rw [if_pos h]; exact h1 h
  · rw [if_neg h, show j - n = 0 by omega]; exact h2 (by omega)
def C_r6_PartsO : SpecM := fun A K => ∃ l b, A [.gsl 5 0 l] [(0, .grow 5 l (bys b))] ∧ l ≤ 100000 ∧ paE l b = 0 ∧ K (tupOf [sgA (lfQ b) (trT b) (.gsub 5 0 l 4 (36 + 32 * tp (sgT b))) (.gsl 23 8 (hgN (trT b))), .nat 0]) [(0, .grow 5 l (bys b)), (8, .grow 23 (hgN (trT b)) (fun i => arr8 32 (paP b i)))]
def L_r6_Parts (l P H : Nat) (q t : BitVec 32) (b : Nat → BitVec 8) (p : Nat → Nat → BitVec 8) : LI := ⟨Nat, (· ≤ H), fun k => [(0, .gsl 5 0 l), (2, .ptr TSg 8 []), (7, .nat (40 + 32 * P)), (8, .ptr TSg 6272 []), (9, .nat H), (10, .nat k)],
  fun k => [(0, .grow 5 l (bys b)), (8, .var TSg sgZ), (6272, .var TSg (sgA q t (.gsub 5 0 l 4 (36 + 32 * P)) (.gsl 23 9000 k))), (9000, .grow 23 k (fun i => arr8 32 (p i)))], fun k => H - k, fun k => bif Nat.beq k 9000 then none else some k, some⟩
theorem g_r6_PartsO : Gd 16 (mutD ty [true] C_r6_PartsO) := by
  refine goodD (E := PG [(37, pureP ty C_r1_Value4L), (9, pureP ty C_r5_TableQ), (38, pureP ty C_r6_Height)]) (pgOK ⟨g_r1_Value4L, g_r5_TableQ, g_r6_Height, trivial⟩) mixes Tryd.func16 (by kernel_rfl) (by kernel_rfl) ?_
  rintro A K ⟨l, b, hA, hl, h0, hK⟩
  obtain ⟨h8, ho, hg, hl3, hq⟩ := paE_0 h0
  have ho' : otOK (BitVec.setWidth 32 (BitVec.setWidth 64 (sgT b))) := by rw [swQ]; exact ho
  have hw := tw0 ho'
  have hp := tp_le' ho
  have ht : tp (BitVec.setWidth 32 (BitVec.setWidth 64 (sgT b))) = tp (sgT b) := by rw [swQ]
  have e1 : tp (BitVec.setWidth 32 (BitVec.setWidth 64 (w4 (b (4 + 0)) (b (4 + 1)) (b (4 + 2)) (b (4 + 3))))) = tp (sgT b) := ht
  have e2 : Int.toNat 40 + Int.toNat 32 * tp (BitVec.setWidth 32 (BitVec.setWidth 64 (w4 (b (Int.toNat 4 + 0)) (b (Int.toNat 4 + 1)) (b (Int.toNat 4 + 2)) (b (Int.toNat 4 + 3))))) = 40 + 32 * tp (sgT b) := by rw [show tp (BitVec.setWidth 32 (BitVec.setWidth 64 (w4 (b (Int.toNat 4 + 0)) (b (Int.toNat 4 + 1)) (b (Int.toNat 4 + 2)) (b (Int.toNat 4 + 3))))) = tp (sgT b) from ht]; rfl
  have e3 : Int.toNat 4 = 4 := rfl
  have hT := trQ b _ _ e2
  have hg' := (congrArg hgOK hT).mpr hg
  have hh := hg_facts hg'
  have e4 := congrArg hgN hT
  have e1' : 40 + 32 * tp (BitVec.setWidth 32 (BitVec.setWidth 64 (w4 (b (4 + 0)) (b (4 + 1)) (b (4 + 2)) (b (4 + 3))))) = 40 + 32 * tp (sgT b) := by rw [e1]
  have hT1 := trQ b _ _ e1'
  have hh1 := hg_facts ((congrArg hgOK hT1).mpr hg)
  have e41 := congrArg hgN hT1
  have hh0 : ¬ hgN (trT b) = 0 := by have := (hg_facts hg).1; omega
  have hh2 := (hg_facts hg).2
  have hh3 : hgN (trT b) ≤ maxLen := Nat.le_trans hh2 (by decide)
  have eL : Int.toNat 40 + Int.toNat 32 * tp (BitVec.setWidth 32 (BitVec.setWidth 64 (w4 (b (Int.toNat 4 + 0)) (b (Int.toNat 4 + 1)) (b (Int.toNat 4 + 2)) (b (Int.toNat 4 + 3))))) + Int.toNat 4 + Int.toNat 32 * hgN (BitVec.setWidth 32 (BitVec.setWidth 64 (w4 (b (Int.toNat 40 + Int.toNat 32 * tp (BitVec.setWidth 32 (BitVec.setWidth 64 (w4 (b (Int.toNat 4 + 0)) (b (Int.toNat 4 + 1)) (b (Int.toNat 4 + 2)) (b (Int.toNat 4 + 3))))) + 0)) (b (Int.toNat 40 + Int.toNat 32 * tp (BitVec.setWidth 32 (BitVec.setWidth 64 (w4 (b (Int.toNat 4 + 0)) (b (Int.toNat 4 + 1)) (b (Int.toNat 4 + 2)) (b (Int.toNat 4 + 3))))) + 1)) (b (Int.toNat 40 + Int.toNat 32 * tp (BitVec.setWidth 32 (BitVec.setWidth 64 (w4 (b (Int.toNat 4 + 0)) (b (Int.toNat 4 + 1)) (b (Int.toNat 4 + 2)) (b (Int.toNat 4 + 3))))) + 2)) (b (Int.toNat 40 + Int.toNat 32 * tp (BitVec.setWidth 32 (BitVec.setWidth 64 (w4 (b (Int.toNat 4 + 0)) (b (Int.toNat 4 + 1)) (b (Int.toNat 4 + 2)) (b (Int.toNat 4 + 3))))) + 3))))) = 44 + 32 * tp (sgT b) + 32 * hgN (trT b) := by
    rw [e4, e2]
    show 40 + 32 * tp (sgT b) + 4 + 32 * hgN (trT b) = 44 + 32 * tp (sgT b) + 32 * hgN (trT b)
    omega
  have hl4 : ¬ l ≠ Int.toNat 40 + Int.toNat 32 * tp (BitVec.setWidth 32 (BitVec.setWidth 64 (w4 (b (Int.toNat 4 + 0)) (b (Int.toNat 4 + 1)) (b (Int.toNat 4 + 2)) (b (Int.toNat 4 + 3))))) + Int.toNat 4 + Int.toNat 32 * hgN (BitVec.setWidth 32 (BitVec.setWidth 64 (w4 (b (Int.toNat 40 + Int.toNat 32 * tp (BitVec.setWidth 32 (BitVec.setWidth 64 (w4 (b (Int.toNat 4 + 0)) (b (Int.toNat 4 + 1)) (b (Int.toNat 4 + 2)) (b (Int.toNat 4 + 3))))) + 0)) (b (Int.toNat 40 + Int.toNat 32 * tp (BitVec.setWidth 32 (BitVec.setWidth 64 (w4 (b (Int.toNat 4 + 0)) (b (Int.toNat 4 + 1)) (b (Int.toNat 4 + 2)) (b (Int.toNat 4 + 3))))) + 1)) (b (Int.toNat 40 + Int.toNat 32 * tp (BitVec.setWidth 32 (BitVec.setWidth 64 (w4 (b (Int.toNat 4 + 0)) (b (Int.toNat 4 + 1)) (b (Int.toNat 4 + 2)) (b (Int.toNat 4 + 3))))) + 2)) (b (Int.toNat 40 + Int.toNat 32 * tp (BitVec.setWidth 32 (BitVec.setWidth 64 (w4 (b (Int.toNat 4 + 0)) (b (Int.toNat 4 + 1)) (b (Int.toNat 4 + 2)) (b (Int.toNat 4 + 3))))) + 3))))) := by rw [eL]; exact fun q => q hl3
  have hq2 : ¬ BitVec.ofInt 64 1 <<< hgN (BitVec.setWidth 32 (BitVec.setWidth 64 (w4 (b (Int.toNat 40 + Int.toNat 32 * tp (BitVec.setWidth 32 (BitVec.setWidth 64 (w4 (b (Int.toNat 4 + 0)) (b (Int.toNat 4 + 1)) (b (Int.toNat 4 + 2)) (b (Int.toNat 4 + 3))))) + 0)) (b (Int.toNat 40 + Int.toNat 32 * tp (BitVec.setWidth 32 (BitVec.setWidth 64 (w4 (b (Int.toNat 4 + 0)) (b (Int.toNat 4 + 1)) (b (Int.toNat 4 + 2)) (b (Int.toNat 4 + 3))))) + 1)) (b (Int.toNat 40 + Int.toNat 32 * tp (BitVec.setWidth 32 (BitVec.setWidth 64 (w4 (b (Int.toNat 4 + 0)) (b (Int.toNat 4 + 1)) (b (Int.toNat 4 + 2)) (b (Int.toNat 4 + 3))))) + 2)) (b (Int.toNat 40 + Int.toNat 32 * tp (BitVec.setWidth 32 (BitVec.setWidth 64 (w4 (b (Int.toNat 4 + 0)) (b (Int.toNat 4 + 1)) (b (Int.toNat 4 + 2)) (b (Int.toNat 4 + 3))))) + 3))))) ≤ BitVec.setWidth 64 (BitVec.setWidth 32 (BitVec.setWidth 64 (w4 (b (0 + 0)) (b (0 + 1)) (b (0 + 2)) (b (0 + 3))))) := by
    rw [e4]
    exact fun z => (shq (lfQ b) _ (hg_facts hg).2).1 z hq
  refine ⟨_, _, _, _, loops [(16, L_r6_Parts l (tp (sgT b)) (hgN (trT b)) (lfQ b) (trT b) b (paP b))], hA, hK, by kernel_rfl, by kernel_rfl, ⟨rfl, trivial, trivial⟩, ⟨fun _ _ => trivial, fun _ _ _ _ => trivial, trivial⟩, own_res (own_sg trivial trivial) trivial, ?_⟩
  repeat ((conv => whnf); first | refine sdO ?_ | refine nlO ?_ | refine goA ?_ | refine goB ?_ | (apply Exists.intro; (repeat apply Exists.intro); refine caO ?_) | (refine Or.inl ?_; (conv => whnf); (repeat apply Exists.intro); refine caO ?_) | (refine Or.inr ?_; (conv => whnf); first | ((repeat apply Exists.intro); refine caO ?_) | (refine Or.inl ?_; (conv => whnf); (repeat apply Exists.intro); refine caO ?_) | (refine Or.inr ?_; (conv => whnf); (repeat apply Exists.intro); refine caO ?_)) | refine And.intro (by assumption) ?_ | refine goT ?_ | refine goF ?_ | refine goL ?_ | refine goR ?_ | refine goRL ?_ | refine goRR ?_)
  all_goals try (conv => whnf)
  refine Exists.intro (fun _ => True) (And.intro (Enter.mk (0 : Nat) (Nat.zero_le _) trivial ?_) (fun (k : Nat) (hk : k ≤ hgN (trT b)) _ => ?_))
  · ((repeat' ((conv => whnf) <;> first | exact trivial | (with_reducible first | refine And.intro ?_ ?_ | refine rows_lt1 ?_ | refine rows_lt2 ?_ ?_ | refine rows_lt3 ?_ ?_ ?_ | refine rows_lt4 ?_ ?_ ?_ ?_ | refine rows_lt5 ?_ ?_ ?_ ?_ ?_ | refine aggs_lt1 ?_ | refine aggs_lt2 ?_ ?_ | refine aggs_lt3 ?_ ?_ ?_ | refine fun (_ : Nat) => ?_) | refine fun (_ : (_ : Nat) < _) => ?_ | exact rfl | exact Nat.le_of_ble_eq_true rfl | (change (_ : Nat) ≤ _; omega) | (change (_ : Nat) = _; omega) | (change (_ : Int) = _; omega))); (all_goals try (conv => whnf)))
    · exact swQ (lfQ b)
    · exact hT
  rcases Nat.lt_or_ge k (hgN (trT b)) with h | h
  · skip
    repeat ((conv => whnf); first | refine sdO ?_ | refine nlO ?_ | refine goA ?_ | refine goB ?_ | (apply Exists.intro; (repeat apply Exists.intro); refine caO ?_) | (refine Or.inl ?_; (conv => whnf); (repeat apply Exists.intro); refine caO ?_) | (refine Or.inr ?_; (conv => whnf); first | ((repeat apply Exists.intro); refine caO ?_) | (refine Or.inl ?_; (conv => whnf); (repeat apply Exists.intro); refine caO ?_) | (refine Or.inr ?_; (conv => whnf); (repeat apply Exists.intro); refine caO ?_)) | refine And.intro (by assumption) ?_ | refine goT ?_ | refine goF ?_ | refine goL ?_ | refine goR ?_ | refine goRL ?_ | refine goRR ?_)
    all_goals try (conv => whnf)
    refine Again.mk (k + 1 : Nat) h trivial (show hgN (trT b) - (k + 1) < hgN (trT b) - k by omega) ?_
    ((repeat' ((conv => whnf) <;> first | exact trivial | (with_reducible first | refine And.intro ?_ ?_ | refine rows_lt1 ?_ | refine rows_lt2 ?_ ?_ | refine rows_lt3 ?_ ?_ ?_ | refine rows_lt4 ?_ ?_ ?_ ?_ | refine rows_lt5 ?_ ?_ ?_ ?_ ?_ | refine aggs_lt1 ?_ | refine aggs_lt2 ?_ ?_ | refine aggs_lt3 ?_ ?_ ?_ | refine fun (_ : Nat) => ?_) | refine fun (_ : (_ : Nat) < _) => ?_ | exact rfl | exact Nat.le_of_ble_eq_true rfl | (change (_ : Nat) ≤ _; omega) | (change (_ : Nat) = _; omega) | (change (_ : Int) = _; omega))); (all_goals try (conv => whnf)))
    rename_i j hj
    refine LeW_jT (fun _ _ _ _ => rfl) hj (fun hj2 => ?_) (fun hj2 => ?_)
    · ((repeat' ((conv => whnf) <;> first | exact trivial | (with_reducible first | refine And.intro ?_ ?_ | refine rows_lt1 ?_ | refine rows_lt2 ?_ ?_ | refine rows_lt3 ?_ ?_ ?_ | refine rows_lt4 ?_ ?_ ?_ ?_ | refine rows_lt5 ?_ ?_ ?_ ?_ ?_ | refine aggs_lt1 ?_ | refine aggs_lt2 ?_ ?_ | refine aggs_lt3 ?_ ?_ ?_ | refine fun (_ : Nat) => ?_) | refine fun (_ : (_ : Nat) < _) => ?_ | exact rfl | exact Nat.le_of_ble_eq_true rfl | (change (_ : Nat) ≤ _; omega) | (change (_ : Nat) = _; omega) | (change (_ : Int) = _; omega))); (all_goals try (conv => whnf)))
    · subst hj2
      ((repeat' ((conv => whnf) <;> first | exact trivial | (with_reducible first | refine And.intro ?_ ?_ | refine rows_lt1 ?_ | refine rows_lt2 ?_ ?_ | refine rows_lt3 ?_ ?_ ?_ | refine rows_lt4 ?_ ?_ ?_ ?_ | refine rows_lt5 ?_ ?_ ?_ ?_ ?_ | refine aggs_lt1 ?_ | refine aggs_lt2 ?_ ?_ | refine aggs_lt3 ?_ ?_ ?_ | refine fun (_ : Nat) => ?_) | refine fun (_ : (_ : Nat) < _) => ?_ | exact rfl | exact Nat.le_of_ble_eq_true rfl | (change (_ : Nat) ≤ _; omega) | (change (_ : Nat) = _; omega) | (change (_ : Int) = _; omega))); (all_goals try (conv => whnf)))
      rename_i x _
      show b (40 + 32 * tp (sgT b) + 4 + 32 * j + x) = b (4 + (36 + 32 * tp (sgT b) + (4 + (32 * j + x))))
      exact congrArg b (by omega)
  · obtain rfl : k = hgN (trT b) := by omega
    repeat ((conv => whnf); first | refine sdO ?_ | refine nlO ?_ | refine goA ?_ | refine goB ?_ | (apply Exists.intro; (repeat apply Exists.intro); refine caO ?_) | (refine Or.inl ?_; (conv => whnf); (repeat apply Exists.intro); refine caO ?_) | (refine Or.inr ?_; (conv => whnf); first | ((repeat apply Exists.intro); refine caO ?_) | (refine Or.inl ?_; (conv => whnf); (repeat apply Exists.intro); refine caO ?_) | (refine Or.inr ?_; (conv => whnf); (repeat apply Exists.intro); refine caO ?_)) | refine And.intro (by assumption) ?_ | refine goT ?_ | refine goF ?_ | refine goL ?_ | refine goR ?_ | refine goRL ?_ | refine goRR ?_)
    all_goals try (conv => whnf)
    refine ⟨fun k => bif Nat.beq k 0 then some 0 else bif Nat.beq k 8 then some 9000 else none, ?_⟩
    ((repeat' ((conv => whnf) <;> first | exact trivial | (with_reducible first | refine And.intro ?_ ?_ | refine rows_lt1 ?_ | refine rows_lt2 ?_ ?_ | refine rows_lt3 ?_ ?_ ?_ | refine rows_lt4 ?_ ?_ ?_ ?_ | refine rows_lt5 ?_ ?_ ?_ ?_ ?_ | refine aggs_lt1 ?_ | refine aggs_lt2 ?_ ?_ | refine aggs_lt3 ?_ ?_ ?_ | refine fun (_ : Nat) => ?_) | refine fun (_ : (_ : Nat) < _) => ?_ | exact rfl | exact Nat.le_of_ble_eq_true rfl | (change (_ : Nat) ≤ _; omega) | (change (_ : Nat) = _; omega) | (change (_ : Int) = _; omega))); (all_goals try (conv => whnf)))
end Go.Proofs.YtnfebaialdfffaaDoor
