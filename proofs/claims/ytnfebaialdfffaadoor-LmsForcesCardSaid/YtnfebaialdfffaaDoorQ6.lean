/- lms: the reference's climb and parts. -/
import Derived.Test.YtnfebaialdfffaaDoorQS
import Derived.Test.YtnfebaialdfffaaDoorOT
namespace Go.Proofs.YtnfebaialdfffaaDoor
open Go.RowKit
set_option maxRecDepth 100000
set_option maxHeartbeats 20000000
attribute [local irreducible] hsh rst sha256 press dig valN mash fold digs ch tw tp tlS cf ckN dgT pubE upTo sgV sigB mashD clE mixA clK pubK st1 at8 hgN w4
/-! ### Parts -/
abbrev TSg : Ty := ty 50
abbrev sgA (q t : BitVec 32) (one path : AV) : AV := .agg false 4 (nth .junk [.u32 q, one, .u32 t, path])
abbrev sgZ : AV := sgA 0 0 .nils .nils
theorem own_sg {q t : BitVec 32} {one path : AV} (h1 : Own one) (h2 : Own path) : Own (sgA q t one path) := fun i hi => by
  rcases i with _ | _ | _ | _ | i
  · exact trivial
  · exact h1
  · exact trivial
  · exact h2
  · exact absurd hi (by show ¬ i + 4 < 4; omega)
theorem good_orQ {P : Program} {ty : TypeId → Ty} {gl : Nat → AV} {f : FuncId} {C1 C2 D C10 C20 D0 : Ctr} [h1 : Told C1 C10] [h2 : Told C2 C20] [hD : Told D D0] (g1 : Good P ty gl f C1) (g2 : Good P ty gl f C2) (h : ∀ args m key K, D0 args m key K → C10 args m key K ∨ C20 args m key K) : Good P ty gl f D := fun args m key K hd => by
  rw [hD.eq] at hd
  rcases h args m key K hd with h | h
  · exact g1 args m key K (by rw [h1.eq]; exact h)
  · exact g2 args m key K (by rw [h2.eq]; exact h)
def C_r5_TableQ : SpecP := fun A K => ∃ t, A [.u32 t] ∧ ((¬ otOK t ∧ K (tupOf [.nat 0, .nat 0, .nat 0])) ∨ (otOK t ∧ K (tupOf [.nat (tw t), .nat (tp t), .nat (tlS t)])))
theorem g_r5_TableQ : Gd 9 (pureP ty C_r5_TableQ) := good_orQ g_r5_TableN g_r5_TableO fun args m key K ⟨t, hA, h⟩ => by
  rcases h with ⟨ht, hK⟩ | ⟨ht, hK⟩
  · exact Or.inl ⟨t, hA, ht, hK⟩
  · exact Or.inr ⟨t, hA, ht, hK⟩
def C_r1_Value4L : SpecP := fun A K => ∃ n b, A [bsl n b] ∧ n = 4 ∧ K (.u64 ((w4 (b 0) (b 1) (b 2) (b 3)).setWidth 64))
theorem g_r1_Value4L : Gd 37 (pureP ty C_r1_Value4L) := good_imp g_r1_Value4 fun args m key K ⟨n, b, hA, hn, hK⟩ => ⟨b, (by rw [hn] at hA; exact hA), hK⟩
abbrev paP (b : Nat → BitVec 8) : Nat → Nat → BitVec 8 := hsO fun j => reB b (tp (sgT b)) (4 + j)
theorem swQ (t : BitVec 32) : BitVec.setWidth 32 (BitVec.setWidth 64 t) = t := by simp
theorem tw0 {t : BitVec 32} (h : otOK t) : ¬ tw t = 0 := by
  have := (ot_facts t h).1
  rcases this with q | q | q | q <;> omega
theorem trQ (b : Nat → BitVec 8) (E P : Nat) (hE : E = 40 + 32 * P) : BitVec.setWidth 32 (BitVec.setWidth 64 (w4 (b (E + 0)) (b (E + 1)) (b (E + 2)) (b (E + 3)))) = w4 (reB b P 0) (reB b P 1) (reB b P 2) (reB b P 3) := by
  subst hE
  rw [swQ]
  show w4 _ _ _ _ = w4 (b (4 + (36 + 32 * P + 0))) (b (4 + (36 + 32 * P + 1))) (b (4 + (36 + 32 * P + 2))) (b (4 + (36 + 32 * P + 3)))
  rw [show 40 + 32 * P + 0 = 4 + (36 + 32 * P + 0) by omega, show 40 + 32 * P + 1 = 4 + (36 + 32 * P + 1) by omega, show 40 + 32 * P + 2 = 4 + (36 + 32 * P + 2) by omega, show 40 + 32 * P + 3 = 4 + (36 + 32 * P + 3) by omega]
theorem shq (q : BitVec 32) (H : Nat) (hH : H ≤ 25) : (BitVec.ofInt 64 1 <<< H ≤ BitVec.setWidth 64 (BitVec.setWidth 32 (BitVec.setWidth 64 q))) ↔ ¬ q >>> H = BitVec.ofInt 32 0 := by
  have hp : 2 ^ H ≤ 2 ^ 25 := Nat.pow_le_pow_right (by decide) hH
  have h0 : 0 < 2 ^ H := Nat.two_pow_pos H
  have e1 : (BitVec.ofInt 64 1 <<< H).toNat = 2 ^ H := by
    rw [BitVec.toNat_shiftLeft, show (BitVec.ofInt 64 1).toNat = 1 from rfl, Nat.shiftLeft_eq, Nat.one_mul, Nat.mod_eq_of_lt]
    exact Nat.lt_of_le_of_lt hp (by decide)
  rw [swQ, BitVec.le_def, e1, BitVec.toNat_setWidth, Nat.mod_eq_of_lt (by have := q.isLt; omega)]
  constructor
  · intro h h'
    have h2 := congrArg BitVec.toNat h'
    rw [BitVec.toNat_ushiftRight, Nat.shiftRight_eq_div_pow] at h2
    have h3 : 1 ≤ q.toNat / 2 ^ H := (Nat.one_le_div_iff h0).2 h
    have h4 : (BitVec.ofInt 32 0).toNat = 0 := rfl
    omega
  · intro h
    refine Decidable.byContradiction fun h' => h (BitVec.eq_of_toNat_eq ?_)
    rw [BitVec.toNat_ushiftRight, Nat.shiftRight_eq_div_pow, Nat.div_eq_of_lt (Nat.lt_of_not_le h')]
    rfl
def C_r6_PartsE : SpecM := fun A K => ∃ l b, A [.gsl 5 0 l] [(0, .grow 5 l (bys b))] ∧ l ≤ 100000 ∧ ¬ paE l b = 0 ∧ K (tupOf [sgZ, .nat (paE l b)]) [(0, .grow 5 l (bys b))]
theorem g_r6_PartsE : Gd 16 (mutD ty [true] C_r6_PartsE) := by
  refine goodD (E := PG [(37, pureP ty C_r1_Value4L), (9, pureP ty C_r5_TableQ), (38, pureP ty C_r6_Height)]) (pgOK ⟨g_r1_Value4L, g_r5_TableQ, g_r6_Height, trivial⟩) mixes Tryd.func16 (by kernel_rfl) (by kernel_rfl) ?_
  rintro A K ⟨l, b, hA, hl, h0, hK⟩
  by_cases h8 : l < 8
  · have e : paE l b = 2 := by unfold paE; rw [if_pos h8]
    rw [e] at hK
    refine ⟨_, _, _, _, fun _ => none, hA, hK, by kernel_rfl, by kernel_rfl, ⟨rfl, trivial⟩, ⟨fun _ _ => trivial, trivial⟩, own_res (own_sg trivial trivial) trivial, ?_⟩
    repeat ((conv => whnf); first | refine sdO ?_ | refine nlO ?_ | refine goA ?_ | refine goB ?_ | (apply Exists.intro; (repeat apply Exists.intro); refine caO ?_) | (refine Or.inl ?_; (conv => whnf); (repeat apply Exists.intro); refine caO ?_) | (refine Or.inr ?_; (conv => whnf); first | ((repeat apply Exists.intro); refine caO ?_) | (refine Or.inl ?_; (conv => whnf); (repeat apply Exists.intro); refine caO ?_) | (refine Or.inr ?_; (conv => whnf); (repeat apply Exists.intro); refine caO ?_)) | refine And.intro (by assumption) ?_ | refine goT ?_ | refine goF ?_ | refine goL ?_ | refine goR ?_ | refine goRL ?_ | refine goRR ?_)
    all_goals try (conv => whnf)
    (refine out_fnd ?_; (repeat' ((conv => whnf) <;> first | exact trivial | (with_reducible first | refine And.intro ?_ ?_ | refine rows_lt1 ?_ | refine rows_lt2 ?_ ?_ | refine rows_lt3 ?_ ?_ ?_ | refine rows_lt4 ?_ ?_ ?_ ?_ | refine rows_lt5 ?_ ?_ ?_ ?_ ?_ | refine aggs_lt1 ?_ | refine aggs_lt2 ?_ ?_ | refine aggs_lt3 ?_ ?_ ?_ | refine fun (_ : Nat) => ?_) | refine fun (_ : (_ : Nat) < _) => ?_ | exact rfl | exact Nat.le_of_ble_eq_true rfl | (change (_ : Nat) ≤ _; omega) | (change (_ : Nat) = _; omega) | (change (_ : Int) = _; omega))); (all_goals try (conv => whnf)))
  by_cases ho : otOK (sgT b)
  rotate_left
  · have e : paE l b = 6 := by unfold paE; rw [if_neg h8, if_pos ho]
    rw [e] at hK
    refine ⟨_, _, _, _, fun _ => none, hA, hK, by kernel_rfl, by kernel_rfl, ⟨rfl, trivial⟩, ⟨fun _ _ => trivial, trivial⟩, own_res (own_sg trivial trivial) trivial, ?_⟩
    have ho' : ¬ otOK (BitVec.setWidth 32 (BitVec.setWidth 64 (sgT b))) := by rw [swQ]; exact ho
    repeat ((conv => whnf); first | refine sdO ?_ | refine nlO ?_ | refine goA ?_ | refine goB ?_ | (apply Exists.intro; (repeat apply Exists.intro); refine caO ?_) | (refine Or.inl ?_; (conv => whnf); (repeat apply Exists.intro); refine caO ?_) | (refine Or.inr ?_; (conv => whnf); first | ((repeat apply Exists.intro); refine caO ?_) | (refine Or.inl ?_; (conv => whnf); (repeat apply Exists.intro); refine caO ?_) | (refine Or.inr ?_; (conv => whnf); (repeat apply Exists.intro); refine caO ?_)) | refine And.intro (by assumption) ?_ | refine goT ?_ | refine goF ?_ | refine goL ?_ | refine goR ?_ | refine goRL ?_ | refine goRR ?_)
    all_goals try (conv => whnf)
    (refine out_fnd ?_; (repeat' ((conv => whnf) <;> first | exact trivial | (with_reducible first | refine And.intro ?_ ?_ | refine rows_lt1 ?_ | refine rows_lt2 ?_ ?_ | refine rows_lt3 ?_ ?_ ?_ | refine rows_lt4 ?_ ?_ ?_ ?_ | refine rows_lt5 ?_ ?_ ?_ ?_ ?_ | refine aggs_lt1 ?_ | refine aggs_lt2 ?_ ?_ | refine aggs_lt3 ?_ ?_ ?_ | refine fun (_ : Nat) => ?_) | refine fun (_ : (_ : Nat) < _) => ?_ | exact rfl | exact Nat.le_of_ble_eq_true rfl | (change (_ : Nat) ≤ _; omega) | (change (_ : Nat) = _; omega) | (change (_ : Int) = _; omega))); (all_goals try (conv => whnf)))
  have ho' : otOK (BitVec.setWidth 32 (BitVec.setWidth 64 (sgT b))) := by rw [swQ]; exact ho
  have hw := tw0 ho'
  have hp := tp_le' ho
  have ht : tp (BitVec.setWidth 32 (BitVec.setWidth 64 (sgT b))) = tp (sgT b) := by rw [swQ]
  have e1 : tp (BitVec.setWidth 32 (BitVec.setWidth 64 (w4 (b (4 + 0)) (b (4 + 1)) (b (4 + 2)) (b (4 + 3))))) = tp (sgT b) := ht
  have e2 : Int.toNat 40 + Int.toNat 32 * tp (BitVec.setWidth 32 (BitVec.setWidth 64 (w4 (b (Int.toNat 4 + 0)) (b (Int.toNat 4 + 1)) (b (Int.toNat 4 + 2)) (b (Int.toNat 4 + 3))))) = 40 + 32 * tp (sgT b) := by rw [show tp (BitVec.setWidth 32 (BitVec.setWidth 64 (w4 (b (Int.toNat 4 + 0)) (b (Int.toNat 4 + 1)) (b (Int.toNat 4 + 2)) (b (Int.toNat 4 + 3))))) = tp (sgT b) from ht]; rfl
  have e3 : Int.toNat 4 = 4 := rfl
  by_cases hl2 : l < 44 + 32 * tp (sgT b)
  · have e : paE l b = 2 := by unfold paE; rw [if_neg h8, if_neg (fun q => q ho), if_pos hl2]
    rw [e] at hK
    refine ⟨_, _, _, _, fun _ => none, hA, hK, by kernel_rfl, by kernel_rfl, ⟨rfl, trivial⟩, ⟨fun _ _ => trivial, trivial⟩, own_res (own_sg trivial trivial) trivial, ?_⟩
    repeat ((conv => whnf); first | refine sdO ?_ | refine nlO ?_ | refine goA ?_ | refine goB ?_ | (apply Exists.intro; (repeat apply Exists.intro); refine caO ?_) | (refine Or.inl ?_; (conv => whnf); (repeat apply Exists.intro); refine caO ?_) | (refine Or.inr ?_; (conv => whnf); first | ((repeat apply Exists.intro); refine caO ?_) | (refine Or.inl ?_; (conv => whnf); (repeat apply Exists.intro); refine caO ?_) | (refine Or.inr ?_; (conv => whnf); (repeat apply Exists.intro); refine caO ?_)) | refine And.intro (by assumption) ?_ | refine goT ?_ | refine goF ?_ | refine goL ?_ | refine goR ?_ | refine goRL ?_ | refine goRR ?_)
    all_goals try (conv => whnf)
    (refine out_fnd ?_; (repeat' ((conv => whnf) <;> first | exact trivial | (with_reducible first | refine And.intro ?_ ?_ | refine rows_lt1 ?_ | refine rows_lt2 ?_ ?_ | refine rows_lt3 ?_ ?_ ?_ | refine rows_lt4 ?_ ?_ ?_ ?_ | refine rows_lt5 ?_ ?_ ?_ ?_ ?_ | refine aggs_lt1 ?_ | refine aggs_lt2 ?_ ?_ | refine aggs_lt3 ?_ ?_ ?_ | refine fun (_ : Nat) => ?_) | refine fun (_ : (_ : Nat) < _) => ?_ | exact rfl | exact Nat.le_of_ble_eq_true rfl | (change (_ : Nat) ≤ _; omega) | (change (_ : Nat) = _; omega) | (change (_ : Int) = _; omega))); (all_goals try (conv => whnf)))
  have hT := trQ b _ _ e2
  by_cases hg : hgOK (trT b)
  rotate_left
  · have e : paE l b = 6 := by unfold paE; rw [if_neg h8, if_neg (fun q => q ho), if_neg hl2, if_pos hg]
    rw [e] at hK
    have hg' := (congrArg (fun x => ¬ hgOK x) hT).mpr hg
    refine ⟨_, _, _, _, fun _ => none, hA, hK, by kernel_rfl, by kernel_rfl, ⟨rfl, trivial⟩, ⟨fun _ _ => trivial, trivial⟩, own_res (own_sg trivial trivial) trivial, ?_⟩
    repeat ((conv => whnf); first | refine sdO ?_ | refine nlO ?_ | refine goA ?_ | refine goB ?_ | (apply Exists.intro; (repeat apply Exists.intro); refine caO ?_) | (refine Or.inl ?_; (conv => whnf); (repeat apply Exists.intro); refine caO ?_) | (refine Or.inr ?_; (conv => whnf); first | ((repeat apply Exists.intro); refine caO ?_) | (refine Or.inl ?_; (conv => whnf); (repeat apply Exists.intro); refine caO ?_) | (refine Or.inr ?_; (conv => whnf); (repeat apply Exists.intro); refine caO ?_)) | refine And.intro (by assumption) ?_ | refine goT ?_ | refine goF ?_ | refine goL ?_ | refine goR ?_ | refine goRL ?_ | refine goRR ?_)
    all_goals try (conv => whnf)
    (refine out_fnd ?_; (repeat' ((conv => whnf) <;> first | exact trivial | (with_reducible first | refine And.intro ?_ ?_ | refine rows_lt1 ?_ | refine rows_lt2 ?_ ?_ | refine rows_lt3 ?_ ?_ ?_ | refine rows_lt4 ?_ ?_ ?_ ?_ | refine rows_lt5 ?_ ?_ ?_ ?_ ?_ | refine aggs_lt1 ?_ | refine aggs_lt2 ?_ ?_ | refine aggs_lt3 ?_ ?_ ?_ | refine fun (_ : Nat) => ?_) | refine fun (_ : (_ : Nat) < _) => ?_ | exact rfl | exact Nat.le_of_ble_eq_true rfl | (change (_ : Nat) ≤ _; omega) | (change (_ : Nat) = _; omega) | (change (_ : Int) = _; omega))); (all_goals try (conv => whnf)))
  have hg' := (congrArg hgOK hT).mpr hg
  have hh := hg_facts hg'
  have e4 := congrArg hgN hT
  have e1' : 40 + 32 * tp (BitVec.setWidth 32 (BitVec.setWidth 64 (w4 (b (4 + 0)) (b (4 + 1)) (b (4 + 2)) (b (4 + 3))))) = 40 + 32 * tp (sgT b) := by rw [e1]
  have hT1 := trQ b _ _ e1'
  have hh1 := hg_facts ((congrArg hgOK hT1).mpr hg)
  have e41 := congrArg hgN hT1
  have hh0 : ¬ hgN (trT b) = 0 := by have := (hg_facts hg).1; omega
  have eL : Int.toNat 40 + Int.toNat 32 * tp (BitVec.setWidth 32 (BitVec.setWidth 64 (w4 (b (Int.toNat 4 + 0)) (b (Int.toNat 4 + 1)) (b (Int.toNat 4 + 2)) (b (Int.toNat 4 + 3))))) + Int.toNat 4 + Int.toNat 32 * hgN (BitVec.setWidth 32 (BitVec.setWidth 64 (w4 (b (Int.toNat 40 + Int.toNat 32 * tp (BitVec.setWidth 32 (BitVec.setWidth 64 (w4 (b (Int.toNat 4 + 0)) (b (Int.toNat 4 + 1)) (b (Int.toNat 4 + 2)) (b (Int.toNat 4 + 3))))) + 0)) (b (Int.toNat 40 + Int.toNat 32 * tp (BitVec.setWidth 32 (BitVec.setWidth 64 (w4 (b (Int.toNat 4 + 0)) (b (Int.toNat 4 + 1)) (b (Int.toNat 4 + 2)) (b (Int.toNat 4 + 3))))) + 1)) (b (Int.toNat 40 + Int.toNat 32 * tp (BitVec.setWidth 32 (BitVec.setWidth 64 (w4 (b (Int.toNat 4 + 0)) (b (Int.toNat 4 + 1)) (b (Int.toNat 4 + 2)) (b (Int.toNat 4 + 3))))) + 2)) (b (Int.toNat 40 + Int.toNat 32 * tp (BitVec.setWidth 32 (BitVec.setWidth 64 (w4 (b (Int.toNat 4 + 0)) (b (Int.toNat 4 + 1)) (b (Int.toNat 4 + 2)) (b (Int.toNat 4 + 3))))) + 3))))) = 44 + 32 * tp (sgT b) + 32 * hgN (trT b) := by
    rw [e4, e2]
    show 40 + 32 * tp (sgT b) + 4 + 32 * hgN (trT b) = 44 + 32 * tp (sgT b) + 32 * hgN (trT b)
    omega
  by_cases hl3 : l = 44 + 32 * tp (sgT b) + 32 * hgN (trT b)
  rotate_left
  · have e : paE l b = 2 := by unfold paE; rw [if_neg h8, if_neg (fun q => q ho), if_neg hl2, if_neg (fun q => q hg), if_neg (fun q => hl3 q.1)]
    rw [e] at hK
    have hl4 : l ≠ Int.toNat 40 + Int.toNat 32 * tp (BitVec.setWidth 32 (BitVec.setWidth 64 (w4 (b (Int.toNat 4 + 0)) (b (Int.toNat 4 + 1)) (b (Int.toNat 4 + 2)) (b (Int.toNat 4 + 3))))) + Int.toNat 4 + Int.toNat 32 * hgN (BitVec.setWidth 32 (BitVec.setWidth 64 (w4 (b (Int.toNat 40 + Int.toNat 32 * tp (BitVec.setWidth 32 (BitVec.setWidth 64 (w4 (b (Int.toNat 4 + 0)) (b (Int.toNat 4 + 1)) (b (Int.toNat 4 + 2)) (b (Int.toNat 4 + 3))))) + 0)) (b (Int.toNat 40 + Int.toNat 32 * tp (BitVec.setWidth 32 (BitVec.setWidth 64 (w4 (b (Int.toNat 4 + 0)) (b (Int.toNat 4 + 1)) (b (Int.toNat 4 + 2)) (b (Int.toNat 4 + 3))))) + 1)) (b (Int.toNat 40 + Int.toNat 32 * tp (BitVec.setWidth 32 (BitVec.setWidth 64 (w4 (b (Int.toNat 4 + 0)) (b (Int.toNat 4 + 1)) (b (Int.toNat 4 + 2)) (b (Int.toNat 4 + 3))))) + 2)) (b (Int.toNat 40 + Int.toNat 32 * tp (BitVec.setWidth 32 (BitVec.setWidth 64 (w4 (b (Int.toNat 4 + 0)) (b (Int.toNat 4 + 1)) (b (Int.toNat 4 + 2)) (b (Int.toNat 4 + 3))))) + 3))))) := by rw [eL]; exact hl3
    refine ⟨_, _, _, _, fun _ => none, hA, hK, by kernel_rfl, by kernel_rfl, ⟨rfl, trivial⟩, ⟨fun _ _ => trivial, trivial⟩, own_res (own_sg trivial trivial) trivial, ?_⟩
    repeat ((conv => whnf); first | refine sdO ?_ | refine nlO ?_ | refine goA ?_ | refine goB ?_ | (apply Exists.intro; (repeat apply Exists.intro); refine caO ?_) | (refine Or.inl ?_; (conv => whnf); (repeat apply Exists.intro); refine caO ?_) | (refine Or.inr ?_; (conv => whnf); first | ((repeat apply Exists.intro); refine caO ?_) | (refine Or.inl ?_; (conv => whnf); (repeat apply Exists.intro); refine caO ?_) | (refine Or.inr ?_; (conv => whnf); (repeat apply Exists.intro); refine caO ?_)) | refine And.intro (by assumption) ?_ | refine goT ?_ | refine goF ?_ | refine goL ?_ | refine goR ?_ | refine goRL ?_ | refine goRR ?_)
    all_goals try (conv => whnf)
    (refine out_fnd ?_; (repeat' ((conv => whnf) <;> first | exact trivial | (with_reducible first | refine And.intro ?_ ?_ | refine rows_lt1 ?_ | refine rows_lt2 ?_ ?_ | refine rows_lt3 ?_ ?_ ?_ | refine rows_lt4 ?_ ?_ ?_ ?_ | refine rows_lt5 ?_ ?_ ?_ ?_ ?_ | refine aggs_lt1 ?_ | refine aggs_lt2 ?_ ?_ | refine aggs_lt3 ?_ ?_ ?_ | refine fun (_ : Nat) => ?_) | refine fun (_ : (_ : Nat) < _) => ?_ | exact rfl | exact Nat.le_of_ble_eq_true rfl | (change (_ : Nat) ≤ _; omega) | (change (_ : Nat) = _; omega) | (change (_ : Int) = _; omega))); (all_goals try (conv => whnf)))
  · have hq : ¬ lfQ b >>> hgN (trT b) = BitVec.ofInt 32 0 := fun q => h0 (by unfold paE; rw [if_neg h8, if_neg (fun q => q ho), if_neg hl2, if_neg (fun q => q hg), if_pos ⟨hl3, q⟩])
    have e : paE l b = 2 := by unfold paE; rw [if_neg h8, if_neg (fun q => q ho), if_neg hl2, if_neg (fun q => q hg), if_neg (fun z => hq z.2)]
    rw [e] at hK
    have hl4 : ¬ l ≠ Int.toNat 40 + Int.toNat 32 * tp (BitVec.setWidth 32 (BitVec.setWidth 64 (w4 (b (Int.toNat 4 + 0)) (b (Int.toNat 4 + 1)) (b (Int.toNat 4 + 2)) (b (Int.toNat 4 + 3))))) + Int.toNat 4 + Int.toNat 32 * hgN (BitVec.setWidth 32 (BitVec.setWidth 64 (w4 (b (Int.toNat 40 + Int.toNat 32 * tp (BitVec.setWidth 32 (BitVec.setWidth 64 (w4 (b (Int.toNat 4 + 0)) (b (Int.toNat 4 + 1)) (b (Int.toNat 4 + 2)) (b (Int.toNat 4 + 3))))) + 0)) (b (Int.toNat 40 + Int.toNat 32 * tp (BitVec.setWidth 32 (BitVec.setWidth 64 (w4 (b (Int.toNat 4 + 0)) (b (Int.toNat 4 + 1)) (b (Int.toNat 4 + 2)) (b (Int.toNat 4 + 3))))) + 1)) (b (Int.toNat 40 + Int.toNat 32 * tp (BitVec.setWidth 32 (BitVec.setWidth 64 (w4 (b (Int.toNat 4 + 0)) (b (Int.toNat 4 + 1)) (b (Int.toNat 4 + 2)) (b (Int.toNat 4 + 3))))) + 2)) (b (Int.toNat 40 + Int.toNat 32 * tp (BitVec.setWidth 32 (BitVec.setWidth 64 (w4 (b (Int.toNat 4 + 0)) (b (Int.toNat 4 + 1)) (b (Int.toNat 4 + 2)) (b (Int.toNat 4 + 3))))) + 3))))) := by rw [eL]; exact fun q => q hl3
    have hq2 : BitVec.ofInt 64 1 <<< hgN (BitVec.setWidth 32 (BitVec.setWidth 64 (w4 (b (Int.toNat 40 + Int.toNat 32 * tp (BitVec.setWidth 32 (BitVec.setWidth 64 (w4 (b (Int.toNat 4 + 0)) (b (Int.toNat 4 + 1)) (b (Int.toNat 4 + 2)) (b (Int.toNat 4 + 3))))) + 0)) (b (Int.toNat 40 + Int.toNat 32 * tp (BitVec.setWidth 32 (BitVec.setWidth 64 (w4 (b (Int.toNat 4 + 0)) (b (Int.toNat 4 + 1)) (b (Int.toNat 4 + 2)) (b (Int.toNat 4 + 3))))) + 1)) (b (Int.toNat 40 + Int.toNat 32 * tp (BitVec.setWidth 32 (BitVec.setWidth 64 (w4 (b (Int.toNat 4 + 0)) (b (Int.toNat 4 + 1)) (b (Int.toNat 4 + 2)) (b (Int.toNat 4 + 3))))) + 2)) (b (Int.toNat 40 + Int.toNat 32 * tp (BitVec.setWidth 32 (BitVec.setWidth 64 (w4 (b (Int.toNat 4 + 0)) (b (Int.toNat 4 + 1)) (b (Int.toNat 4 + 2)) (b (Int.toNat 4 + 3))))) + 3))))) ≤ BitVec.setWidth 64 (BitVec.setWidth 32 (BitVec.setWidth 64 (w4 (b (0 + 0)) (b (0 + 1)) (b (0 + 2)) (b (0 + 3))))) := by
      rw [e4]
      exact (shq (lfQ b) _ (hg_facts hg).2).2 hq
    refine ⟨_, _, _, _, fun _ => none, hA, hK, by kernel_rfl, by kernel_rfl, ⟨rfl, trivial⟩, ⟨fun _ _ => trivial, trivial⟩, own_res (own_sg trivial trivial) trivial, ?_⟩
    repeat ((conv => whnf); first | refine sdO ?_ | refine nlO ?_ | refine goA ?_ | refine goB ?_ | (apply Exists.intro; (repeat apply Exists.intro); refine caO ?_) | (refine Or.inl ?_; (conv => whnf); (repeat apply Exists.intro); refine caO ?_) | (refine Or.inr ?_; (conv => whnf); first | ((repeat apply Exists.intro); refine caO ?_) | (refine Or.inl ?_; (conv => whnf); (repeat apply Exists.intro); refine caO ?_) | (refine Or.inr ?_; (conv => whnf); (repeat apply Exists.intro); refine caO ?_)) | refine And.intro (by assumption) ?_ | refine goT ?_ | refine goF ?_ | refine goL ?_ | refine goR ?_ | refine goRL ?_ | refine goRR ?_)
    all_goals try (conv => whnf)
    (refine out_fnd ?_; (repeat' ((conv => whnf) <;> first | exact trivial | (with_reducible first | refine And.intro ?_ ?_ | refine rows_lt1 ?_ | refine rows_lt2 ?_ ?_ | refine rows_lt3 ?_ ?_ ?_ | refine rows_lt4 ?_ ?_ ?_ ?_ | refine rows_lt5 ?_ ?_ ?_ ?_ ?_ | refine aggs_lt1 ?_ | refine aggs_lt2 ?_ ?_ | refine aggs_lt3 ?_ ?_ ?_ | refine fun (_ : Nat) => ?_) | refine fun (_ : (_ : Nat) < _) => ?_ | exact rfl | exact Nat.le_of_ble_eq_true rfl | (change (_ : Nat) ≤ _; omega) | (change (_ : Nat) = _; omega) | (change (_ : Int) = _; omega))); (all_goals try (conv => whnf)))
end Go.Proofs.YtnfebaialdfffaaDoor
