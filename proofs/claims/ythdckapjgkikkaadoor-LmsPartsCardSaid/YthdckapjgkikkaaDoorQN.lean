/- LmsParts. -/
import Derived.Test.YthdckapjgkikkaaDoorQL
namespace Go.Proofs.YthdckapjgkikkaaDoor
open Go.RowKit
set_option maxRecDepth 100000
set_option maxHeartbeats 20000000
attribute [local irreducible] hsh rst sha256 press dig valN mash fold digs ch tw tp tlS cf ckN dgT pubE upTo sgV sigB mashD clE mixA clK pubK st1 at8 hgN w4 sib sgS gr2 rtEq pubS clM ndT lyK lyA lyO refR
def C_l6_LmsParts : SpecP := fun A K => ∃ l m h t seed cut l2 m2, A [bsl l m, .u8 h, .u8 t, arr8 32 seed, .i16 cut, bsl l2 m2] ∧ l ≤ maxLen ∧ l2 ≤ maxLen ∧ K (.bo true)
abbrev TBy : TypeId := 22
abbrev id4 : Nat → BitVec 8 := fun x => asU8 (look [(0, .u8 (BitVec.ofInt 8 4))] (.u8 0) x)
abbrev mM : Nat → BitVec 8 := fun x => asU8 (look [(0, .u8 (BitVec.ofInt 8 109))] (.u8 0) x)
def paR (l0 l1 l2 l3 : Nat) (b0 b1 b2 b3 : Nat → BitVec 8) : List (Nat × Row) := [(3112, .grow 5 l1 (bys b1)), (5192, .grow 5 l2 (bys b2)), (6160, .grow 5 l0 (bys b0)), (6216, .grow 5 l3 (bys b3)), (6224, .grow TBy 4 (nth .junk [.gsl 5 6160 l0, .gsl 5 3112 l1, .gsl 5 5192 l2, .gsl 5 6216 l3]))]
def L_Pa (l0 l1 l2 l3 : Nat) (b0 b1 b2 b3 : Nat → BitVec 8) : LI := ⟨Nat, (· ≤ 4), fun i => [(68, .gsl TBy 6224 4), (69, .nat 4), (70, .nat i)], fun _ => [(3112, .grow 5 l1 (bys b1)), (5192, .grow 5 l2 (bys b2)), (6160, .grow 5 l0 (bys b0)), (6216, .grow 5 l3 (bys b3)), (6224, .grow TBy 4 (nth .junk [.gsl 5 6160 l0, .gsl 5 3112 l1, .gsl 5 5192 l2, .gsl 5 6216 l3]))], fun i => 4 - i, some, some⟩
abbrev kI (i : Nat) : Nat := List.getD [6160, 3112, 5192, 6216] i 0
abbrev lI (l0 l1 l2 l3 i : Nat) : Nat := List.getD [l0, l1, l2, l3] i 0
abbrev bI (b0 b1 b2 b3 : Nat → BitVec 8) (i : Nat) : Nat → BitVec 8 := List.getD [b0, b1, b2, b3] i (fun _ => 0)
abbrev phS (e : Bool) (b : Nat → BitVec 8) : AV := bif e then .nils else dgsf (hgN (trT b)) (hsO fun j => reB b (tp (sgT b)) (4 + j))
abbrev nS (e : Bool) (b : Nat → BitVec 8) : Nat := bif e then 0 else hgN (trT b)
abbrev xS (e : Bool) (k l : Nat) (b : Nat → BitVec 8) : AV := bif e then sgZ else sgA (lfQ b) (trT b) (.gsub 5 k l 4 (36 + 32 * tp (sgT b))) (.gsl 24 9305 (hgN (trT b)))
abbrev rS (e : Bool) (b : Nat → BitVec 8) : List (Nat × Row) := bif e then [] else [(9305, .grow 24 (hgN (trT b)) (fun i => arr8 32 (paP b i)))]
def L_Pq (l0 l1 l2 l3 : Nat) (b0 b1 b2 b3 : Nat → BitVec 8) : LI := ⟨Nat × Bool × Nat, fun g => g.1 ≤ 3 ∧ g.2.2 ≤ nS g.2.1 (bI b0 b1 b2 b3 g.1) ∧ nS g.2.1 (bI b0 b1 b2 b3 g.1) ≤ 25, fun g => [(24, phS g.2.1 (bI b0 b1 b2 b3 g.1)), (26, .ptr TSg 9337 []), (68, .gsl TBy 6224 4), (69, .nat 4), (70, .nat g.1), (118, .nat (nS g.2.1 (bI b0 b1 b2 b3 g.1))), (119, .nat g.2.2)],
  fun g => [(3112, .grow 5 l1 (bys b1)), (5192, .grow 5 l2 (bys b2)), (6160, .grow 5 l0 (bys b0)), (6216, .grow 5 l3 (bys b3)), (6224, .grow TBy 4 (nth .junk [.gsl 5 6160 l0, .gsl 5 3112 l1, .gsl 5 5192 l2, .gsl 5 6216 l3])), (9337, .var TSg (xS g.2.1 (kI g.1) (lI l0 l1 l2 l3 g.1) (bI b0 b1 b2 b3 g.1)))] ++ rS g.2.1 (bI b0 b1 b2 b3 g.1), fun g => nS g.2.1 (bI b0 b1 b2 b3 g.1) - g.2.2, some, some⟩
theorem nbR {b : Bool} {p : Prop} (h2 : (!b) = true) (h1 : b = true) : p := by rw [h1] at h2; cases h2
theorem rem40 (c : BitVec 16) : -39 ≤ (BitVec.ofInt 16 (c.toInt.tmod (BitVec.ofInt 16 40).toInt)).toInt ∧ (BitVec.ofInt 16 (c.toInt.tmod (BitVec.ofInt 16 40).toInt)).toInt ≤ 39 := by
  have h3 : (c.toInt.tmod 40).natAbs < 40 := by rw [Int.natAbs_tmod]; exact Nat.mod_lt _ (by decide)
  rw [show (BitVec.ofInt 16 40).toInt = 40 by decide, BitVec.toInt_ofInt, Int.bmod_eq_of_le (by omega) (by omega)]
  omega
def C_r1_SameZ : SpecP := fun A K => A [bsl 0 (fun _ => 0), bsl 0 (fun _ => 0)] ∧ K (.bo true)
theorem g_r1_SameZ : Gd 16 (pureP ty C_r1_SameZ) := good_imp g_r1_Same fun args m key K ⟨hA, hK⟩ => ⟨0, fun _ => 0, 0, fun _ => 0, hA, Nat.zero_le _, by rw [decide_eq_true rfl]; exact hK⟩
theorem g_l6_LmsParts : Gd 3 (pureP ty C_l6_LmsParts) := by
  refine goodP (E := PG [(9, pureP ty C_l6_awake), (10, pureR ty C_l6_lay), (12, pureR ty C_r1_Cut), (11, pureR ty C_sn_Force), (13, pureR ty C_r1_Join_2), (14, pureP ty C_lms_PartsX), (15, mutD ty [true] C_r6_PartsX), (16, orC (pureP ty C_r1_SameZ) (pureP ty C_r1_Same))]) (pgOK ⟨g_l6_awake, g_l6_lay, g_r1_Cut, g_sn_Force, g_r1_Join_2, g_lms_PartsX, g_r6_PartsX, (good_or g_r1_SameZ g_r1_Same), trivial⟩) mixes Tryd.func3 (by kernel_rfl) (by kernel_rfl) ?_
  rintro A K ⟨l, m, h, t, seed, cut, l2, m2, hA, hl, hl2, hK⟩
  obtain ⟨hg, hH⟩ := lyA_H h
  have ho := lyO_ok t
  have hc : 2 * 2 ^ hgN (lyA h) = 2 * 2 ^ hgN (lyA h) ∧ hgOK (lyA h) ∧ otOK (lyO t) ∧ 1 ≤ 1000000000 := ⟨rfl, hg, ho, by decide⟩
  have hq : BitVec.ofInt 32 1 < 1#32 <<< hgN (lyA h) := by
    rw [hH]
    rcases lyK_cases h with e | e <;> rw [e] <;> decide
  have htp := tp_le' ho
  have hk2 := lyK_cases h
  refine ⟨_, _, loops [(9, L_Pa (min l 100) (44 + 32 * tp (lyO t) + 32 * hgN (lyA h)) (min (44 + 32 * tp (lyO t) + 32 * hgN (lyA h)) (max (↑(44 + 32 * tp (lyO t) + 32 * hgN (lyA h)) + (BitVec.ofInt 16 (cut.toInt.tmod (BitVec.ofInt 16 40).toInt)).toInt) 0).toNat) (44 + 32 * tp (lyO t) + 32 * hgN (lyA h) + min l2 40) m (sgS (lyA h) (lyO t) id4 seed (gr2 (lyO t) id4 seed (hgN (lyA h)) 0) (BitVec.ofInt 32 1) seed 1 mM) (sgS (lyA h) (lyO t) id4 seed (gr2 (lyO t) id4 seed (hgN (lyA h)) 0) (BitVec.ofInt 32 1) seed 1 mM) (at8 (lw (44 + 32 * tp (lyO t) + 32 * hgN (lyA h)) (sgS (lyA h) (lyO t) id4 seed (gr2 (lyO t) id4 seed (hgN (lyA h)) 0) (BitVec.ofInt 32 1) seed 1 mM) ++ lw (min l2 40) m2))), (16, L_Pq (min l 100) (44 + 32 * tp (lyO t) + 32 * hgN (lyA h)) (min (44 + 32 * tp (lyO t) + 32 * hgN (lyA h)) (max (↑(44 + 32 * tp (lyO t) + 32 * hgN (lyA h)) + (BitVec.ofInt 16 (cut.toInt.tmod (BitVec.ofInt 16 40).toInt)).toInt) 0).toNat) (44 + 32 * tp (lyO t) + 32 * hgN (lyA h) + min l2 40) m (sgS (lyA h) (lyO t) id4 seed (gr2 (lyO t) id4 seed (hgN (lyA h)) 0) (BitVec.ofInt 32 1) seed 1 mM) (sgS (lyA h) (lyO t) id4 seed (gr2 (lyO t) id4 seed (hgN (lyA h)) 0) (BitVec.ofInt 32 1) seed 1 mM) (at8 (lw (44 + 32 * tp (lyO t) + 32 * hgN (lyA h)) (sgS (lyA h) (lyO t) id4 seed (gr2 (lyO t) id4 seed (hgN (lyA h)) 0) (BitVec.ofInt 32 1) seed 1 mM) ++ lw (min l2 40) m2)))], hA, hK, by kernel_rfl, trivial, ?_⟩
  repeat ((conv => whnf); first | refine sdO ?_ | refine nlO ?_ | refine goA ?_ | refine goB ?_ | (apply Exists.intro; (repeat apply Exists.intro); refine caO ?_) | (refine Or.inl ?_; (conv => whnf); (repeat apply Exists.intro); refine caO ?_) | (refine Or.inr ?_; (conv => whnf); first | ((repeat apply Exists.intro); refine caO ?_) | (refine Or.inl ?_; (conv => whnf); (repeat apply Exists.intro); refine caO ?_) | (refine Or.inr ?_; (conv => whnf); (repeat apply Exists.intro); refine caO ?_)) | refine And.intro (by assumption) ?_ | refine goT ?_ | refine goF ?_ | refine goL ?_ | refine goR ?_ | refine goRL ?_ | refine goRR ?_)
  all_goals try (conv => whnf)
  have hd := rem40 cut
  generalize (BitVec.ofInt 16 (cut.toInt.tmod (BitVec.ofInt 16 40).toInt)).toInt = d at hd ⊢
  have hL : 44 + 32 * tp (lyO t) + 32 * hgN (lyA h) ≤ 10000 := by omega
  refine And.intro (show I64 (↑(44 + 32 * tp (lyO t) + 32 * hgN (lyA h)) + d) by simp only [I64]; omega) ?_
  repeat ((conv => whnf); first | refine sdO ?_ | refine nlO ?_ | refine goA ?_ | refine goB ?_ | (apply Exists.intro; (repeat apply Exists.intro); refine caO ?_) | (refine Or.inl ?_; (conv => whnf); (repeat apply Exists.intro); refine caO ?_) | (refine Or.inr ?_; (conv => whnf); first | ((repeat apply Exists.intro); refine caO ?_) | (refine Or.inl ?_; (conv => whnf); (repeat apply Exists.intro); refine caO ?_) | (refine Or.inr ?_; (conv => whnf); (repeat apply Exists.intro); refine caO ?_)) | refine And.intro (by assumption) ?_ | refine goT ?_ | refine goF ?_ | refine goL ?_ | refine goR ?_ | refine goRL ?_ | refine goRR ?_)
  all_goals try (conv => whnf)
  apply Exists.intro
  apply Exists.intro
  refine Exists.intro (max (↑(44 + 32 * tp (lyO t) + 32 * hgN (lyA h)) + d) 0).toNat (And.intro ?_ ?_)
  · ((repeat' ((conv => whnf) <;> first | exact trivial | (with_reducible first | refine And.intro ?_ ?_ | refine rows_lt1 ?_ | refine rows_lt2 ?_ ?_ | refine rows_lt3 ?_ ?_ ?_ | refine rows_lt4 ?_ ?_ ?_ ?_ | refine rows_lt5 ?_ ?_ ?_ ?_ ?_ | refine aggs_lt1 ?_ | refine aggs_lt2 ?_ ?_ | refine aggs_lt3 ?_ ?_ ?_ | refine fun (_ : Nat) => ?_) | refine fun (_ : (_ : Nat) < _) => ?_ | exact rfl | exact Nat.le_of_ble_eq_true rfl | (change (_ : Nat) ≤ _; omega) | (change (_ : Nat) = _; omega) | (change (_ : Int) = _; omega))); (all_goals try (conv => whnf)))
  refine And.intro (Nat.le_trans hL (by decide)) (And.intro (Or.inl (Nat.le_trans hL (by decide))) ?_)
  have hM : min (44 + 32 * tp (lyO t) + 32 * hgN (lyA h)) (max (↑(44 + 32 * tp (lyO t) + 32 * hgN (lyA h)) + d) 0).toNat ≤ 10000 := by omega
  repeat ((conv => whnf); first | refine sdO ?_ | refine nlO ?_ | refine goA ?_ | refine goB ?_ | (apply Exists.intro; (repeat apply Exists.intro); refine caO ?_) | (refine Or.inl ?_; (conv => whnf); (repeat apply Exists.intro); refine caO ?_) | (refine Or.inr ?_; (conv => whnf); first | ((repeat apply Exists.intro); refine caO ?_) | (refine Or.inl ?_; (conv => whnf); (repeat apply Exists.intro); refine caO ?_) | (refine Or.inr ?_; (conv => whnf); (repeat apply Exists.intro); refine caO ?_)) | refine And.intro (by assumption) ?_ | refine goT ?_ | refine goF ?_ | refine goL ?_ | refine goR ?_ | refine goRL ?_ | refine goRR ?_)
  all_goals try (conv => whnf)
  refine Exists.intro (fun _ => True) (And.intro (Enter.mk (0 : Nat) (Nat.zero_le _) trivial ?_) (fun (i : Nat) (hi : i ≤ 4) _ => ?_))
  · ((repeat' ((conv => whnf) <;> first | exact trivial | (with_reducible first | refine And.intro ?_ ?_ | refine rows_lt1 ?_ | refine rows_lt2 ?_ ?_ | refine rows_lt3 ?_ ?_ ?_ | refine rows_lt4 ?_ ?_ ?_ ?_ | refine rows_lt5 ?_ ?_ ?_ ?_ ?_ | refine aggs_lt1 ?_ | refine aggs_lt2 ?_ ?_ | refine aggs_lt3 ?_ ?_ ?_ | refine fun (_ : Nat) => ?_) | refine fun (_ : (_ : Nat) < _) => ?_ | exact rfl | exact Nat.le_of_ble_eq_true rfl | (change (_ : Nat) ≤ _; omega) | (change (_ : Nat) = _; omega) | (change (_ : Int) = _; omega))); (all_goals try (conv => whnf)))
    all_goals
      rename_i j hj
      rcases (show j = 0 ∨ j = 1 ∨ j = 2 ∨ j = 3 by omega) with rfl | rfl | rfl | rfl
      all_goals
        ((repeat' ((conv => whnf) <;> first | exact trivial | (with_reducible first | refine And.intro ?_ ?_ | refine rows_lt1 ?_ | refine rows_lt2 ?_ ?_ | refine rows_lt3 ?_ ?_ ?_ | refine rows_lt4 ?_ ?_ ?_ ?_ | refine rows_lt5 ?_ ?_ ?_ ?_ ?_ | refine aggs_lt1 ?_ | refine aggs_lt2 ?_ ?_ | refine aggs_lt3 ?_ ?_ ?_ | refine fun (_ : Nat) => ?_) | refine fun (_ : (_ : Nat) < _) => ?_ | exact rfl | exact Nat.le_of_ble_eq_true rfl | (change (_ : Nat) ≤ _; omega) | (change (_ : Nat) = _; omega) | (change (_ : Int) = _; omega))); (all_goals try (conv => whnf)))
  have h0 : min l 100 ≤ 20000 := by omega
  have h3 : 44 + 32 * tp (lyO t) + 32 * hgN (lyA h) + min l2 40 ≤ 20000 := by omega
  generalize at8 (lw (44 + 32 * tp (lyO t) + 32 * hgN (lyA h)) (sgS (lyA h) (lyO t) id4 seed (gr2 (lyO t) id4 seed (hgN (lyA h)) 0) (BitVec.ofInt 32 1) seed 1 mM) ++ lw (min l2 40) m2) = J
  generalize sgS (lyA h) (lyO t) id4 seed (gr2 (lyO t) id4 seed (hgN (lyA h)) 0) (BitVec.ofInt 32 1) seed 1 mM = G
  generalize min (44 + 32 * tp (lyO t) + 32 * hgN (lyA h)) (max (↑(44 + 32 * tp (lyO t) + 32 * hgN (lyA h)) + d) 0).toNat = M at hM ⊢
  generalize 44 + 32 * tp (lyO t) + 32 * hgN (lyA h) + min l2 40 = N at h3 ⊢
  generalize 44 + 32 * tp (lyO t) + 32 * hgN (lyA h) = L at hL ⊢
  generalize min l 100 = L0 at h0 ⊢
  clear hd hc hq htp hk2 hH hg ho
  rcases (show i = 0 ∨ i = 1 ∨ i = 2 ∨ i = 3 ∨ i = 4 by omega) with rfl | rfl | rfl | rfl | rfl
  · rcases Decidable.em (paE L0 m = 0) with e0 | e0
    · obtain ⟨h8, hoS, hgT, hLe, _⟩ := paE_0 e0
      have htS := tp_le' hoS
      have hhT := hg_facts hgT
      have hmx : 36 + 32 * tp (sgT m) ≤ maxLen := Nat.le_trans (show _ ≤ 9000 by omega) (by decide)
      have q1 : lfQ m = lfQ m := rfl
      have q2 : trT m = trT m := rfl
      have q4 : lw (36 + 32 * tp (sgT m)) (fun j => m (4 + j)) = lw (36 + 32 * tp (sgT m)) (fun j => m (4 + j)) := rfl
      repeat ((conv => whnf); first | refine sdO ?_ | refine nlO ?_ | refine goA ?_ | refine goB ?_ | (apply Exists.intro; (repeat apply Exists.intro); refine caO ?_) | (refine Or.inl ?_; (conv => whnf); (repeat apply Exists.intro); refine caO ?_) | (refine Or.inr ?_; (conv => whnf); first | ((repeat apply Exists.intro); refine caO ?_) | (refine Or.inl ?_; (conv => whnf); (repeat apply Exists.intro); refine caO ?_) | (refine Or.inr ?_; (conv => whnf); (repeat apply Exists.intro); refine caO ?_)) | refine And.intro (by assumption) ?_ | refine goT ?_ | refine goF ?_ | refine goL ?_ | refine goR ?_ | refine goRL ?_ | refine goRR ?_)
      all_goals try (conv => whnf)
      refine Exists.intro (fun g => g.1 = 0 ∧ g.2.1 = false) (And.intro (Enter.mk ((0, false, 0) : Nat × Bool × Nat) ⟨by decide, Nat.zero_le _, hhT.2⟩ ⟨rfl, rfl⟩ ?_) (fun (g : Nat × Bool × Nat) hg hJ => ?_))
      · skip
        ((repeat' ((conv => whnf) <;> first | exact trivial | (with_reducible first | refine And.intro ?_ ?_ | refine rows_lt1 ?_ | refine rows_lt2 ?_ ?_ | refine rows_lt3 ?_ ?_ ?_ | refine rows_lt4 ?_ ?_ ?_ ?_ | refine rows_lt5 ?_ ?_ ?_ ?_ ?_ | refine aggs_lt1 ?_ | refine aggs_lt2 ?_ ?_ | refine aggs_lt3 ?_ ?_ ?_ | refine fun (_ : Nat) => ?_) | refine fun (_ : (_ : Nat) < _) => ?_ | exact rfl | exact Nat.le_of_ble_eq_true rfl | (change (_ : Nat) ≤ _; omega) | (change (_ : Nat) = _; omega) | (change (_ : Int) = _; omega))); (all_goals try (conv => whnf)))
        all_goals
          rename_i j hj
          rcases (show j = 0 ∨ j = 1 ∨ j = 2 ∨ j = 3 by omega) with rfl | rfl | rfl | rfl
          all_goals
            ((repeat' ((conv => whnf) <;> first | exact trivial | (with_reducible first | refine And.intro ?_ ?_ | refine rows_lt1 ?_ | refine rows_lt2 ?_ ?_ | refine rows_lt3 ?_ ?_ ?_ | refine rows_lt4 ?_ ?_ ?_ ?_ | refine rows_lt5 ?_ ?_ ?_ ?_ ?_ | refine aggs_lt1 ?_ | refine aggs_lt2 ?_ ?_ | refine aggs_lt3 ?_ ?_ ?_ | refine fun (_ : Nat) => ?_) | refine fun (_ : (_ : Nat) < _) => ?_ | exact rfl | exact Nat.le_of_ble_eq_true rfl | (change (_ : Nat) ≤ _; omega) | (change (_ : Nat) = _; omega) | (change (_ : Int) = _; omega))); (all_goals try (conv => whnf)))
      obtain ⟨i, e, k⟩ := g
      obtain ⟨hJ, hJ'⟩ := hJ
      obtain rfl : i = 0 := hJ
      obtain rfl : e = false := hJ'
      obtain ⟨-, hk, hH⟩ := hg
      have hk : k ≤ hgN (trT m) := hk
      have hH : hgN (trT m) ≤ 25 := hH
      rcases Nat.lt_or_ge k (hgN (trT m)) with q | q
      · skip
        repeat ((conv => whnf); first | refine sdO ?_ | refine nlO ?_ | refine goA ?_ | refine goB ?_ | (apply Exists.intro; (repeat apply Exists.intro); refine caO ?_) | (refine Or.inl ?_; (conv => whnf); (repeat apply Exists.intro); refine caO ?_) | (refine Or.inr ?_; (conv => whnf); first | ((repeat apply Exists.intro); refine caO ?_) | (refine Or.inl ?_; (conv => whnf); (repeat apply Exists.intro); refine caO ?_) | (refine Or.inr ?_; (conv => whnf); (repeat apply Exists.intro); refine caO ?_)) | refine And.intro (by assumption) ?_ | refine goT ?_ | refine goF ?_ | refine goL ?_ | refine goR ?_ | refine goRL ?_ | refine goRR ?_)
        all_goals try (conv => whnf)
        refine And.intro (fun g => nbR g (eqB_agg fun j hj => rfl)) (fun _ => ?_)
        repeat ((conv => whnf); first | refine sdO ?_ | refine nlO ?_ | refine goA ?_ | refine goB ?_ | (apply Exists.intro; (repeat apply Exists.intro); refine caO ?_) | (refine Or.inl ?_; (conv => whnf); (repeat apply Exists.intro); refine caO ?_) | (refine Or.inr ?_; (conv => whnf); first | ((repeat apply Exists.intro); refine caO ?_) | (refine Or.inl ?_; (conv => whnf); (repeat apply Exists.intro); refine caO ?_) | (refine Or.inr ?_; (conv => whnf); (repeat apply Exists.intro); refine caO ?_)) | refine And.intro (by assumption) ?_ | refine goT ?_ | refine goF ?_ | refine goL ?_ | refine goR ?_ | refine goRL ?_ | refine goRR ?_)
        all_goals try (conv => whnf)
        refine Again.mk ((0, false, k + 1) : Nat × Bool × Nat) ⟨(show 0 ≤ 3 by omega), q, hH⟩ ⟨rfl, rfl⟩ (show hgN (trT m) - (k + 1) < hgN (trT m) - k by omega) ?_
        ((repeat' ((conv => whnf) <;> first | exact trivial | (with_reducible first | refine And.intro ?_ ?_ | refine rows_lt1 ?_ | refine rows_lt2 ?_ ?_ | refine rows_lt3 ?_ ?_ ?_ | refine rows_lt4 ?_ ?_ ?_ ?_ | refine rows_lt5 ?_ ?_ ?_ ?_ ?_ | refine aggs_lt1 ?_ | refine aggs_lt2 ?_ ?_ | refine aggs_lt3 ?_ ?_ ?_ | refine fun (_ : Nat) => ?_) | refine fun (_ : (_ : Nat) < _) => ?_ | exact rfl | exact Nat.le_of_ble_eq_true rfl | (change (_ : Nat) ≤ _; omega) | (change (_ : Nat) = _; omega) | (change (_ : Int) = _; omega))); (all_goals try (conv => whnf)))
        all_goals
          rename_i j hj
          rcases (show j = 0 ∨ j = 1 ∨ j = 2 ∨ j = 3 by omega) with rfl | rfl | rfl | rfl
          all_goals
            ((repeat' ((conv => whnf) <;> first | exact trivial | (with_reducible first | refine And.intro ?_ ?_ | refine rows_lt1 ?_ | refine rows_lt2 ?_ ?_ | refine rows_lt3 ?_ ?_ ?_ | refine rows_lt4 ?_ ?_ ?_ ?_ | refine rows_lt5 ?_ ?_ ?_ ?_ ?_ | refine aggs_lt1 ?_ | refine aggs_lt2 ?_ ?_ | refine aggs_lt3 ?_ ?_ ?_ | refine fun (_ : Nat) => ?_) | refine fun (_ : (_ : Nat) < _) => ?_ | exact rfl | exact Nat.le_of_ble_eq_true rfl | (change (_ : Nat) ≤ _; omega) | (change (_ : Nat) = _; omega) | (change (_ : Int) = _; omega))); (all_goals try (conv => whnf)))
      · have q' : ¬ k < hgN (trT m) := by omega
        repeat ((conv => whnf); first | refine sdO ?_ | refine nlO ?_ | refine goA ?_ | refine goB ?_ | (apply Exists.intro; (repeat apply Exists.intro); refine caO ?_) | (refine Or.inl ?_; (conv => whnf); (repeat apply Exists.intro); refine caO ?_) | (refine Or.inr ?_; (conv => whnf); first | ((repeat apply Exists.intro); refine caO ?_) | (refine Or.inl ?_; (conv => whnf); (repeat apply Exists.intro); refine caO ?_) | (refine Or.inr ?_; (conv => whnf); (repeat apply Exists.intro); refine caO ?_)) | refine And.intro (by assumption) ?_ | refine goT ?_ | refine goF ?_ | refine goL ?_ | refine goR ?_ | refine goRL ?_ | refine goRR ?_)
        all_goals try (conv => whnf)
        refine Again.mk (1 : Nat) (show 1 ≤ 4 by omega) trivial (show 4 - 1 < 4 - 0 by omega) ?_
        ((repeat' ((conv => whnf) <;> first | exact trivial | (with_reducible first | refine And.intro ?_ ?_ | refine rows_lt1 ?_ | refine rows_lt2 ?_ ?_ | refine rows_lt3 ?_ ?_ ?_ | refine rows_lt4 ?_ ?_ ?_ ?_ | refine rows_lt5 ?_ ?_ ?_ ?_ ?_ | refine aggs_lt1 ?_ | refine aggs_lt2 ?_ ?_ | refine aggs_lt3 ?_ ?_ ?_ | refine fun (_ : Nat) => ?_) | refine fun (_ : (_ : Nat) < _) => ?_ | exact rfl | exact Nat.le_of_ble_eq_true rfl | (change (_ : Nat) ≤ _; omega) | (change (_ : Nat) = _; omega) | (change (_ : Int) = _; omega))); (all_goals try (conv => whnf)))
        all_goals
          rename_i j hj
          rcases (show j = 0 ∨ j = 1 ∨ j = 2 ∨ j = 3 by omega) with rfl | rfl | rfl | rfl
          all_goals
            ((repeat' ((conv => whnf) <;> first | exact trivial | (with_reducible first | refine And.intro ?_ ?_ | refine rows_lt1 ?_ | refine rows_lt2 ?_ ?_ | refine rows_lt3 ?_ ?_ ?_ | refine rows_lt4 ?_ ?_ ?_ ?_ | refine rows_lt5 ?_ ?_ ?_ ?_ ?_ | refine aggs_lt1 ?_ | refine aggs_lt2 ?_ ?_ | refine aggs_lt3 ?_ ?_ ?_ | refine fun (_ : Nat) => ?_) | refine fun (_ : (_ : Nat) < _) => ?_ | exact rfl | exact Nat.le_of_ble_eq_true rfl | (change (_ : Nat) ≤ _; omega) | (change (_ : Nat) = _; omega) | (change (_ : Int) = _; omega))); (all_goals try (conv => whnf)))
    · skip
      repeat ((conv => whnf); first | refine sdO ?_ | refine nlO ?_ | refine goA ?_ | refine goB ?_ | (apply Exists.intro; (repeat apply Exists.intro); refine caO ?_) | (refine Or.inl ?_; (conv => whnf); (repeat apply Exists.intro); refine caO ?_) | (refine Or.inr ?_; (conv => whnf); first | ((repeat apply Exists.intro); refine caO ?_) | (refine Or.inl ?_; (conv => whnf); (repeat apply Exists.intro); refine caO ?_) | (refine Or.inr ?_; (conv => whnf); (repeat apply Exists.intro); refine caO ?_)) | refine And.intro (by assumption) ?_ | refine goT ?_ | refine goF ?_ | refine goL ?_ | refine goR ?_ | refine goRL ?_ | refine goRR ?_)
      all_goals try (conv => whnf)
      refine Exists.intro (fun g => g = ((0, true, 0) : Nat × Bool × Nat)) (And.intro (Enter.mk ((0, true, 0) : Nat × Bool × Nat) ⟨by decide, Nat.le_refl _, Nat.zero_le _⟩ rfl ?_) (fun (g : Nat × Bool × Nat) hg hJ => ?_))
      · skip
        ((repeat' ((conv => whnf) <;> first | exact trivial | (with_reducible first | refine And.intro ?_ ?_ | refine rows_lt1 ?_ | refine rows_lt2 ?_ ?_ | refine rows_lt3 ?_ ?_ ?_ | refine rows_lt4 ?_ ?_ ?_ ?_ | refine rows_lt5 ?_ ?_ ?_ ?_ ?_ | refine aggs_lt1 ?_ | refine aggs_lt2 ?_ ?_ | refine aggs_lt3 ?_ ?_ ?_ | refine fun (_ : Nat) => ?_) | refine fun (_ : (_ : Nat) < _) => ?_ | exact rfl | exact Nat.le_of_ble_eq_true rfl | (change (_ : Nat) ≤ _; omega) | (change (_ : Nat) = _; omega) | (change (_ : Int) = _; omega))); (all_goals try (conv => whnf)))
        all_goals
          rename_i j hj
          rcases (show j = 0 ∨ j = 1 ∨ j = 2 ∨ j = 3 by omega) with rfl | rfl | rfl | rfl
          all_goals
            ((repeat' ((conv => whnf) <;> first | exact trivial | (with_reducible first | refine And.intro ?_ ?_ | refine rows_lt1 ?_ | refine rows_lt2 ?_ ?_ | refine rows_lt3 ?_ ?_ ?_ | refine rows_lt4 ?_ ?_ ?_ ?_ | refine rows_lt5 ?_ ?_ ?_ ?_ ?_ | refine aggs_lt1 ?_ | refine aggs_lt2 ?_ ?_ | refine aggs_lt3 ?_ ?_ ?_ | refine fun (_ : Nat) => ?_) | refine fun (_ : (_ : Nat) < _) => ?_ | exact rfl | exact Nat.le_of_ble_eq_true rfl | (change (_ : Nat) ≤ _; omega) | (change (_ : Nat) = _; omega) | (change (_ : Int) = _; omega))); (all_goals try (conv => whnf)))
      obtain rfl : g = (0, true, 0) := hJ
      repeat ((conv => whnf); first | refine sdO ?_ | refine nlO ?_ | refine goA ?_ | refine goB ?_ | (apply Exists.intro; (repeat apply Exists.intro); refine caO ?_) | (refine Or.inl ?_; (conv => whnf); (repeat apply Exists.intro); refine caO ?_) | (refine Or.inr ?_; (conv => whnf); first | ((repeat apply Exists.intro); refine caO ?_) | (refine Or.inl ?_; (conv => whnf); (repeat apply Exists.intro); refine caO ?_) | (refine Or.inr ?_; (conv => whnf); (repeat apply Exists.intro); refine caO ?_)) | refine And.intro (by assumption) ?_ | refine goT ?_ | refine goF ?_ | refine goL ?_ | refine goR ?_ | refine goRL ?_ | refine goRR ?_)
      all_goals try (conv => whnf)
      refine Again.mk (1 : Nat) (show 1 ≤ 4 by omega) trivial (show 4 - 1 < 4 - 0 by omega) ?_
      ((repeat' ((conv => whnf) <;> first | exact trivial | (with_reducible first | refine And.intro ?_ ?_ | refine rows_lt1 ?_ | refine rows_lt2 ?_ ?_ | refine rows_lt3 ?_ ?_ ?_ | refine rows_lt4 ?_ ?_ ?_ ?_ | refine rows_lt5 ?_ ?_ ?_ ?_ ?_ | refine aggs_lt1 ?_ | refine aggs_lt2 ?_ ?_ | refine aggs_lt3 ?_ ?_ ?_ | refine fun (_ : Nat) => ?_) | refine fun (_ : (_ : Nat) < _) => ?_ | exact rfl | exact Nat.le_of_ble_eq_true rfl | (change (_ : Nat) ≤ _; omega) | (change (_ : Nat) = _; omega) | (change (_ : Int) = _; omega))); (all_goals try (conv => whnf)))
      all_goals
        rename_i j hj
        rcases (show j = 0 ∨ j = 1 ∨ j = 2 ∨ j = 3 by omega) with rfl | rfl | rfl | rfl
        all_goals
          ((repeat' ((conv => whnf) <;> first | exact trivial | (with_reducible first | refine And.intro ?_ ?_ | refine rows_lt1 ?_ | refine rows_lt2 ?_ ?_ | refine rows_lt3 ?_ ?_ ?_ | refine rows_lt4 ?_ ?_ ?_ ?_ | refine rows_lt5 ?_ ?_ ?_ ?_ ?_ | refine aggs_lt1 ?_ | refine aggs_lt2 ?_ ?_ | refine aggs_lt3 ?_ ?_ ?_ | refine fun (_ : Nat) => ?_) | refine fun (_ : (_ : Nat) < _) => ?_ | exact rfl | exact Nat.le_of_ble_eq_true rfl | (change (_ : Nat) ≤ _; omega) | (change (_ : Nat) = _; omega) | (change (_ : Int) = _; omega))); (all_goals try (conv => whnf)))
  · rcases Decidable.em (paE L G = 0) with e0 | e0
    · obtain ⟨h8, hoS, hgT, hLe, _⟩ := paE_0 e0
      have htS := tp_le' hoS
      have hhT := hg_facts hgT
      have hmx : 36 + 32 * tp (sgT G) ≤ maxLen := Nat.le_trans (show _ ≤ 9000 by omega) (by decide)
      have q1 : lfQ G = lfQ G := rfl
      have q2 : trT G = trT G := rfl
      have q4 : lw (36 + 32 * tp (sgT G)) (fun j => G (4 + j)) = lw (36 + 32 * tp (sgT G)) (fun j => G (4 + j)) := rfl
      repeat ((conv => whnf); first | refine sdO ?_ | refine nlO ?_ | refine goA ?_ | refine goB ?_ | (apply Exists.intro; (repeat apply Exists.intro); refine caO ?_) | (refine Or.inl ?_; (conv => whnf); (repeat apply Exists.intro); refine caO ?_) | (refine Or.inr ?_; (conv => whnf); first | ((repeat apply Exists.intro); refine caO ?_) | (refine Or.inl ?_; (conv => whnf); (repeat apply Exists.intro); refine caO ?_) | (refine Or.inr ?_; (conv => whnf); (repeat apply Exists.intro); refine caO ?_)) | refine And.intro (by assumption) ?_ | refine goT ?_ | refine goF ?_ | refine goL ?_ | refine goR ?_ | refine goRL ?_ | refine goRR ?_)
      all_goals try (conv => whnf)
      refine Exists.intro (fun g => g.1 = 1 ∧ g.2.1 = false) (And.intro (Enter.mk ((1, false, 0) : Nat × Bool × Nat) ⟨by decide, Nat.zero_le _, hhT.2⟩ ⟨rfl, rfl⟩ ?_) (fun (g : Nat × Bool × Nat) hg hJ => ?_))
      · skip
        ((repeat' ((conv => whnf) <;> first | exact trivial | (with_reducible first | refine And.intro ?_ ?_ | refine rows_lt1 ?_ | refine rows_lt2 ?_ ?_ | refine rows_lt3 ?_ ?_ ?_ | refine rows_lt4 ?_ ?_ ?_ ?_ | refine rows_lt5 ?_ ?_ ?_ ?_ ?_ | refine aggs_lt1 ?_ | refine aggs_lt2 ?_ ?_ | refine aggs_lt3 ?_ ?_ ?_ | refine fun (_ : Nat) => ?_) | refine fun (_ : (_ : Nat) < _) => ?_ | exact rfl | exact Nat.le_of_ble_eq_true rfl | (change (_ : Nat) ≤ _; omega) | (change (_ : Nat) = _; omega) | (change (_ : Int) = _; omega))); (all_goals try (conv => whnf)))
        all_goals
          rename_i j hj
          rcases (show j = 0 ∨ j = 1 ∨ j = 2 ∨ j = 3 by omega) with rfl | rfl | rfl | rfl
          all_goals
            ((repeat' ((conv => whnf) <;> first | exact trivial | (with_reducible first | refine And.intro ?_ ?_ | refine rows_lt1 ?_ | refine rows_lt2 ?_ ?_ | refine rows_lt3 ?_ ?_ ?_ | refine rows_lt4 ?_ ?_ ?_ ?_ | refine rows_lt5 ?_ ?_ ?_ ?_ ?_ | refine aggs_lt1 ?_ | refine aggs_lt2 ?_ ?_ | refine aggs_lt3 ?_ ?_ ?_ | refine fun (_ : Nat) => ?_) | refine fun (_ : (_ : Nat) < _) => ?_ | exact rfl | exact Nat.le_of_ble_eq_true rfl | (change (_ : Nat) ≤ _; omega) | (change (_ : Nat) = _; omega) | (change (_ : Int) = _; omega))); (all_goals try (conv => whnf)))
      obtain ⟨i, e, k⟩ := g
      obtain ⟨hJ, hJ'⟩ := hJ
      obtain rfl : i = 1 := hJ
      obtain rfl : e = false := hJ'
      obtain ⟨-, hk, hH⟩ := hg
      have hk : k ≤ hgN (trT G) := hk
      have hH : hgN (trT G) ≤ 25 := hH
      rcases Nat.lt_or_ge k (hgN (trT G)) with q | q
      · skip
        repeat ((conv => whnf); first | refine sdO ?_ | refine nlO ?_ | refine goA ?_ | refine goB ?_ | (apply Exists.intro; (repeat apply Exists.intro); refine caO ?_) | (refine Or.inl ?_; (conv => whnf); (repeat apply Exists.intro); refine caO ?_) | (refine Or.inr ?_; (conv => whnf); first | ((repeat apply Exists.intro); refine caO ?_) | (refine Or.inl ?_; (conv => whnf); (repeat apply Exists.intro); refine caO ?_) | (refine Or.inr ?_; (conv => whnf); (repeat apply Exists.intro); refine caO ?_)) | refine And.intro (by assumption) ?_ | refine goT ?_ | refine goF ?_ | refine goL ?_ | refine goR ?_ | refine goRL ?_ | refine goRR ?_)
        all_goals try (conv => whnf)
        refine And.intro (fun g => nbR g (eqB_agg fun j hj => rfl)) (fun _ => ?_)
        repeat ((conv => whnf); first | refine sdO ?_ | refine nlO ?_ | refine goA ?_ | refine goB ?_ | (apply Exists.intro; (repeat apply Exists.intro); refine caO ?_) | (refine Or.inl ?_; (conv => whnf); (repeat apply Exists.intro); refine caO ?_) | (refine Or.inr ?_; (conv => whnf); first | ((repeat apply Exists.intro); refine caO ?_) | (refine Or.inl ?_; (conv => whnf); (repeat apply Exists.intro); refine caO ?_) | (refine Or.inr ?_; (conv => whnf); (repeat apply Exists.intro); refine caO ?_)) | refine And.intro (by assumption) ?_ | refine goT ?_ | refine goF ?_ | refine goL ?_ | refine goR ?_ | refine goRL ?_ | refine goRR ?_)
        all_goals try (conv => whnf)
        refine Again.mk ((1, false, k + 1) : Nat × Bool × Nat) ⟨(show 1 ≤ 3 by omega), q, hH⟩ ⟨rfl, rfl⟩ (show hgN (trT G) - (k + 1) < hgN (trT G) - k by omega) ?_
        ((repeat' ((conv => whnf) <;> first | exact trivial | (with_reducible first | refine And.intro ?_ ?_ | refine rows_lt1 ?_ | refine rows_lt2 ?_ ?_ | refine rows_lt3 ?_ ?_ ?_ | refine rows_lt4 ?_ ?_ ?_ ?_ | refine rows_lt5 ?_ ?_ ?_ ?_ ?_ | refine aggs_lt1 ?_ | refine aggs_lt2 ?_ ?_ | refine aggs_lt3 ?_ ?_ ?_ | refine fun (_ : Nat) => ?_) | refine fun (_ : (_ : Nat) < _) => ?_ | exact rfl | exact Nat.le_of_ble_eq_true rfl | (change (_ : Nat) ≤ _; omega) | (change (_ : Nat) = _; omega) | (change (_ : Int) = _; omega))); (all_goals try (conv => whnf)))
        all_goals
          rename_i j hj
          rcases (show j = 0 ∨ j = 1 ∨ j = 2 ∨ j = 3 by omega) with rfl | rfl | rfl | rfl
          all_goals
            ((repeat' ((conv => whnf) <;> first | exact trivial | (with_reducible first | refine And.intro ?_ ?_ | refine rows_lt1 ?_ | refine rows_lt2 ?_ ?_ | refine rows_lt3 ?_ ?_ ?_ | refine rows_lt4 ?_ ?_ ?_ ?_ | refine rows_lt5 ?_ ?_ ?_ ?_ ?_ | refine aggs_lt1 ?_ | refine aggs_lt2 ?_ ?_ | refine aggs_lt3 ?_ ?_ ?_ | refine fun (_ : Nat) => ?_) | refine fun (_ : (_ : Nat) < _) => ?_ | exact rfl | exact Nat.le_of_ble_eq_true rfl | (change (_ : Nat) ≤ _; omega) | (change (_ : Nat) = _; omega) | (change (_ : Int) = _; omega))); (all_goals try (conv => whnf)))
      · have q' : ¬ k < hgN (trT G) := by omega
        repeat ((conv => whnf); first | refine sdO ?_ | refine nlO ?_ | refine goA ?_ | refine goB ?_ | (apply Exists.intro; (repeat apply Exists.intro); refine caO ?_) | (refine Or.inl ?_; (conv => whnf); (repeat apply Exists.intro); refine caO ?_) | (refine Or.inr ?_; (conv => whnf); first | ((repeat apply Exists.intro); refine caO ?_) | (refine Or.inl ?_; (conv => whnf); (repeat apply Exists.intro); refine caO ?_) | (refine Or.inr ?_; (conv => whnf); (repeat apply Exists.intro); refine caO ?_)) | refine And.intro (by assumption) ?_ | refine goT ?_ | refine goF ?_ | refine goL ?_ | refine goR ?_ | refine goRL ?_ | refine goRR ?_)
        all_goals try (conv => whnf)
        refine Again.mk (2 : Nat) (show 2 ≤ 4 by omega) trivial (show 4 - 2 < 4 - 1 by omega) ?_
        ((repeat' ((conv => whnf) <;> first | exact trivial | (with_reducible first | refine And.intro ?_ ?_ | refine rows_lt1 ?_ | refine rows_lt2 ?_ ?_ | refine rows_lt3 ?_ ?_ ?_ | refine rows_lt4 ?_ ?_ ?_ ?_ | refine rows_lt5 ?_ ?_ ?_ ?_ ?_ | refine aggs_lt1 ?_ | refine aggs_lt2 ?_ ?_ | refine aggs_lt3 ?_ ?_ ?_ | refine fun (_ : Nat) => ?_) | refine fun (_ : (_ : Nat) < _) => ?_ | exact rfl | exact Nat.le_of_ble_eq_true rfl | (change (_ : Nat) ≤ _; omega) | (change (_ : Nat) = _; omega) | (change (_ : Int) = _; omega))); (all_goals try (conv => whnf)))
        all_goals
          rename_i j hj
          rcases (show j = 0 ∨ j = 1 ∨ j = 2 ∨ j = 3 by omega) with rfl | rfl | rfl | rfl
          all_goals
            ((repeat' ((conv => whnf) <;> first | exact trivial | (with_reducible first | refine And.intro ?_ ?_ | refine rows_lt1 ?_ | refine rows_lt2 ?_ ?_ | refine rows_lt3 ?_ ?_ ?_ | refine rows_lt4 ?_ ?_ ?_ ?_ | refine rows_lt5 ?_ ?_ ?_ ?_ ?_ | refine aggs_lt1 ?_ | refine aggs_lt2 ?_ ?_ | refine aggs_lt3 ?_ ?_ ?_ | refine fun (_ : Nat) => ?_) | refine fun (_ : (_ : Nat) < _) => ?_ | exact rfl | exact Nat.le_of_ble_eq_true rfl | (change (_ : Nat) ≤ _; omega) | (change (_ : Nat) = _; omega) | (change (_ : Int) = _; omega))); (all_goals try (conv => whnf)))
    · skip
      repeat ((conv => whnf); first | refine sdO ?_ | refine nlO ?_ | refine goA ?_ | refine goB ?_ | (apply Exists.intro; (repeat apply Exists.intro); refine caO ?_) | (refine Or.inl ?_; (conv => whnf); (repeat apply Exists.intro); refine caO ?_) | (refine Or.inr ?_; (conv => whnf); first | ((repeat apply Exists.intro); refine caO ?_) | (refine Or.inl ?_; (conv => whnf); (repeat apply Exists.intro); refine caO ?_) | (refine Or.inr ?_; (conv => whnf); (repeat apply Exists.intro); refine caO ?_)) | refine And.intro (by assumption) ?_ | refine goT ?_ | refine goF ?_ | refine goL ?_ | refine goR ?_ | refine goRL ?_ | refine goRR ?_)
      all_goals try (conv => whnf)
      refine Exists.intro (fun g => g = ((1, true, 0) : Nat × Bool × Nat)) (And.intro (Enter.mk ((1, true, 0) : Nat × Bool × Nat) ⟨by decide, Nat.le_refl _, Nat.zero_le _⟩ rfl ?_) (fun (g : Nat × Bool × Nat) hg hJ => ?_))
      · skip
        ((repeat' ((conv => whnf) <;> first | exact trivial | (with_reducible first | refine And.intro ?_ ?_ | refine rows_lt1 ?_ | refine rows_lt2 ?_ ?_ | refine rows_lt3 ?_ ?_ ?_ | refine rows_lt4 ?_ ?_ ?_ ?_ | refine rows_lt5 ?_ ?_ ?_ ?_ ?_ | refine aggs_lt1 ?_ | refine aggs_lt2 ?_ ?_ | refine aggs_lt3 ?_ ?_ ?_ | refine fun (_ : Nat) => ?_) | refine fun (_ : (_ : Nat) < _) => ?_ | exact rfl | exact Nat.le_of_ble_eq_true rfl | (change (_ : Nat) ≤ _; omega) | (change (_ : Nat) = _; omega) | (change (_ : Int) = _; omega))); (all_goals try (conv => whnf)))
        all_goals
          rename_i j hj
          rcases (show j = 0 ∨ j = 1 ∨ j = 2 ∨ j = 3 by omega) with rfl | rfl | rfl | rfl
          all_goals
            ((repeat' ((conv => whnf) <;> first | exact trivial | (with_reducible first | refine And.intro ?_ ?_ | refine rows_lt1 ?_ | refine rows_lt2 ?_ ?_ | refine rows_lt3 ?_ ?_ ?_ | refine rows_lt4 ?_ ?_ ?_ ?_ | refine rows_lt5 ?_ ?_ ?_ ?_ ?_ | refine aggs_lt1 ?_ | refine aggs_lt2 ?_ ?_ | refine aggs_lt3 ?_ ?_ ?_ | refine fun (_ : Nat) => ?_) | refine fun (_ : (_ : Nat) < _) => ?_ | exact rfl | exact Nat.le_of_ble_eq_true rfl | (change (_ : Nat) ≤ _; omega) | (change (_ : Nat) = _; omega) | (change (_ : Int) = _; omega))); (all_goals try (conv => whnf)))
      obtain rfl : g = (1, true, 0) := hJ
      repeat ((conv => whnf); first | refine sdO ?_ | refine nlO ?_ | refine goA ?_ | refine goB ?_ | (apply Exists.intro; (repeat apply Exists.intro); refine caO ?_) | (refine Or.inl ?_; (conv => whnf); (repeat apply Exists.intro); refine caO ?_) | (refine Or.inr ?_; (conv => whnf); first | ((repeat apply Exists.intro); refine caO ?_) | (refine Or.inl ?_; (conv => whnf); (repeat apply Exists.intro); refine caO ?_) | (refine Or.inr ?_; (conv => whnf); (repeat apply Exists.intro); refine caO ?_)) | refine And.intro (by assumption) ?_ | refine goT ?_ | refine goF ?_ | refine goL ?_ | refine goR ?_ | refine goRL ?_ | refine goRR ?_)
      all_goals try (conv => whnf)
      refine Again.mk (2 : Nat) (show 2 ≤ 4 by omega) trivial (show 4 - 2 < 4 - 1 by omega) ?_
      ((repeat' ((conv => whnf) <;> first | exact trivial | (with_reducible first | refine And.intro ?_ ?_ | refine rows_lt1 ?_ | refine rows_lt2 ?_ ?_ | refine rows_lt3 ?_ ?_ ?_ | refine rows_lt4 ?_ ?_ ?_ ?_ | refine rows_lt5 ?_ ?_ ?_ ?_ ?_ | refine aggs_lt1 ?_ | refine aggs_lt2 ?_ ?_ | refine aggs_lt3 ?_ ?_ ?_ | refine fun (_ : Nat) => ?_) | refine fun (_ : (_ : Nat) < _) => ?_ | exact rfl | exact Nat.le_of_ble_eq_true rfl | (change (_ : Nat) ≤ _; omega) | (change (_ : Nat) = _; omega) | (change (_ : Int) = _; omega))); (all_goals try (conv => whnf)))
      all_goals
        rename_i j hj
        rcases (show j = 0 ∨ j = 1 ∨ j = 2 ∨ j = 3 by omega) with rfl | rfl | rfl | rfl
        all_goals
          ((repeat' ((conv => whnf) <;> first | exact trivial | (with_reducible first | refine And.intro ?_ ?_ | refine rows_lt1 ?_ | refine rows_lt2 ?_ ?_ | refine rows_lt3 ?_ ?_ ?_ | refine rows_lt4 ?_ ?_ ?_ ?_ | refine rows_lt5 ?_ ?_ ?_ ?_ ?_ | refine aggs_lt1 ?_ | refine aggs_lt2 ?_ ?_ | refine aggs_lt3 ?_ ?_ ?_ | refine fun (_ : Nat) => ?_) | refine fun (_ : (_ : Nat) < _) => ?_ | exact rfl | exact Nat.le_of_ble_eq_true rfl | (change (_ : Nat) ≤ _; omega) | (change (_ : Nat) = _; omega) | (change (_ : Int) = _; omega))); (all_goals try (conv => whnf)))
  · rcases Decidable.em (paE M G = 0) with e0 | e0
    · obtain ⟨h8, hoS, hgT, hLe, _⟩ := paE_0 e0
      have htS := tp_le' hoS
      have hhT := hg_facts hgT
      have hmx : 36 + 32 * tp (sgT G) ≤ maxLen := Nat.le_trans (show _ ≤ 9000 by omega) (by decide)
      have q1 : lfQ G = lfQ G := rfl
      have q2 : trT G = trT G := rfl
      have q4 : lw (36 + 32 * tp (sgT G)) (fun j => G (4 + j)) = lw (36 + 32 * tp (sgT G)) (fun j => G (4 + j)) := rfl
      repeat ((conv => whnf); first | refine sdO ?_ | refine nlO ?_ | refine goA ?_ | refine goB ?_ | (apply Exists.intro; (repeat apply Exists.intro); refine caO ?_) | (refine Or.inl ?_; (conv => whnf); (repeat apply Exists.intro); refine caO ?_) | (refine Or.inr ?_; (conv => whnf); first | ((repeat apply Exists.intro); refine caO ?_) | (refine Or.inl ?_; (conv => whnf); (repeat apply Exists.intro); refine caO ?_) | (refine Or.inr ?_; (conv => whnf); (repeat apply Exists.intro); refine caO ?_)) | refine And.intro (by assumption) ?_ | refine goT ?_ | refine goF ?_ | refine goL ?_ | refine goR ?_ | refine goRL ?_ | refine goRR ?_)
      all_goals try (conv => whnf)
      refine Exists.intro (fun g => g.1 = 2 ∧ g.2.1 = false) (And.intro (Enter.mk ((2, false, 0) : Nat × Bool × Nat) ⟨by decide, Nat.zero_le _, hhT.2⟩ ⟨rfl, rfl⟩ ?_) (fun (g : Nat × Bool × Nat) hg hJ => ?_))
      · skip
        ((repeat' ((conv => whnf) <;> first | exact trivial | (with_reducible first | refine And.intro ?_ ?_ | refine rows_lt1 ?_ | refine rows_lt2 ?_ ?_ | refine rows_lt3 ?_ ?_ ?_ | refine rows_lt4 ?_ ?_ ?_ ?_ | refine rows_lt5 ?_ ?_ ?_ ?_ ?_ | refine aggs_lt1 ?_ | refine aggs_lt2 ?_ ?_ | refine aggs_lt3 ?_ ?_ ?_ | refine fun (_ : Nat) => ?_) | refine fun (_ : (_ : Nat) < _) => ?_ | exact rfl | exact Nat.le_of_ble_eq_true rfl | (change (_ : Nat) ≤ _; omega) | (change (_ : Nat) = _; omega) | (change (_ : Int) = _; omega))); (all_goals try (conv => whnf)))
        all_goals
          rename_i j hj
          rcases (show j = 0 ∨ j = 1 ∨ j = 2 ∨ j = 3 by omega) with rfl | rfl | rfl | rfl
          all_goals
            ((repeat' ((conv => whnf) <;> first | exact trivial | (with_reducible first | refine And.intro ?_ ?_ | refine rows_lt1 ?_ | refine rows_lt2 ?_ ?_ | refine rows_lt3 ?_ ?_ ?_ | refine rows_lt4 ?_ ?_ ?_ ?_ | refine rows_lt5 ?_ ?_ ?_ ?_ ?_ | refine aggs_lt1 ?_ | refine aggs_lt2 ?_ ?_ | refine aggs_lt3 ?_ ?_ ?_ | refine fun (_ : Nat) => ?_) | refine fun (_ : (_ : Nat) < _) => ?_ | exact rfl | exact Nat.le_of_ble_eq_true rfl | (change (_ : Nat) ≤ _; omega) | (change (_ : Nat) = _; omega) | (change (_ : Int) = _; omega))); (all_goals try (conv => whnf)))
      obtain ⟨i, e, k⟩ := g
      obtain ⟨hJ, hJ'⟩ := hJ
      obtain rfl : i = 2 := hJ
      obtain rfl : e = false := hJ'
      obtain ⟨-, hk, hH⟩ := hg
      have hk : k ≤ hgN (trT G) := hk
      have hH : hgN (trT G) ≤ 25 := hH
      rcases Nat.lt_or_ge k (hgN (trT G)) with q | q
      · skip
        repeat ((conv => whnf); first | refine sdO ?_ | refine nlO ?_ | refine goA ?_ | refine goB ?_ | (apply Exists.intro; (repeat apply Exists.intro); refine caO ?_) | (refine Or.inl ?_; (conv => whnf); (repeat apply Exists.intro); refine caO ?_) | (refine Or.inr ?_; (conv => whnf); first | ((repeat apply Exists.intro); refine caO ?_) | (refine Or.inl ?_; (conv => whnf); (repeat apply Exists.intro); refine caO ?_) | (refine Or.inr ?_; (conv => whnf); (repeat apply Exists.intro); refine caO ?_)) | refine And.intro (by assumption) ?_ | refine goT ?_ | refine goF ?_ | refine goL ?_ | refine goR ?_ | refine goRL ?_ | refine goRR ?_)
        all_goals try (conv => whnf)
        refine And.intro (fun g => nbR g (eqB_agg fun j hj => rfl)) (fun _ => ?_)
        repeat ((conv => whnf); first | refine sdO ?_ | refine nlO ?_ | refine goA ?_ | refine goB ?_ | (apply Exists.intro; (repeat apply Exists.intro); refine caO ?_) | (refine Or.inl ?_; (conv => whnf); (repeat apply Exists.intro); refine caO ?_) | (refine Or.inr ?_; (conv => whnf); first | ((repeat apply Exists.intro); refine caO ?_) | (refine Or.inl ?_; (conv => whnf); (repeat apply Exists.intro); refine caO ?_) | (refine Or.inr ?_; (conv => whnf); (repeat apply Exists.intro); refine caO ?_)) | refine And.intro (by assumption) ?_ | refine goT ?_ | refine goF ?_ | refine goL ?_ | refine goR ?_ | refine goRL ?_ | refine goRR ?_)
        all_goals try (conv => whnf)
        refine Again.mk ((2, false, k + 1) : Nat × Bool × Nat) ⟨(show 2 ≤ 3 by omega), q, hH⟩ ⟨rfl, rfl⟩ (show hgN (trT G) - (k + 1) < hgN (trT G) - k by omega) ?_
        ((repeat' ((conv => whnf) <;> first | exact trivial | (with_reducible first | refine And.intro ?_ ?_ | refine rows_lt1 ?_ | refine rows_lt2 ?_ ?_ | refine rows_lt3 ?_ ?_ ?_ | refine rows_lt4 ?_ ?_ ?_ ?_ | refine rows_lt5 ?_ ?_ ?_ ?_ ?_ | refine aggs_lt1 ?_ | refine aggs_lt2 ?_ ?_ | refine aggs_lt3 ?_ ?_ ?_ | refine fun (_ : Nat) => ?_) | refine fun (_ : (_ : Nat) < _) => ?_ | exact rfl | exact Nat.le_of_ble_eq_true rfl | (change (_ : Nat) ≤ _; omega) | (change (_ : Nat) = _; omega) | (change (_ : Int) = _; omega))); (all_goals try (conv => whnf)))
        all_goals
          rename_i j hj
          rcases (show j = 0 ∨ j = 1 ∨ j = 2 ∨ j = 3 by omega) with rfl | rfl | rfl | rfl
          all_goals
            ((repeat' ((conv => whnf) <;> first | exact trivial | (with_reducible first | refine And.intro ?_ ?_ | refine rows_lt1 ?_ | refine rows_lt2 ?_ ?_ | refine rows_lt3 ?_ ?_ ?_ | refine rows_lt4 ?_ ?_ ?_ ?_ | refine rows_lt5 ?_ ?_ ?_ ?_ ?_ | refine aggs_lt1 ?_ | refine aggs_lt2 ?_ ?_ | refine aggs_lt3 ?_ ?_ ?_ | refine fun (_ : Nat) => ?_) | refine fun (_ : (_ : Nat) < _) => ?_ | exact rfl | exact Nat.le_of_ble_eq_true rfl | (change (_ : Nat) ≤ _; omega) | (change (_ : Nat) = _; omega) | (change (_ : Int) = _; omega))); (all_goals try (conv => whnf)))
      · have q' : ¬ k < hgN (trT G) := by omega
        repeat ((conv => whnf); first | refine sdO ?_ | refine nlO ?_ | refine goA ?_ | refine goB ?_ | (apply Exists.intro; (repeat apply Exists.intro); refine caO ?_) | (refine Or.inl ?_; (conv => whnf); (repeat apply Exists.intro); refine caO ?_) | (refine Or.inr ?_; (conv => whnf); first | ((repeat apply Exists.intro); refine caO ?_) | (refine Or.inl ?_; (conv => whnf); (repeat apply Exists.intro); refine caO ?_) | (refine Or.inr ?_; (conv => whnf); (repeat apply Exists.intro); refine caO ?_)) | refine And.intro (by assumption) ?_ | refine goT ?_ | refine goF ?_ | refine goL ?_ | refine goR ?_ | refine goRL ?_ | refine goRR ?_)
        all_goals try (conv => whnf)
        refine Again.mk (3 : Nat) (show 3 ≤ 4 by omega) trivial (show 4 - 3 < 4 - 2 by omega) ?_
        ((repeat' ((conv => whnf) <;> first | exact trivial | (with_reducible first | refine And.intro ?_ ?_ | refine rows_lt1 ?_ | refine rows_lt2 ?_ ?_ | refine rows_lt3 ?_ ?_ ?_ | refine rows_lt4 ?_ ?_ ?_ ?_ | refine rows_lt5 ?_ ?_ ?_ ?_ ?_ | refine aggs_lt1 ?_ | refine aggs_lt2 ?_ ?_ | refine aggs_lt3 ?_ ?_ ?_ | refine fun (_ : Nat) => ?_) | refine fun (_ : (_ : Nat) < _) => ?_ | exact rfl | exact Nat.le_of_ble_eq_true rfl | (change (_ : Nat) ≤ _; omega) | (change (_ : Nat) = _; omega) | (change (_ : Int) = _; omega))); (all_goals try (conv => whnf)))
        all_goals
          rename_i j hj
          rcases (show j = 0 ∨ j = 1 ∨ j = 2 ∨ j = 3 by omega) with rfl | rfl | rfl | rfl
          all_goals
            ((repeat' ((conv => whnf) <;> first | exact trivial | (with_reducible first | refine And.intro ?_ ?_ | refine rows_lt1 ?_ | refine rows_lt2 ?_ ?_ | refine rows_lt3 ?_ ?_ ?_ | refine rows_lt4 ?_ ?_ ?_ ?_ | refine rows_lt5 ?_ ?_ ?_ ?_ ?_ | refine aggs_lt1 ?_ | refine aggs_lt2 ?_ ?_ | refine aggs_lt3 ?_ ?_ ?_ | refine fun (_ : Nat) => ?_) | refine fun (_ : (_ : Nat) < _) => ?_ | exact rfl | exact Nat.le_of_ble_eq_true rfl | (change (_ : Nat) ≤ _; omega) | (change (_ : Nat) = _; omega) | (change (_ : Int) = _; omega))); (all_goals try (conv => whnf)))
    · skip
      repeat ((conv => whnf); first | refine sdO ?_ | refine nlO ?_ | refine goA ?_ | refine goB ?_ | (apply Exists.intro; (repeat apply Exists.intro); refine caO ?_) | (refine Or.inl ?_; (conv => whnf); (repeat apply Exists.intro); refine caO ?_) | (refine Or.inr ?_; (conv => whnf); first | ((repeat apply Exists.intro); refine caO ?_) | (refine Or.inl ?_; (conv => whnf); (repeat apply Exists.intro); refine caO ?_) | (refine Or.inr ?_; (conv => whnf); (repeat apply Exists.intro); refine caO ?_)) | refine And.intro (by assumption) ?_ | refine goT ?_ | refine goF ?_ | refine goL ?_ | refine goR ?_ | refine goRL ?_ | refine goRR ?_)
      all_goals try (conv => whnf)
      refine Exists.intro (fun g => g = ((2, true, 0) : Nat × Bool × Nat)) (And.intro (Enter.mk ((2, true, 0) : Nat × Bool × Nat) ⟨by decide, Nat.le_refl _, Nat.zero_le _⟩ rfl ?_) (fun (g : Nat × Bool × Nat) hg hJ => ?_))
      · skip
        ((repeat' ((conv => whnf) <;> first | exact trivial | (with_reducible first | refine And.intro ?_ ?_ | refine rows_lt1 ?_ | refine rows_lt2 ?_ ?_ | refine rows_lt3 ?_ ?_ ?_ | refine rows_lt4 ?_ ?_ ?_ ?_ | refine rows_lt5 ?_ ?_ ?_ ?_ ?_ | refine aggs_lt1 ?_ | refine aggs_lt2 ?_ ?_ | refine aggs_lt3 ?_ ?_ ?_ | refine fun (_ : Nat) => ?_) | refine fun (_ : (_ : Nat) < _) => ?_ | exact rfl | exact Nat.le_of_ble_eq_true rfl | (change (_ : Nat) ≤ _; omega) | (change (_ : Nat) = _; omega) | (change (_ : Int) = _; omega))); (all_goals try (conv => whnf)))
        all_goals
          rename_i j hj
          rcases (show j = 0 ∨ j = 1 ∨ j = 2 ∨ j = 3 by omega) with rfl | rfl | rfl | rfl
          all_goals
            ((repeat' ((conv => whnf) <;> first | exact trivial | (with_reducible first | refine And.intro ?_ ?_ | refine rows_lt1 ?_ | refine rows_lt2 ?_ ?_ | refine rows_lt3 ?_ ?_ ?_ | refine rows_lt4 ?_ ?_ ?_ ?_ | refine rows_lt5 ?_ ?_ ?_ ?_ ?_ | refine aggs_lt1 ?_ | refine aggs_lt2 ?_ ?_ | refine aggs_lt3 ?_ ?_ ?_ | refine fun (_ : Nat) => ?_) | refine fun (_ : (_ : Nat) < _) => ?_ | exact rfl | exact Nat.le_of_ble_eq_true rfl | (change (_ : Nat) ≤ _; omega) | (change (_ : Nat) = _; omega) | (change (_ : Int) = _; omega))); (all_goals try (conv => whnf)))
      obtain rfl : g = (2, true, 0) := hJ
      repeat ((conv => whnf); first | refine sdO ?_ | refine nlO ?_ | refine goA ?_ | refine goB ?_ | (apply Exists.intro; (repeat apply Exists.intro); refine caO ?_) | (refine Or.inl ?_; (conv => whnf); (repeat apply Exists.intro); refine caO ?_) | (refine Or.inr ?_; (conv => whnf); first | ((repeat apply Exists.intro); refine caO ?_) | (refine Or.inl ?_; (conv => whnf); (repeat apply Exists.intro); refine caO ?_) | (refine Or.inr ?_; (conv => whnf); (repeat apply Exists.intro); refine caO ?_)) | refine And.intro (by assumption) ?_ | refine goT ?_ | refine goF ?_ | refine goL ?_ | refine goR ?_ | refine goRL ?_ | refine goRR ?_)
      all_goals try (conv => whnf)
      refine Again.mk (3 : Nat) (show 3 ≤ 4 by omega) trivial (show 4 - 3 < 4 - 2 by omega) ?_
      ((repeat' ((conv => whnf) <;> first | exact trivial | (with_reducible first | refine And.intro ?_ ?_ | refine rows_lt1 ?_ | refine rows_lt2 ?_ ?_ | refine rows_lt3 ?_ ?_ ?_ | refine rows_lt4 ?_ ?_ ?_ ?_ | refine rows_lt5 ?_ ?_ ?_ ?_ ?_ | refine aggs_lt1 ?_ | refine aggs_lt2 ?_ ?_ | refine aggs_lt3 ?_ ?_ ?_ | refine fun (_ : Nat) => ?_) | refine fun (_ : (_ : Nat) < _) => ?_ | exact rfl | exact Nat.le_of_ble_eq_true rfl | (change (_ : Nat) ≤ _; omega) | (change (_ : Nat) = _; omega) | (change (_ : Int) = _; omega))); (all_goals try (conv => whnf)))
      all_goals
        rename_i j hj
        rcases (show j = 0 ∨ j = 1 ∨ j = 2 ∨ j = 3 by omega) with rfl | rfl | rfl | rfl
        all_goals
          ((repeat' ((conv => whnf) <;> first | exact trivial | (with_reducible first | refine And.intro ?_ ?_ | refine rows_lt1 ?_ | refine rows_lt2 ?_ ?_ | refine rows_lt3 ?_ ?_ ?_ | refine rows_lt4 ?_ ?_ ?_ ?_ | refine rows_lt5 ?_ ?_ ?_ ?_ ?_ | refine aggs_lt1 ?_ | refine aggs_lt2 ?_ ?_ | refine aggs_lt3 ?_ ?_ ?_ | refine fun (_ : Nat) => ?_) | refine fun (_ : (_ : Nat) < _) => ?_ | exact rfl | exact Nat.le_of_ble_eq_true rfl | (change (_ : Nat) ≤ _; omega) | (change (_ : Nat) = _; omega) | (change (_ : Int) = _; omega))); (all_goals try (conv => whnf)))
  · rcases Decidable.em (paE N J = 0) with e0 | e0
    · obtain ⟨h8, hoS, hgT, hLe, _⟩ := paE_0 e0
      have htS := tp_le' hoS
      have hhT := hg_facts hgT
      have hmx : 36 + 32 * tp (sgT J) ≤ maxLen := Nat.le_trans (show _ ≤ 9000 by omega) (by decide)
      have q1 : lfQ J = lfQ J := rfl
      have q2 : trT J = trT J := rfl
      have q4 : lw (36 + 32 * tp (sgT J)) (fun j => J (4 + j)) = lw (36 + 32 * tp (sgT J)) (fun j => J (4 + j)) := rfl
      repeat ((conv => whnf); first | refine sdO ?_ | refine nlO ?_ | refine goA ?_ | refine goB ?_ | (apply Exists.intro; (repeat apply Exists.intro); refine caO ?_) | (refine Or.inl ?_; (conv => whnf); (repeat apply Exists.intro); refine caO ?_) | (refine Or.inr ?_; (conv => whnf); first | ((repeat apply Exists.intro); refine caO ?_) | (refine Or.inl ?_; (conv => whnf); (repeat apply Exists.intro); refine caO ?_) | (refine Or.inr ?_; (conv => whnf); (repeat apply Exists.intro); refine caO ?_)) | refine And.intro (by assumption) ?_ | refine goT ?_ | refine goF ?_ | refine goL ?_ | refine goR ?_ | refine goRL ?_ | refine goRR ?_)
      all_goals try (conv => whnf)
      refine Exists.intro (fun g => g.1 = 3 ∧ g.2.1 = false) (And.intro (Enter.mk ((3, false, 0) : Nat × Bool × Nat) ⟨by decide, Nat.zero_le _, hhT.2⟩ ⟨rfl, rfl⟩ ?_) (fun (g : Nat × Bool × Nat) hg hJ => ?_))
      · skip
        ((repeat' ((conv => whnf) <;> first | exact trivial | (with_reducible first | refine And.intro ?_ ?_ | refine rows_lt1 ?_ | refine rows_lt2 ?_ ?_ | refine rows_lt3 ?_ ?_ ?_ | refine rows_lt4 ?_ ?_ ?_ ?_ | refine rows_lt5 ?_ ?_ ?_ ?_ ?_ | refine aggs_lt1 ?_ | refine aggs_lt2 ?_ ?_ | refine aggs_lt3 ?_ ?_ ?_ | refine fun (_ : Nat) => ?_) | refine fun (_ : (_ : Nat) < _) => ?_ | exact rfl | exact Nat.le_of_ble_eq_true rfl | (change (_ : Nat) ≤ _; omega) | (change (_ : Nat) = _; omega) | (change (_ : Int) = _; omega))); (all_goals try (conv => whnf)))
        all_goals
          rename_i j hj
          rcases (show j = 0 ∨ j = 1 ∨ j = 2 ∨ j = 3 by omega) with rfl | rfl | rfl | rfl
          all_goals
            ((repeat' ((conv => whnf) <;> first | exact trivial | (with_reducible first | refine And.intro ?_ ?_ | refine rows_lt1 ?_ | refine rows_lt2 ?_ ?_ | refine rows_lt3 ?_ ?_ ?_ | refine rows_lt4 ?_ ?_ ?_ ?_ | refine rows_lt5 ?_ ?_ ?_ ?_ ?_ | refine aggs_lt1 ?_ | refine aggs_lt2 ?_ ?_ | refine aggs_lt3 ?_ ?_ ?_ | refine fun (_ : Nat) => ?_) | refine fun (_ : (_ : Nat) < _) => ?_ | exact rfl | exact Nat.le_of_ble_eq_true rfl | (change (_ : Nat) ≤ _; omega) | (change (_ : Nat) = _; omega) | (change (_ : Int) = _; omega))); (all_goals try (conv => whnf)))
      obtain ⟨i, e, k⟩ := g
      obtain ⟨hJ, hJ'⟩ := hJ
      obtain rfl : i = 3 := hJ
      obtain rfl : e = false := hJ'
      obtain ⟨-, hk, hH⟩ := hg
      have hk : k ≤ hgN (trT J) := hk
      have hH : hgN (trT J) ≤ 25 := hH
      rcases Nat.lt_or_ge k (hgN (trT J)) with q | q
      · skip
        repeat ((conv => whnf); first | refine sdO ?_ | refine nlO ?_ | refine goA ?_ | refine goB ?_ | (apply Exists.intro; (repeat apply Exists.intro); refine caO ?_) | (refine Or.inl ?_; (conv => whnf); (repeat apply Exists.intro); refine caO ?_) | (refine Or.inr ?_; (conv => whnf); first | ((repeat apply Exists.intro); refine caO ?_) | (refine Or.inl ?_; (conv => whnf); (repeat apply Exists.intro); refine caO ?_) | (refine Or.inr ?_; (conv => whnf); (repeat apply Exists.intro); refine caO ?_)) | refine And.intro (by assumption) ?_ | refine goT ?_ | refine goF ?_ | refine goL ?_ | refine goR ?_ | refine goRL ?_ | refine goRR ?_)
        all_goals try (conv => whnf)
        refine And.intro (fun g => nbR g (eqB_agg fun j hj => rfl)) (fun _ => ?_)
        repeat ((conv => whnf); first | refine sdO ?_ | refine nlO ?_ | refine goA ?_ | refine goB ?_ | (apply Exists.intro; (repeat apply Exists.intro); refine caO ?_) | (refine Or.inl ?_; (conv => whnf); (repeat apply Exists.intro); refine caO ?_) | (refine Or.inr ?_; (conv => whnf); first | ((repeat apply Exists.intro); refine caO ?_) | (refine Or.inl ?_; (conv => whnf); (repeat apply Exists.intro); refine caO ?_) | (refine Or.inr ?_; (conv => whnf); (repeat apply Exists.intro); refine caO ?_)) | refine And.intro (by assumption) ?_ | refine goT ?_ | refine goF ?_ | refine goL ?_ | refine goR ?_ | refine goRL ?_ | refine goRR ?_)
        all_goals try (conv => whnf)
        refine Again.mk ((3, false, k + 1) : Nat × Bool × Nat) ⟨(show 3 ≤ 3 by omega), q, hH⟩ ⟨rfl, rfl⟩ (show hgN (trT J) - (k + 1) < hgN (trT J) - k by omega) ?_
        ((repeat' ((conv => whnf) <;> first | exact trivial | (with_reducible first | refine And.intro ?_ ?_ | refine rows_lt1 ?_ | refine rows_lt2 ?_ ?_ | refine rows_lt3 ?_ ?_ ?_ | refine rows_lt4 ?_ ?_ ?_ ?_ | refine rows_lt5 ?_ ?_ ?_ ?_ ?_ | refine aggs_lt1 ?_ | refine aggs_lt2 ?_ ?_ | refine aggs_lt3 ?_ ?_ ?_ | refine fun (_ : Nat) => ?_) | refine fun (_ : (_ : Nat) < _) => ?_ | exact rfl | exact Nat.le_of_ble_eq_true rfl | (change (_ : Nat) ≤ _; omega) | (change (_ : Nat) = _; omega) | (change (_ : Int) = _; omega))); (all_goals try (conv => whnf)))
        all_goals
          rename_i j hj
          rcases (show j = 0 ∨ j = 1 ∨ j = 2 ∨ j = 3 by omega) with rfl | rfl | rfl | rfl
          all_goals
            ((repeat' ((conv => whnf) <;> first | exact trivial | (with_reducible first | refine And.intro ?_ ?_ | refine rows_lt1 ?_ | refine rows_lt2 ?_ ?_ | refine rows_lt3 ?_ ?_ ?_ | refine rows_lt4 ?_ ?_ ?_ ?_ | refine rows_lt5 ?_ ?_ ?_ ?_ ?_ | refine aggs_lt1 ?_ | refine aggs_lt2 ?_ ?_ | refine aggs_lt3 ?_ ?_ ?_ | refine fun (_ : Nat) => ?_) | refine fun (_ : (_ : Nat) < _) => ?_ | exact rfl | exact Nat.le_of_ble_eq_true rfl | (change (_ : Nat) ≤ _; omega) | (change (_ : Nat) = _; omega) | (change (_ : Int) = _; omega))); (all_goals try (conv => whnf)))
      · have q' : ¬ k < hgN (trT J) := by omega
        repeat ((conv => whnf); first | refine sdO ?_ | refine nlO ?_ | refine goA ?_ | refine goB ?_ | (apply Exists.intro; (repeat apply Exists.intro); refine caO ?_) | (refine Or.inl ?_; (conv => whnf); (repeat apply Exists.intro); refine caO ?_) | (refine Or.inr ?_; (conv => whnf); first | ((repeat apply Exists.intro); refine caO ?_) | (refine Or.inl ?_; (conv => whnf); (repeat apply Exists.intro); refine caO ?_) | (refine Or.inr ?_; (conv => whnf); (repeat apply Exists.intro); refine caO ?_)) | refine And.intro (by assumption) ?_ | refine goT ?_ | refine goF ?_ | refine goL ?_ | refine goR ?_ | refine goRL ?_ | refine goRR ?_)
        all_goals try (conv => whnf)
        refine Again.mk (4 : Nat) (show 4 ≤ 4 by omega) trivial (show 4 - 4 < 4 - 3 by omega) ?_
        ((repeat' ((conv => whnf) <;> first | exact trivial | (with_reducible first | refine And.intro ?_ ?_ | refine rows_lt1 ?_ | refine rows_lt2 ?_ ?_ | refine rows_lt3 ?_ ?_ ?_ | refine rows_lt4 ?_ ?_ ?_ ?_ | refine rows_lt5 ?_ ?_ ?_ ?_ ?_ | refine aggs_lt1 ?_ | refine aggs_lt2 ?_ ?_ | refine aggs_lt3 ?_ ?_ ?_ | refine fun (_ : Nat) => ?_) | refine fun (_ : (_ : Nat) < _) => ?_ | exact rfl | exact Nat.le_of_ble_eq_true rfl | (change (_ : Nat) ≤ _; omega) | (change (_ : Nat) = _; omega) | (change (_ : Int) = _; omega))); (all_goals try (conv => whnf)))
        all_goals
          rename_i j hj
          rcases (show j = 0 ∨ j = 1 ∨ j = 2 ∨ j = 3 by omega) with rfl | rfl | rfl | rfl
          all_goals
            ((repeat' ((conv => whnf) <;> first | exact trivial | (with_reducible first | refine And.intro ?_ ?_ | refine rows_lt1 ?_ | refine rows_lt2 ?_ ?_ | refine rows_lt3 ?_ ?_ ?_ | refine rows_lt4 ?_ ?_ ?_ ?_ | refine rows_lt5 ?_ ?_ ?_ ?_ ?_ | refine aggs_lt1 ?_ | refine aggs_lt2 ?_ ?_ | refine aggs_lt3 ?_ ?_ ?_ | refine fun (_ : Nat) => ?_) | refine fun (_ : (_ : Nat) < _) => ?_ | exact rfl | exact Nat.le_of_ble_eq_true rfl | (change (_ : Nat) ≤ _; omega) | (change (_ : Nat) = _; omega) | (change (_ : Int) = _; omega))); (all_goals try (conv => whnf)))
    · skip
      repeat ((conv => whnf); first | refine sdO ?_ | refine nlO ?_ | refine goA ?_ | refine goB ?_ | (apply Exists.intro; (repeat apply Exists.intro); refine caO ?_) | (refine Or.inl ?_; (conv => whnf); (repeat apply Exists.intro); refine caO ?_) | (refine Or.inr ?_; (conv => whnf); first | ((repeat apply Exists.intro); refine caO ?_) | (refine Or.inl ?_; (conv => whnf); (repeat apply Exists.intro); refine caO ?_) | (refine Or.inr ?_; (conv => whnf); (repeat apply Exists.intro); refine caO ?_)) | refine And.intro (by assumption) ?_ | refine goT ?_ | refine goF ?_ | refine goL ?_ | refine goR ?_ | refine goRL ?_ | refine goRR ?_)
      all_goals try (conv => whnf)
      refine Exists.intro (fun g => g = ((3, true, 0) : Nat × Bool × Nat)) (And.intro (Enter.mk ((3, true, 0) : Nat × Bool × Nat) ⟨by decide, Nat.le_refl _, Nat.zero_le _⟩ rfl ?_) (fun (g : Nat × Bool × Nat) hg hJ => ?_))
      · skip
        ((repeat' ((conv => whnf) <;> first | exact trivial | (with_reducible first | refine And.intro ?_ ?_ | refine rows_lt1 ?_ | refine rows_lt2 ?_ ?_ | refine rows_lt3 ?_ ?_ ?_ | refine rows_lt4 ?_ ?_ ?_ ?_ | refine rows_lt5 ?_ ?_ ?_ ?_ ?_ | refine aggs_lt1 ?_ | refine aggs_lt2 ?_ ?_ | refine aggs_lt3 ?_ ?_ ?_ | refine fun (_ : Nat) => ?_) | refine fun (_ : (_ : Nat) < _) => ?_ | exact rfl | exact Nat.le_of_ble_eq_true rfl | (change (_ : Nat) ≤ _; omega) | (change (_ : Nat) = _; omega) | (change (_ : Int) = _; omega))); (all_goals try (conv => whnf)))
        all_goals
          rename_i j hj
          rcases (show j = 0 ∨ j = 1 ∨ j = 2 ∨ j = 3 by omega) with rfl | rfl | rfl | rfl
          all_goals
            ((repeat' ((conv => whnf) <;> first | exact trivial | (with_reducible first | refine And.intro ?_ ?_ | refine rows_lt1 ?_ | refine rows_lt2 ?_ ?_ | refine rows_lt3 ?_ ?_ ?_ | refine rows_lt4 ?_ ?_ ?_ ?_ | refine rows_lt5 ?_ ?_ ?_ ?_ ?_ | refine aggs_lt1 ?_ | refine aggs_lt2 ?_ ?_ | refine aggs_lt3 ?_ ?_ ?_ | refine fun (_ : Nat) => ?_) | refine fun (_ : (_ : Nat) < _) => ?_ | exact rfl | exact Nat.le_of_ble_eq_true rfl | (change (_ : Nat) ≤ _; omega) | (change (_ : Nat) = _; omega) | (change (_ : Int) = _; omega))); (all_goals try (conv => whnf)))
      obtain rfl : g = (3, true, 0) := hJ
      repeat ((conv => whnf); first | refine sdO ?_ | refine nlO ?_ | refine goA ?_ | refine goB ?_ | (apply Exists.intro; (repeat apply Exists.intro); refine caO ?_) | (refine Or.inl ?_; (conv => whnf); (repeat apply Exists.intro); refine caO ?_) | (refine Or.inr ?_; (conv => whnf); first | ((repeat apply Exists.intro); refine caO ?_) | (refine Or.inl ?_; (conv => whnf); (repeat apply Exists.intro); refine caO ?_) | (refine Or.inr ?_; (conv => whnf); (repeat apply Exists.intro); refine caO ?_)) | refine And.intro (by assumption) ?_ | refine goT ?_ | refine goF ?_ | refine goL ?_ | refine goR ?_ | refine goRL ?_ | refine goRR ?_)
      all_goals try (conv => whnf)
      refine Again.mk (4 : Nat) (show 4 ≤ 4 by omega) trivial (show 4 - 4 < 4 - 3 by omega) ?_
      ((repeat' ((conv => whnf) <;> first | exact trivial | (with_reducible first | refine And.intro ?_ ?_ | refine rows_lt1 ?_ | refine rows_lt2 ?_ ?_ | refine rows_lt3 ?_ ?_ ?_ | refine rows_lt4 ?_ ?_ ?_ ?_ | refine rows_lt5 ?_ ?_ ?_ ?_ ?_ | refine aggs_lt1 ?_ | refine aggs_lt2 ?_ ?_ | refine aggs_lt3 ?_ ?_ ?_ | refine fun (_ : Nat) => ?_) | refine fun (_ : (_ : Nat) < _) => ?_ | exact rfl | exact Nat.le_of_ble_eq_true rfl | (change (_ : Nat) ≤ _; omega) | (change (_ : Nat) = _; omega) | (change (_ : Int) = _; omega))); (all_goals try (conv => whnf)))
      all_goals
        rename_i j hj
        rcases (show j = 0 ∨ j = 1 ∨ j = 2 ∨ j = 3 by omega) with rfl | rfl | rfl | rfl
        all_goals
          ((repeat' ((conv => whnf) <;> first | exact trivial | (with_reducible first | refine And.intro ?_ ?_ | refine rows_lt1 ?_ | refine rows_lt2 ?_ ?_ | refine rows_lt3 ?_ ?_ ?_ | refine rows_lt4 ?_ ?_ ?_ ?_ | refine rows_lt5 ?_ ?_ ?_ ?_ ?_ | refine aggs_lt1 ?_ | refine aggs_lt2 ?_ ?_ | refine aggs_lt3 ?_ ?_ ?_ | refine fun (_ : Nat) => ?_) | refine fun (_ : (_ : Nat) < _) => ?_ | exact rfl | exact Nat.le_of_ble_eq_true rfl | (change (_ : Nat) ≤ _; omega) | (change (_ : Nat) = _; omega) | (change (_ : Int) = _; omega))); (all_goals try (conv => whnf)))
  · skip
    repeat ((conv => whnf); first | refine sdO ?_ | refine nlO ?_ | refine goA ?_ | refine goB ?_ | (apply Exists.intro; (repeat apply Exists.intro); refine caO ?_) | (refine Or.inl ?_; (conv => whnf); (repeat apply Exists.intro); refine caO ?_) | (refine Or.inr ?_; (conv => whnf); first | ((repeat apply Exists.intro); refine caO ?_) | (refine Or.inl ?_; (conv => whnf); (repeat apply Exists.intro); refine caO ?_) | (refine Or.inr ?_; (conv => whnf); (repeat apply Exists.intro); refine caO ?_)) | refine And.intro (by assumption) ?_ | refine goT ?_ | refine goF ?_ | refine goL ?_ | refine goR ?_ | refine goRL ?_ | refine goRR ?_)
    all_goals try (conv => whnf)
    ((repeat' ((conv => whnf) <;> first | exact trivial | (with_reducible first | refine And.intro ?_ ?_ | refine rows_lt1 ?_ | refine rows_lt2 ?_ ?_ | refine rows_lt3 ?_ ?_ ?_ | refine rows_lt4 ?_ ?_ ?_ ?_ | refine rows_lt5 ?_ ?_ ?_ ?_ ?_ | refine aggs_lt1 ?_ | refine aggs_lt2 ?_ ?_ | refine aggs_lt3 ?_ ?_ ?_ | refine fun (_ : Nat) => ?_) | refine fun (_ : (_ : Nat) < _) => ?_ | exact rfl | exact Nat.le_of_ble_eq_true rfl | (change (_ : Nat) ≤ _; omega) | (change (_ : Nat) = _; omega) | (change (_ : Int) = _; omega))); (all_goals try (conv => whnf)))
end Go.Proofs.YthdckapjgkikkaaDoor
