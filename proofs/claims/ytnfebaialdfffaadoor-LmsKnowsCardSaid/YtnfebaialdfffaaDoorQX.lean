/- lms: LmsKnows. -/
import Derived.Test.YtnfebaialdfffaaDoorQW
import Derived.Test.YtnfebaialdfffaaDoorQK
namespace Go.Proofs.YtnfebaialdfffaaDoor
open Go.RowKit
set_option maxRecDepth 100000
set_option maxHeartbeats 20000000
theorem i64t (x : BitVec 64) : I64 x.toInt := by
  have h1 := BitVec.toInt_lt (x := x)
  have h2 := BitVec.le_toInt (x := x)
  unfold I64; omega
theorem dg_lt (t : BitVec 32) (d : Nat → BitVec 8) (i : Nat) : dgT t d i < 2 ^ tw t := cf_lt _ _ _
theorem kw_out {b : BitVec 32} {d : Nat → Nat} {q : BitVec 32} {i j : Int} (h : kwP b d q i j) : q = BitVec.ofInt 32 0 ∧ ∃ k : Nat, i = (k : Int) ∧ k < tp b ∧ ((d k : Nat) : Int) ≤ j ∧ j < ((2 ^ tw b : Nat) : Int) := h
theorem kw_near {b : BitVec 32} {d : Nat → Nat} {r : Nat} (hr : r < tp b) (hd : d r < 2 ^ tw b) : kwP b d (BitVec.ofInt 32 0) (r : Int) ((d r : Nat) : Int) := ⟨rfl, r, rfl, hr, Int.le_refl _, Int.ofNat_lt.2 hd⟩
theorem kw_low {b : BitVec 32} {d : Nat → Nat} {r : Nat} : ¬ kwP b d (BitVec.ofInt 32 0) (r : Int) (((d r : Nat) : Int) - ((Int.toNat 1 : Nat) : Int)) := by
  rintro ⟨_, k, e, _, h, _⟩
  obtain rfl : r = k := Int.ofNat.inj e
  simp only [Int.reduceToNat] at h
  omega
theorem kw_used {b : BitVec 32} {d : Nat → Nat} {i j : Int} : ¬ kwP b d (BitVec.ofInt 32 1) i j := fun h => absurd h.1 (by decide)
theorem kw_no {b : BitVec 32} {d : Nat → Nat} {q : BitVec 32} {i j : Int} (h : ¬ kwP b d q i j) : ¬ q = BitVec.ofInt 32 0 ∨ (q = BitVec.ofInt 32 0 ∧ (i < 0 ∨ ∃ k : Nat, i = (k : Int) ∧ (tp b ≤ k ∨ (k < tp b ∧ (j < 0 ∨ (0 ≤ j ∧ (¬ j < ((2 ^ tw b : Nat) : Int) ∨ (j < ((2 ^ tw b : Nat) : Int) ∧ j < ((d k : Nat) : Int))))))))) := by
  rcases Decidable.em (q = BitVec.ofInt 32 0) with hq | hq
  · refine .inr ⟨hq, ?_⟩
    rcases Int.lt_or_le i 0 with h0 | h0
    · exact .inl h0
    obtain ⟨k, rfl⟩ := Int.eq_ofNat_of_zero_le h0
    refine .inr ⟨k, rfl, ?_⟩
    rcases Nat.lt_or_ge k (tp b) with hk | hk
    · refine .inr ⟨hk, ?_⟩
      rcases Int.lt_or_le j 0 with j0 | j0
      · exact .inl j0
      refine .inr ⟨j0, ?_⟩
      rcases Decidable.em (j < ((2 ^ tw b : Nat) : Int)) with h2 | h2
      · refine .inr ⟨h2, ?_⟩
        rcases Int.lt_or_le j ((d k : Nat) : Int) with h1 | h1
        · exact h1
        · exact absurd ⟨hq, k, rfl, hk, h1, h2⟩ h
      · exact .inl h2
    · exact .inl hk
  · exact .inl hq
attribute [local irreducible] hsh rst sha256 press dig valN mash fold digs ch tw tp tlS cf ckN dgT pubE upTo sgV sigB mashD clE mixA clK pubK st1 at8 hgN w4 sib sgS gr2 rtEq pubS clM ndT gr1
def C_l6_layV : SpecR := fun A K => ∃ h t id seed, A [.u8 h, .u8 t, arr8 16 id, arr8 32 seed] ∧ K (tupOf [.ptr TSn 8 [], .nat (lyK h), .u32 (lyO t)])
  [(8, snR (lyA h) (lyO t) id seed (.gsl 23 9 (2 * 2 ^ hgN (lyA h))) (.vmt 10)), (9, .grow 23 (2 * 2 ^ hgN (lyA h)) (dgA (gr2 (lyO t) id seed (hgN (lyA h)) 0))), (10, vm0)]
theorem g_l6_layV : Gd 6 (pureR ty C_l6_layV) := by
  refine goodR (E := PG [(21, pureR ty C_sn_NewV)]) (pgOK ⟨g_sn_NewV, trivial⟩) mixes Tryd.func6 (by kernel_rfl) (by kernel_rfl) ?_
  rintro A K ⟨h, t, id, seed, hA, hK⟩
  have hs : snOK (BitVec.ofInt 32 3758096384 + BitVec.ofNat 32 (1 + (h % BitVec.ofInt 8 2).toNat)) (asU32 (look [(0, .u32 (BitVec.ofInt 32 3)), (1, .u32 (BitVec.ofInt 32 3)), (2, .u32 (BitVec.ofInt 32 2))] (.u32 0) (t % BitVec.ofInt 8 3).toNat)) := ly_sn h t
  have h3 : (t % BitVec.ofInt 8 3).toNat < 3 := by rw [BitVec.toNat_umod]; exact Nat.mod_lt _ (by decide)
  refine ⟨_, _, _, fun _ => none, hA, hK, by kernel_rfl, by kernel_rfl, ⟨own_sv (lyA h) (lyO t) id seed (.gsl 23 9 (2 * 2 ^ hgN (lyA h))) trivial 10, fun _ _ _ _ => trivial, own_v0, trivial⟩, own_ly trivial trivial trivial, ?_⟩
  repeat ((conv => whnf); first | refine sdO ?_ | refine nlO ?_ | refine goA ?_ | refine goB ?_ | (apply Exists.intro; (repeat apply Exists.intro); refine caO ?_) | (refine Or.inl ?_; (conv => whnf); (repeat apply Exists.intro); refine caO ?_) | (refine Or.inr ?_; (conv => whnf); first | ((repeat apply Exists.intro); refine caO ?_) | (refine Or.inl ?_; (conv => whnf); (repeat apply Exists.intro); refine caO ?_) | (refine Or.inr ?_; (conv => whnf); (repeat apply Exists.intro); refine caO ?_)) | refine And.intro (by assumption) ?_ | refine goT ?_ | refine goF ?_ | refine goL ?_ | refine goR ?_ | refine goRL ?_ | refine goRR ?_)
  all_goals try (conv => whnf)
  (refine out_fnd ?_; (repeat' ((conv => whnf) <;> first | exact trivial | (with_reducible first | refine And.intro ?_ ?_ | refine rows_lt1 ?_ | refine rows_lt2 ?_ ?_ | refine rows_lt3 ?_ ?_ ?_ | refine rows_lt4 ?_ ?_ ?_ ?_ | refine rows_lt5 ?_ ?_ ?_ ?_ ?_ | refine aggs_lt1 ?_ | refine aggs_lt2 ?_ ?_ | refine aggs_lt3 ?_ ?_ ?_ | refine fun (_ : Nat) => ?_) | refine fun (_ : (_ : Nat) < _) => ?_ | exact rfl | exact Nat.le_of_ble_eq_true rfl | (change (_ : Nat) ≤ _; omega) | (change (_ : Nat) = _; omega) | (change (_ : Int) = _; omega))); (all_goals try (conv => whnf)))
def C_l6_layW : SpecR := fun A K => ∃ h t id seed a o k, A [.u8 h, .u8 t, arr8 16 id, arr8 32 seed] ∧ (lyA h = a ∧ lyO t = o ∧ lyK h = k) ∧ K (tupOf [.ptr TSn 8 [], .nat k, .u32 o])
  [(8, snR a o id seed (.gsl 23 9 (2 * 2 ^ hgN a)) (.vmt 10)), (9, .grow 23 (2 * 2 ^ hgN a) (dgA (gr2 o id seed (hgN a) 0))), (10, vm0)]
theorem g_l6_layW : Gd 6 (pureR ty C_l6_layW) := good_imp g_l6_layV fun args m key K ⟨h, t, id, seed, a, o, k, hA, ⟨ha, ho, hk⟩, hK⟩ => by
  subst ha ho hk
  exact ⟨h, t, id, seed, hA, hK⟩
attribute [local irreducible] lyK lyA lyO kwP
abbrev plA (q : BitVec 32) (i j : Int) : AV := .agg false 3 (nth .junk [.u32 q, .int i, .int j])
def C_l6_LmsKnows : SpecP := fun A K => ∃ t seed c l m q i j, A [.u8 t, arr8 32 seed, arr8 32 c, bsl l m, plA q i j] ∧ l ≤ maxLen ∧ I64 i ∧ I64 j ∧ K (.bo true)
abbrev TPl : Ty := ty 27
/-- The digits that the law's signature told. -/
def knD (c : Nat → BitVec 8) (l : Nat) (m : Nat → BitVec 8) (o : BitVec 32) : Nat → Nat := dgT o (mashD (fun _ => 0) 0 c l m)
theorem kn_ob {o : BitVec 32} {c : Nat → BitVec 8} {l : Nat} {m : Nat → BitVec 8} {D : Nat → Nat} (hD : D = knD c l m o) {z : Nat → BitVec 8} (hz : z = fun _ => 0) : (Ob.vm TRec 1 fun i => bif Nat.beq i 0 then rcA true c l m (tp o) (dgT o (mashD z 0 c l m)) else .junk) = Ob.vm TRec 1 fun i => bif Nat.beq i 0 then rcA true c l m (tp o) D else .junk := by
  subst hz hD; rfl
theorem kn_dg {o : BitVec 32} {c : Nat → BitVec 8} {l : Nat} {m : Nat → BitVec 8} {D : Nat → Nat} (hD : D = knD c l m o) {z : Nat → BitVec 8} (hz : z = fun _ => 0) (i : Nat) : dgT o (at8 (mash z (BitVec.ofInt 32 0) (lw 32 c) (lw l m))) i = D i := by
  subst hz hD; exact congrFun (congrArg (dgT o) (mash_K (fun _ => 0) 0#32 c l m)) i
theorem kn_at {o : BitVec 32} {c : Nat → BitVec 8} {l : Nat} {m : Nat → BitVec 8} {D : Nat → Nat} (hD : D = knD c l m o) {k n : Nat} (hk : k < n) {z : Nat → BitVec 8} (hz : z = fun _ => 0) : dgT o (at8 (mash z (BitVec.ofInt 32 0) (lw 32 c) (lw l m))) (max (min (k : Int) ((n : Int) - ((Int.toNat 1 : Nat) : Int))) ((Int.toNat 0 : Nat) : Int)).toNat = D k := by
  have e : (max (min (k : Int) ((n : Int) - ((Int.toNat 1 : Nat) : Int))) ((Int.toNat 0 : Nat) : Int)).toNat = k := by
    simp only [Int.reduceToNat]; omega
  rw [kn_dg hD hz, e]
theorem kn_le {o : BitVec 32} {c : Nat → BitVec 8} {l : Nat} {m : Nat → BitVec 8} {D : Nat → Nat} (hD : D = knD c l m o) {k n : Nat} (hk : k < n) {j : Int} (h : ((D k : Nat) : Int) ≤ j) {z : Nat → BitVec 8} (hz : z = fun _ => 0) : ((dgT o (at8 (mash z (BitVec.ofInt 32 0) (lw 32 c) (lw l m))) (max (min (k : Int) ((n : Int) - ((Int.toNat 1 : Nat) : Int))) ((Int.toNat 0 : Nat) : Int)).toNat : Nat) : Int) ≤ j := by
  rw [kn_at hD hk hz]; exact h
theorem kn_nle {o : BitVec 32} {c : Nat → BitVec 8} {l : Nat} {m : Nat → BitVec 8} {D : Nat → Nat} (hD : D = knD c l m o) {k n : Nat} (hk : k < n) {j : Int} (h : j < ((D k : Nat) : Int)) {z : Nat → BitVec 8} (hz : z = fun _ => 0) : ¬ ((dgT o (at8 (mash z (BitVec.ofInt 32 0) (lw 32 c) (lw l m))) (max (min (k : Int) ((n : Int) - ((Int.toNat 1 : Nat) : Int))) ((Int.toNat 0 : Nat) : Int)).toNat : Nat) : Int) ≤ j := by
  rw [kn_at hD hk hz]; omega
structure GmK where
  b : Bool
def L_Kn (a o : BitVec 32) (seed c : Nat → BitVec 8) (l : Nat) (m : Nat → BitVec 8) (D : Nat → Nat) (q : BitVec 32) (i j : Int) : LI := ⟨GmK, fun _ => True,
  fun g => [(6, .ptr TD 8 []), (9, .ptr TPl 24 []), (11, .ptr TSn 2080 []), (15, .nat (tp o)), (17, .gsl 3 6192 (tp o)), (18, .bo g.b)],
  fun _ => [(8, .var TD (arr8 32 seed)), (24, .var TPl (plA q i j)), (2080, snR a o (fun _ => 0) seed (.gsl 23 2081 (2 * 2 ^ hgN a)) (.vmt 2082)), (2081, .grow 23 (2 * 2 ^ hgN a) (dgA (gr2 o (fun _ => 0) seed (hgN a) 0))),
    (2082, .ob (.vm TRec 1 fun i => bif Nat.beq i 0 then rcA true c l m (tp o) D else .junk)), (6192, .grow 3 (tp o) (nts D))], fun _ => 0, some, some⟩
theorem g_l6_LmsKnows : Gd 3 (pureP ty C_l6_LmsKnows) := by
  refine goodP (E := PG [(5, pureP ty C_l6_awake), (6, pureR ty C_l6_layW), (7, pureR ty C_r1_Cut), (8, mutD ty [true, false, false] C_sn_SignV), (9, pureP ty C_r5_TableO), (11, pureP ty C_r5_Mash), (10, pureR ty C_r5_All), (12, pureP ty C_sn_KnowsV)]) (pgOK ⟨g_l6_awake, g_l6_layW, g_r1_Cut, g_sn_SignV, g_r5_TableO, g_r5_Mash, g_r5_All, g_sn_KnowsV, trivial⟩) mixes Tryd.func3 (by kernel_rfl) (by kernel_rfl) ?_
  rintro A K ⟨t, seed, c, l0, m, q, i, j, hA, hm, hi, hj, hK⟩
  obtain ⟨a, ha⟩ : ∃ a, lyA (BitVec.ofInt 8 1) = a := ⟨_, rfl⟩
  obtain ⟨o, hoe⟩ : ∃ o, lyO t = o := ⟨_, rfl⟩
  obtain ⟨kk, hkk⟩ : ∃ k, lyK (BitVec.ofInt 8 1) = k := ⟨_, rfl⟩
  have hly : lyA (BitVec.ofInt 8 1) = a ∧ lyO t = o ∧ lyK (BitVec.ofInt 8 1) = kk := ⟨ha, hoe, hkk⟩
  have hg : hgOK a := ha ▸ (lyA_H (BitVec.ofInt 8 1)).1
  have ho : otOK o := hoe ▸ lyO_ok t
  obtain ⟨hw, hp1, hp2, hl7⟩ := ot_facts o ho
  have p0 : 0 < 2 ^ hgN a := Nat.pow_pos (by decide)
  have n0 : 0 < 2 * 2 ^ hgN a := by omega
  have hl : min l0 60 ≤ 1000000000 := by omega
  have hc : 2 * 2 ^ hgN a = 2 * 2 ^ hgN a ∧ hgOK a ∧ otOK o ∧ min l0 60 ≤ 1000000000 := ⟨rfl, hg, ho, hl⟩
  have hw8 : tw o ≤ 8 := (wpos hw).2.1
  have h256 := (pow_le (tw o) hw).1
  clear ha hoe hkk
  obtain ⟨D, hD⟩ : ∃ D, D = knD c (min l0 60) m o := ⟨_, rfl⟩
  refine ⟨_, _, loops [(100009, L_Kn a o seed c (min l0 60) m D q i j)], hA, hK, by kernel_rfl, trivial, ?_⟩
  repeat ((conv => whnf); first | refine Exists.intro (fun (g : GmK) => (g.b = true ↔ kwP o D q i j)) (And.intro ?_ (fun (g : GmK) _ hJ => ?_)) | refine sdO ?_ | refine nlO ?_ | refine goA ?_ | refine goB ?_ | (apply Exists.intro; (repeat apply Exists.intro); refine caO ?_) | (refine Or.inl ?_; (conv => whnf); (repeat apply Exists.intro); refine caO ?_) | (refine Or.inr ?_; (conv => whnf); first | ((repeat apply Exists.intro); refine caO ?_) | (refine Or.inl ?_; (conv => whnf); (repeat apply Exists.intro); refine caO ?_) | (refine Or.inr ?_; (conv => whnf); (repeat apply Exists.intro); refine caO ?_)) | refine And.intro (by assumption) ?_ | refine goT ?_ | refine goF ?_ | refine goL ?_ | refine goR ?_ | refine goRL ?_ | refine goRR ?_)
  all_goals try (conv => whnf)
  · rcases Classical.em (kwP o D q i j) with h | h
    · have hJ : (true = true ↔ kwP o D q i j) := ⟨fun _ => h, fun _ => rfl⟩
      obtain ⟨rfl, k, rfl, hk, h1, h2⟩ := kw_out h
      repeat ((conv => whnf); first | refine sdO ?_ | refine nlO ?_ | refine goA ?_ | refine goB ?_ | (apply Exists.intro; (repeat apply Exists.intro); refine caO ?_) | (refine Or.inl ?_; (conv => whnf); (repeat apply Exists.intro); refine caO ?_) | (refine Or.inr ?_; (conv => whnf); first | ((repeat apply Exists.intro); refine caO ?_) | (refine Or.inl ?_; (conv => whnf); (repeat apply Exists.intro); refine caO ?_) | (refine Or.inr ?_; (conv => whnf); (repeat apply Exists.intro); refine caO ?_)) | refine And.intro (by assumption) ?_ | refine goT ?_ | refine goF ?_ | refine goL ?_ | refine goR ?_ | refine goRL ?_ | refine goRR ?_)
      all_goals try (conv => whnf)
      refine Enter.mk (⟨true⟩ : GmK) trivial hJ ?_
      ((repeat' ((conv => whnf) <;> first | exact trivial | (with_reducible first | refine And.intro ?_ ?_ | refine rows_lt1 ?_ | refine rows_lt2 ?_ ?_ | refine rows_lt3 ?_ ?_ ?_ | refine rows_lt4 ?_ ?_ ?_ ?_ | refine rows_lt5 ?_ ?_ ?_ ?_ ?_ | refine aggs_lt1 ?_ | refine aggs_lt2 ?_ ?_ | refine aggs_lt3 ?_ ?_ ?_ | refine fun (_ : Nat) => ?_) | refine fun (_ : (_ : Nat) < _) => ?_ | exact rfl | exact Nat.le_of_ble_eq_true rfl | (change (_ : Nat) ≤ _; omega) | (change (_ : Nat) = _; omega) | (change (_ : Int) = _; omega))); (all_goals try (conv => whnf)))
      · refine kn_ob hD ?_
        exact funext fun _ => rfl
      · refine kn_dg hD ?_ _
        exact funext fun _ => rfl
      · refine decide_eq_true (kn_le hD hk h1 ?_)
        exact funext fun _ => rfl
    · have hJ : (false = true ↔ kwP o D q i j) := ⟨fun e => absurd e (by decide), fun e => absurd e h⟩
      rcases kw_no h with hq | ⟨rfl, hi0 | ⟨k, rfl, hk | ⟨hk, hj0 | ⟨hj0, h2 | ⟨h2, h1⟩⟩⟩⟩⟩
      · skip
        repeat ((conv => whnf); first | refine sdO ?_ | refine nlO ?_ | refine goA ?_ | refine goB ?_ | (apply Exists.intro; (repeat apply Exists.intro); refine caO ?_) | (refine Or.inl ?_; (conv => whnf); (repeat apply Exists.intro); refine caO ?_) | (refine Or.inr ?_; (conv => whnf); first | ((repeat apply Exists.intro); refine caO ?_) | (refine Or.inl ?_; (conv => whnf); (repeat apply Exists.intro); refine caO ?_) | (refine Or.inr ?_; (conv => whnf); (repeat apply Exists.intro); refine caO ?_)) | refine And.intro (by assumption) ?_ | refine goT ?_ | refine goF ?_ | refine goL ?_ | refine goR ?_ | refine goRL ?_ | refine goRR ?_)
        all_goals try (conv => whnf)
        refine Enter.mk (⟨false⟩ : GmK) trivial hJ ?_
        ((repeat' ((conv => whnf) <;> first | exact trivial | (with_reducible first | refine And.intro ?_ ?_ | refine rows_lt1 ?_ | refine rows_lt2 ?_ ?_ | refine rows_lt3 ?_ ?_ ?_ | refine rows_lt4 ?_ ?_ ?_ ?_ | refine rows_lt5 ?_ ?_ ?_ ?_ ?_ | refine aggs_lt1 ?_ | refine aggs_lt2 ?_ ?_ | refine aggs_lt3 ?_ ?_ ?_ | refine fun (_ : Nat) => ?_) | refine fun (_ : (_ : Nat) < _) => ?_ | exact rfl | exact Nat.le_of_ble_eq_true rfl | (change (_ : Nat) ≤ _; omega) | (change (_ : Nat) = _; omega) | (change (_ : Int) = _; omega))); (all_goals try (conv => whnf)))
        · refine kn_ob hD ?_
          exact funext fun _ => rfl
        · refine kn_dg hD ?_ _
          exact funext fun _ => rfl
      · skip
        repeat ((conv => whnf); first | refine sdO ?_ | refine nlO ?_ | refine goA ?_ | refine goB ?_ | (apply Exists.intro; (repeat apply Exists.intro); refine caO ?_) | (refine Or.inl ?_; (conv => whnf); (repeat apply Exists.intro); refine caO ?_) | (refine Or.inr ?_; (conv => whnf); first | ((repeat apply Exists.intro); refine caO ?_) | (refine Or.inl ?_; (conv => whnf); (repeat apply Exists.intro); refine caO ?_) | (refine Or.inr ?_; (conv => whnf); (repeat apply Exists.intro); refine caO ?_)) | refine And.intro (by assumption) ?_ | refine goT ?_ | refine goF ?_ | refine goL ?_ | refine goR ?_ | refine goRL ?_ | refine goRR ?_)
        all_goals try (conv => whnf)
        refine Enter.mk (⟨false⟩ : GmK) trivial hJ ?_
        ((repeat' ((conv => whnf) <;> first | exact trivial | (with_reducible first | refine And.intro ?_ ?_ | refine rows_lt1 ?_ | refine rows_lt2 ?_ ?_ | refine rows_lt3 ?_ ?_ ?_ | refine rows_lt4 ?_ ?_ ?_ ?_ | refine rows_lt5 ?_ ?_ ?_ ?_ ?_ | refine aggs_lt1 ?_ | refine aggs_lt2 ?_ ?_ | refine aggs_lt3 ?_ ?_ ?_ | refine fun (_ : Nat) => ?_) | refine fun (_ : (_ : Nat) < _) => ?_ | exact rfl | exact Nat.le_of_ble_eq_true rfl | (change (_ : Nat) ≤ _; omega) | (change (_ : Nat) = _; omega) | (change (_ : Int) = _; omega))); (all_goals try (conv => whnf)))
        · refine kn_ob hD ?_
          exact funext fun _ => rfl
        · refine kn_dg hD ?_ _
          exact funext fun _ => rfl
      · skip
        repeat ((conv => whnf); first | refine sdO ?_ | refine nlO ?_ | refine goA ?_ | refine goB ?_ | (apply Exists.intro; (repeat apply Exists.intro); refine caO ?_) | (refine Or.inl ?_; (conv => whnf); (repeat apply Exists.intro); refine caO ?_) | (refine Or.inr ?_; (conv => whnf); first | ((repeat apply Exists.intro); refine caO ?_) | (refine Or.inl ?_; (conv => whnf); (repeat apply Exists.intro); refine caO ?_) | (refine Or.inr ?_; (conv => whnf); (repeat apply Exists.intro); refine caO ?_)) | refine And.intro (by assumption) ?_ | refine goT ?_ | refine goF ?_ | refine goL ?_ | refine goR ?_ | refine goRL ?_ | refine goRR ?_)
        all_goals try (conv => whnf)
        refine Enter.mk (⟨false⟩ : GmK) trivial hJ ?_
        ((repeat' ((conv => whnf) <;> first | exact trivial | (with_reducible first | refine And.intro ?_ ?_ | refine rows_lt1 ?_ | refine rows_lt2 ?_ ?_ | refine rows_lt3 ?_ ?_ ?_ | refine rows_lt4 ?_ ?_ ?_ ?_ | refine rows_lt5 ?_ ?_ ?_ ?_ ?_ | refine aggs_lt1 ?_ | refine aggs_lt2 ?_ ?_ | refine aggs_lt3 ?_ ?_ ?_ | refine fun (_ : Nat) => ?_) | refine fun (_ : (_ : Nat) < _) => ?_ | exact rfl | exact Nat.le_of_ble_eq_true rfl | (change (_ : Nat) ≤ _; omega) | (change (_ : Nat) = _; omega) | (change (_ : Int) = _; omega))); (all_goals try (conv => whnf)))
        · refine kn_ob hD ?_
          exact funext fun _ => rfl
        · refine kn_dg hD ?_ _
          exact funext fun _ => rfl
      · skip
        repeat ((conv => whnf); first | refine sdO ?_ | refine nlO ?_ | refine goA ?_ | refine goB ?_ | (apply Exists.intro; (repeat apply Exists.intro); refine caO ?_) | (refine Or.inl ?_; (conv => whnf); (repeat apply Exists.intro); refine caO ?_) | (refine Or.inr ?_; (conv => whnf); first | ((repeat apply Exists.intro); refine caO ?_) | (refine Or.inl ?_; (conv => whnf); (repeat apply Exists.intro); refine caO ?_) | (refine Or.inr ?_; (conv => whnf); (repeat apply Exists.intro); refine caO ?_)) | refine And.intro (by assumption) ?_ | refine goT ?_ | refine goF ?_ | refine goL ?_ | refine goR ?_ | refine goRL ?_ | refine goRR ?_)
        all_goals try (conv => whnf)
        refine Enter.mk (⟨false⟩ : GmK) trivial hJ ?_
        ((repeat' ((conv => whnf) <;> first | exact trivial | (with_reducible first | refine And.intro ?_ ?_ | refine rows_lt1 ?_ | refine rows_lt2 ?_ ?_ | refine rows_lt3 ?_ ?_ ?_ | refine rows_lt4 ?_ ?_ ?_ ?_ | refine rows_lt5 ?_ ?_ ?_ ?_ ?_ | refine aggs_lt1 ?_ | refine aggs_lt2 ?_ ?_ | refine aggs_lt3 ?_ ?_ ?_ | refine fun (_ : Nat) => ?_) | refine fun (_ : (_ : Nat) < _) => ?_ | exact rfl | exact Nat.le_of_ble_eq_true rfl | (change (_ : Nat) ≤ _; omega) | (change (_ : Nat) = _; omega) | (change (_ : Int) = _; omega))); (all_goals try (conv => whnf)))
        · refine kn_ob hD ?_
          exact funext fun _ => rfl
        · refine kn_dg hD ?_ _
          exact funext fun _ => rfl
      · skip
        repeat ((conv => whnf); first | refine sdO ?_ | refine nlO ?_ | refine goA ?_ | refine goB ?_ | (apply Exists.intro; (repeat apply Exists.intro); refine caO ?_) | (refine Or.inl ?_; (conv => whnf); (repeat apply Exists.intro); refine caO ?_) | (refine Or.inr ?_; (conv => whnf); first | ((repeat apply Exists.intro); refine caO ?_) | (refine Or.inl ?_; (conv => whnf); (repeat apply Exists.intro); refine caO ?_) | (refine Or.inr ?_; (conv => whnf); (repeat apply Exists.intro); refine caO ?_)) | refine And.intro (by assumption) ?_ | refine goT ?_ | refine goF ?_ | refine goL ?_ | refine goR ?_ | refine goRL ?_ | refine goRR ?_)
        all_goals try (conv => whnf)
        refine Enter.mk (⟨false⟩ : GmK) trivial hJ ?_
        ((repeat' ((conv => whnf) <;> first | exact trivial | (with_reducible first | refine And.intro ?_ ?_ | refine rows_lt1 ?_ | refine rows_lt2 ?_ ?_ | refine rows_lt3 ?_ ?_ ?_ | refine rows_lt4 ?_ ?_ ?_ ?_ | refine rows_lt5 ?_ ?_ ?_ ?_ ?_ | refine aggs_lt1 ?_ | refine aggs_lt2 ?_ ?_ | refine aggs_lt3 ?_ ?_ ?_ | refine fun (_ : Nat) => ?_) | refine fun (_ : (_ : Nat) < _) => ?_ | exact rfl | exact Nat.le_of_ble_eq_true rfl | (change (_ : Nat) ≤ _; omega) | (change (_ : Nat) = _; omega) | (change (_ : Int) = _; omega))); (all_goals try (conv => whnf)))
        · refine kn_ob hD ?_
          exact funext fun _ => rfl
        · refine kn_dg hD ?_ _
          exact funext fun _ => rfl
      · skip
        repeat ((conv => whnf); first | refine sdO ?_ | refine nlO ?_ | refine goA ?_ | refine goB ?_ | (apply Exists.intro; (repeat apply Exists.intro); refine caO ?_) | (refine Or.inl ?_; (conv => whnf); (repeat apply Exists.intro); refine caO ?_) | (refine Or.inr ?_; (conv => whnf); first | ((repeat apply Exists.intro); refine caO ?_) | (refine Or.inl ?_; (conv => whnf); (repeat apply Exists.intro); refine caO ?_) | (refine Or.inr ?_; (conv => whnf); (repeat apply Exists.intro); refine caO ?_)) | refine And.intro (by assumption) ?_ | refine goT ?_ | refine goF ?_ | refine goL ?_ | refine goR ?_ | refine goRL ?_ | refine goRR ?_)
        all_goals try (conv => whnf)
        refine Enter.mk (⟨false⟩ : GmK) trivial hJ ?_
        ((repeat' ((conv => whnf) <;> first | exact trivial | (with_reducible first | refine And.intro ?_ ?_ | refine rows_lt1 ?_ | refine rows_lt2 ?_ ?_ | refine rows_lt3 ?_ ?_ ?_ | refine rows_lt4 ?_ ?_ ?_ ?_ | refine rows_lt5 ?_ ?_ ?_ ?_ ?_ | refine aggs_lt1 ?_ | refine aggs_lt2 ?_ ?_ | refine aggs_lt3 ?_ ?_ ?_ | refine fun (_ : Nat) => ?_) | refine fun (_ : (_ : Nat) < _) => ?_ | exact rfl | exact Nat.le_of_ble_eq_true rfl | (change (_ : Nat) ≤ _; omega) | (change (_ : Nat) = _; omega) | (change (_ : Int) = _; omega))); (all_goals try (conv => whnf)))
        · refine kn_ob hD ?_
          exact funext fun _ => rfl
        · refine kn_dg hD ?_ _
          exact funext fun _ => rfl
        · refine decide_eq_false (kn_nle hD hk h1 ?_)
          exact funext fun _ => rfl
  have hx : 0 < 2 * 2 ^ hgN a ∧ otOK o ∧ I64 i ∧ I64 j := ⟨n0, ho, hi, hj⟩
  have hr : (seed (Int.toNat 0)).toNat % tp o < tp o := Nat.mod_lt _ (by omega)
  have hD2 : D ((seed (Int.toNat 0)).toNat % tp o) < 2 ^ tw o := by rw [hD]; exact dg_lt _ _ _
  clear hD
  have hr3 : I64 (((seed (Int.toNat 0)).toNat % tp o : Nat) : Int) := by unfold I64; omega
  have hr4 : I64 (((D ((seed (Int.toNat 0)).toNat % tp o) : Nat) : Int) - ((Int.toNat 1 : Nat) : Int)) := by
    have e1 : ((Int.toNat 1 : Nat) : Int) = 1 := rfl
    rw [e1]; unfold I64; omega
  have hy : 0 < 2 * 2 ^ hgN a ∧ otOK o ∧ I64 (((seed (Int.toNat 0)).toNat % tp o : Nat) : Int) ∧ I64 ((D ((seed (Int.toNat 0)).toNat % tp o) : Nat) : Int) := ⟨n0, ho, hr3, by unfold I64; omega⟩
  have hz : 0 < 2 * 2 ^ hgN a ∧ otOK o ∧ I64 (((seed (Int.toNat 0)).toNat % tp o : Nat) : Int) ∧ I64 (((D ((seed (Int.toNat 0)).toNat % tp o) : Nat) : Int) - ((Int.toNat 1 : Nat) : Int)) := ⟨n0, ho, hr3, hr4⟩
  have k1 := kw_near hr hD2
  have k2 : ¬ kwP o D (BitVec.ofInt 32 0) (((seed (Int.toNat 0)).toNat % tp o : Nat) : Int) (((D ((seed (Int.toNat 0)).toNat % tp o) : Nat) : Int) - ((Int.toNat 1 : Nat) : Int)) := kw_low
  have k3 : ¬ kwP o D (BitVec.ofInt 32 1) (((seed (Int.toNat 0)).toNat % tp o : Nat) : Int) ((D ((seed (Int.toNat 0)).toNat % tp o) : Nat) : Int) := kw_used
  obtain ⟨g⟩ := g
  rcases g with _ | _
  · have h : ¬ kwP o D q i j := fun e => by cases hJ.2 e
    repeat ((conv => whnf); first | refine sdO ?_ | refine nlO ?_ | refine goA ?_ | refine goB ?_ | (apply Exists.intro; (repeat apply Exists.intro); refine caO ?_) | (refine Or.inl ?_; (conv => whnf); (repeat apply Exists.intro); refine caO ?_) | (refine Or.inr ?_; (conv => whnf); first | ((repeat apply Exists.intro); refine caO ?_) | (refine Or.inl ?_; (conv => whnf); (repeat apply Exists.intro); refine caO ?_) | (refine Or.inr ?_; (conv => whnf); (repeat apply Exists.intro); refine caO ?_)) | refine And.intro (by assumption) ?_ | refine goT ?_ | refine goF ?_ | refine goL ?_ | refine goR ?_ | refine goRL ?_ | refine goRR ?_)
    all_goals try (conv => whnf)
    exact rfl
  · have h : kwP o D q i j := hJ.1 rfl
    repeat ((conv => whnf); first | refine sdO ?_ | refine nlO ?_ | refine goA ?_ | refine goB ?_ | (apply Exists.intro; (repeat apply Exists.intro); refine caO ?_) | (refine Or.inl ?_; (conv => whnf); (repeat apply Exists.intro); refine caO ?_) | (refine Or.inr ?_; (conv => whnf); first | ((repeat apply Exists.intro); refine caO ?_) | (refine Or.inl ?_; (conv => whnf); (repeat apply Exists.intro); refine caO ?_) | (refine Or.inr ?_; (conv => whnf); (repeat apply Exists.intro); refine caO ?_)) | refine And.intro (by assumption) ?_ | refine goT ?_ | refine goF ?_ | refine goL ?_ | refine goR ?_ | refine goRL ?_ | refine goRR ?_)
    all_goals try (conv => whnf)
    exact rfl
end Go.Proofs.YtnfebaialdfffaaDoor
