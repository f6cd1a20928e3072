/- lms: signers that have noted nothing; LmsForces. -/
import Derived.Test.YtnfebaialdfffaaDoorQL
import Derived.Test.YtnfebaialdfffaaDoorQI
namespace Go.Proofs.YtnfebaialdfffaaDoor
open Go.RowKit
set_option maxRecDepth 100000
set_option maxHeartbeats 20000000
attribute [local irreducible] hsh rst sha256 press dig valN mash fold digs ch tw tp tlS cf ckN dgT pubE upTo sgV sigB mashD clE mixA clK pubK st1 at8 hgN w4 sib sgS gr2 rtEq pubS clM ndT
abbrev TRec : Ty := ty 72
/-- The map has no entries. -/
abbrev mpZ : AV := .fmp false (.int .u32) TRec 0 (fun _ => .junk) (fun _ => true)
abbrev snZ (a b : BitVec 32) (id seed : Nat → BitVec 8) (n : Nat) (nd : Nat → Nat → BitVec 8) : AV := .ipt TSn (.agg false 4 (nth .junk [keA a b id, arr8 32 seed, dgs n nd, mpZ]))
def C_Clone_n : SpecP := fun A K => A [.nils] ∧ K .nils
theorem g_Clone_n : Gd 23 (pureP ty C_Clone_n) := by
  refine goodP (E := PG []) (pgOK trivial) mixes Tryd.func23 (by kernel_rfl) (by kernel_rfl) ?_
  rintro A K ⟨hA, hK⟩
  refine ⟨_, _, fun _ => none, hA, hK, by kernel_rfl, trivial, ?_⟩
  repeat ((conv => whnf); first | refine sdO ?_ | refine nlO ?_ | refine goA ?_ | refine goB ?_ | (apply Exists.intro; (repeat apply Exists.intro); refine caO ?_) | (refine Or.inl ?_; (conv => whnf); (repeat apply Exists.intro); refine caO ?_) | (refine Or.inr ?_; (conv => whnf); first | ((repeat apply Exists.intro); refine caO ?_) | (refine Or.inl ?_; (conv => whnf); (repeat apply Exists.intro); refine caO ?_) | (refine Or.inr ?_; (conv => whnf); (repeat apply Exists.intro); refine caO ?_)) | refine And.intro (by assumption) ?_ | refine goT ?_ | refine goF ?_ | refine goL ?_ | refine goR ?_ | refine goRL ?_ | refine goRR ?_)
  all_goals try (conv => whnf)
  ((repeat' ((conv => whnf) <;> first | exact trivial | (with_reducible first | refine And.intro ?_ ?_ | refine rows_lt1 ?_ | refine rows_lt2 ?_ ?_ | refine rows_lt3 ?_ ?_ ?_ | refine rows_lt4 ?_ ?_ ?_ ?_ | refine rows_lt5 ?_ ?_ ?_ ?_ ?_ | refine aggs_lt1 ?_ | refine aggs_lt2 ?_ ?_ | refine aggs_lt3 ?_ ?_ ?_ | refine fun (_ : Nat) => ?_) | refine fun (_ : (_ : Nat) < _) => ?_ | exact rfl | exact Nat.le_of_ble_eq_true rfl | (change (_ : Nat) ≤ _; omega) | (change (_ : Nat) = _; omega) | (change (_ : Int) = _; omega))); (all_goals try (conv => whnf)))
def C_sn_LastZ : SpecP := fun A K => ∃ a b id seed n nd q, A [snZ a b id seed n nd, .u32 q] ∧ 0 < n ∧ K (tupOf [.nils, arr8 32 fun _ => 0])
theorem g_sn_LastZ : Gd 15 (pureP ty C_sn_LastZ) := by
  refine goodP (E := PG [(22, pureP ty C_sn_missing), (23, pureP ty C_Clone_n)]) (pgOK ⟨g_sn_missing, g_Clone_n, trivial⟩) mixes Tryd.func15 (by kernel_rfl) (by kernel_rfl) ?_
  rintro A K ⟨a, b, id, seed, n, nd, q, hA, hn, hK⟩
  refine ⟨_, _, fun _ => none, hA, hK, by kernel_rfl, own_res trivial (fun _ _ => trivial), ?_⟩
  repeat ((conv => whnf); first | refine sdO ?_ | refine nlO ?_ | refine goA ?_ | refine goB ?_ | (apply Exists.intro; (repeat apply Exists.intro); refine caO ?_) | (refine Or.inl ?_; (conv => whnf); (repeat apply Exists.intro); refine caO ?_) | (refine Or.inr ?_; (conv => whnf); first | ((repeat apply Exists.intro); refine caO ?_) | (refine Or.inl ?_; (conv => whnf); (repeat apply Exists.intro); refine caO ?_) | (refine Or.inr ?_; (conv => whnf); (repeat apply Exists.intro); refine caO ?_)) | refine And.intro (by assumption) ?_ | refine goT ?_ | refine goF ?_ | refine goL ?_ | refine goR ?_ | refine goRL ?_ | refine goRR ?_)
  all_goals try (conv => whnf)
  refine Found.miss (fun i hi => absurd hi (Nat.not_lt_zero i)) ?_
  repeat ((conv => whnf); first | refine sdO ?_ | refine nlO ?_ | refine goA ?_ | refine goB ?_ | (apply Exists.intro; (repeat apply Exists.intro); refine caO ?_) | (refine Or.inl ?_; (conv => whnf); (repeat apply Exists.intro); refine caO ?_) | (refine Or.inr ?_; (conv => whnf); first | ((repeat apply Exists.intro); refine caO ?_) | (refine Or.inl ?_; (conv => whnf); (repeat apply Exists.intro); refine caO ?_) | (refine Or.inr ?_; (conv => whnf); (repeat apply Exists.intro); refine caO ?_)) | refine And.intro (by assumption) ?_ | refine goT ?_ | refine goF ?_ | refine goL ?_ | refine goR ?_ | refine goRL ?_ | refine goRR ?_)
  all_goals try (conv => whnf)
  ((repeat' ((conv => whnf) <;> first | exact trivial | (with_reducible first | refine And.intro ?_ ?_ | refine rows_lt1 ?_ | refine rows_lt2 ?_ ?_ | refine rows_lt3 ?_ ?_ ?_ | refine rows_lt4 ?_ ?_ ?_ ?_ | refine rows_lt5 ?_ ?_ ?_ ?_ ?_ | refine aggs_lt1 ?_ | refine aggs_lt2 ?_ ?_ | refine aggs_lt3 ?_ ?_ ?_ | refine fun (_ : Nat) => ?_) | refine fun (_ : (_ : Nat) < _) => ?_ | exact rfl | exact Nat.le_of_ble_eq_true rfl | (change (_ : Nat) ≤ _; omega) | (change (_ : Nat) = _; omega) | (change (_ : Int) = _; omega))); (all_goals try (conv => whnf)))
structure GmZ where
  s : Nat → Bool
  l : Nat
  c : Option Nat
def L_SignedZ : LI := ⟨GmZ, fun _ => True, fun _ => [(13, .mit 2088)], fun g => [(2088, .ob (.mi (.int .u32) TRec 0 (fun _ => .junk) (fun _ => true) g.s g.l g.c))], fun g => g.l, some, some⟩
def C_sn_SignedZ : SpecP := fun A K => ∃ a b id seed n nd l m, A [snZ a b id seed n nd, bsl l m] ∧ 0 < n ∧ K (.bo false)
theorem g_sn_SignedZ : Gd 18 (pureP ty C_sn_SignedZ) := by
  refine goodP (E := PG [(22, pureP ty C_sn_missing), (39, pureP ty C_bytes_Equal)]) (pgOK ⟨g_sn_missing, g_bytes_Equal, trivial⟩) mixes Tryd.func18 (by kernel_rfl) (by kernel_rfl) ?_
  rintro A K ⟨a, b, id, seed, n, nd, l, m, hA, hn, hK⟩
  refine ⟨_, _, loops [(4, L_SignedZ)], hA, hK, by kernel_rfl, trivial, ?_⟩
  repeat ((conv => whnf); first | refine sdO ?_ | refine nlO ?_ | refine goA ?_ | refine goB ?_ | (apply Exists.intro; (repeat apply Exists.intro); refine caO ?_) | (refine Or.inl ?_; (conv => whnf); (repeat apply Exists.intro); refine caO ?_) | (refine Or.inr ?_; (conv => whnf); first | ((repeat apply Exists.intro); refine caO ?_) | (refine Or.inl ?_; (conv => whnf); (repeat apply Exists.intro); refine caO ?_) | (refine Or.inr ?_; (conv => whnf); (repeat apply Exists.intro); refine caO ?_)) | refine And.intro (by assumption) ?_ | refine goT ?_ | refine goF ?_ | refine goL ?_ | refine goR ?_ | refine goRL ?_ | refine goRR ?_)
  all_goals try (conv => whnf)
  refine Exists.intro (fun _ => True) (And.intro (Enter.mk (⟨fun _ => false, 0, none⟩ : GmZ) trivial trivial ?_) (fun (g : GmZ) _ _ => ?_))
  · ((repeat' ((conv => whnf) <;> first | exact trivial | (with_reducible first | refine And.intro ?_ ?_ | refine rows_lt1 ?_ | refine rows_lt2 ?_ ?_ | refine rows_lt3 ?_ ?_ ?_ | refine rows_lt4 ?_ ?_ ?_ ?_ | refine rows_lt5 ?_ ?_ ?_ ?_ ?_ | refine aggs_lt1 ?_ | refine aggs_lt2 ?_ ?_ | refine aggs_lt3 ?_ ?_ ?_ | refine fun (_ : Nat) => ?_) | refine fun (_ : (_ : Nat) < _) => ?_ | exact rfl | exact Nat.le_of_ble_eq_true rfl | (change (_ : Nat) ≤ _; omega) | (change (_ : Nat) = _; omega) | (change (_ : Int) = _; omega))); (all_goals try (conv => whnf)))
  repeat ((conv => whnf); first | refine sdO ?_ | refine nlO ?_ | refine goA ?_ | refine goB ?_ | (apply Exists.intro; (repeat apply Exists.intro); refine caO ?_) | (refine Or.inl ?_; (conv => whnf); (repeat apply Exists.intro); refine caO ?_) | (refine Or.inr ?_; (conv => whnf); first | ((repeat apply Exists.intro); refine caO ?_) | (refine Or.inl ?_; (conv => whnf); (repeat apply Exists.intro); refine caO ?_) | (refine Or.inr ?_; (conv => whnf); (repeat apply Exists.intro); refine caO ?_)) | refine And.intro (by assumption) ?_ | refine goT ?_ | refine goF ?_ | refine goL ?_ | refine goR ?_ | refine goRL ?_ | refine goRR ?_)
  all_goals try (conv => whnf)
  refine fun _ => ?_
  repeat ((conv => whnf); first | refine sdO ?_ | refine nlO ?_ | refine goA ?_ | refine goB ?_ | (apply Exists.intro; (repeat apply Exists.intro); refine caO ?_) | (refine Or.inl ?_; (conv => whnf); (repeat apply Exists.intro); refine caO ?_) | (refine Or.inr ?_; (conv => whnf); first | ((repeat apply Exists.intro); refine caO ?_) | (refine Or.inl ?_; (conv => whnf); (repeat apply Exists.intro); refine caO ?_) | (refine Or.inr ?_; (conv => whnf); (repeat apply Exists.intro); refine caO ?_)) | refine And.intro (by assumption) ?_ | refine goT ?_ | refine goF ?_ | refine goL ?_ | refine goR ?_ | refine goRL ?_ | refine goRR ?_)
  all_goals try (conv => whnf)
  ((repeat' ((conv => whnf) <;> first | exact trivial | (with_reducible first | refine And.intro ?_ ?_ | refine rows_lt1 ?_ | refine rows_lt2 ?_ ?_ | refine rows_lt3 ?_ ?_ ?_ | refine rows_lt4 ?_ ?_ ?_ ?_ | refine rows_lt5 ?_ ?_ ?_ ?_ ?_ | refine aggs_lt1 ?_ | refine aggs_lt2 ?_ ?_ | refine aggs_lt3 ?_ ?_ ?_ | refine fun (_ : Nat) => ?_) | refine fun (_ : (_ : Nat) < _) => ?_ | exact rfl | exact Nat.le_of_ble_eq_true rfl | (change (_ : Nat) ≤ _; omega) | (change (_ : Nat) = _; omega) | (change (_ : Int) = _; omega))); (all_goals try (conv => whnf)))
def C_sn_KnowsZ : SpecP := fun A K => ∃ a b id seed n nd q j, A [snZ a b id seed n nd, .agg false 3 (nth .junk [.u32 q, .nat 0, .nat j])] ∧ 0 < n ∧ K (.bo false)
theorem g_sn_KnowsZ : Gd 12 (pureP ty C_sn_KnowsZ) := by
  refine goodP (E := PG [(22, pureP ty C_sn_missing)]) (pgOK ⟨g_sn_missing, trivial⟩) mixes Tryd.func12 (by kernel_rfl) (by kernel_rfl) ?_
  rintro A K ⟨a, b, id, seed, n, nd, q, j, hA, hn, hK⟩
  refine ⟨_, _, fun _ => none, hA, hK, by kernel_rfl, trivial, ?_⟩
  repeat ((conv => whnf); first | refine sdO ?_ | refine nlO ?_ | refine goA ?_ | refine goB ?_ | (apply Exists.intro; (repeat apply Exists.intro); refine caO ?_) | (refine Or.inl ?_; (conv => whnf); (repeat apply Exists.intro); refine caO ?_) | (refine Or.inr ?_; (conv => whnf); first | ((repeat apply Exists.intro); refine caO ?_) | (refine Or.inl ?_; (conv => whnf); (repeat apply Exists.intro); refine caO ?_) | (refine Or.inr ?_; (conv => whnf); (repeat apply Exists.intro); refine caO ?_)) | refine And.intro (by assumption) ?_ | refine goT ?_ | refine goF ?_ | refine goL ?_ | refine goR ?_ | refine goRL ?_ | refine goRR ?_)
  all_goals try (conv => whnf)
  refine Found.miss (fun i hi => absurd hi (Nat.not_lt_zero i)) ?_
  repeat ((conv => whnf); first | refine sdO ?_ | refine nlO ?_ | refine goA ?_ | refine goB ?_ | (apply Exists.intro; (repeat apply Exists.intro); refine caO ?_) | (refine Or.inl ?_; (conv => whnf); (repeat apply Exists.intro); refine caO ?_) | (refine Or.inr ?_; (conv => whnf); first | ((repeat apply Exists.intro); refine caO ?_) | (refine Or.inl ?_; (conv => whnf); (repeat apply Exists.intro); refine caO ?_) | (refine Or.inr ?_; (conv => whnf); (repeat apply Exists.intro); refine caO ?_)) | refine And.intro (by assumption) ?_ | refine goT ?_ | refine goF ?_ | refine goL ?_ | refine goR ?_ | refine goRL ?_ | refine goRR ?_)
  all_goals try (conv => whnf)
  ((repeat' ((conv => whnf) <;> first | exact trivial | (with_reducible first | refine And.intro ?_ ?_ | refine rows_lt1 ?_ | refine rows_lt2 ?_ ?_ | refine rows_lt3 ?_ ?_ ?_ | refine rows_lt4 ?_ ?_ ?_ ?_ | refine rows_lt5 ?_ ?_ ?_ ?_ ?_ | refine aggs_lt1 ?_ | refine aggs_lt2 ?_ ?_ | refine aggs_lt3 ?_ ?_ ?_ | refine fun (_ : Nat) => ?_) | refine fun (_ : (_ : Nat) < _) => ?_ | exact rfl | exact Nat.le_of_ble_eq_true rfl | (change (_ : Nat) ≤ _; omega) | (change (_ : Nat) = _; omega) | (change (_ : Int) = _; omega))); (all_goals try (conv => whnf)))
def C_sn_PathN : SpecP := fun A K => ∃ a b id seed n nd q, A [snI a b id seed n nd, .u32 q] ∧ (0 < n ∧ hgOK a ∧ ¬ q < 1#32 <<< hgN a) ∧ K .nils
theorem g_sn_PathN : Gd 14 (pureP ty C_sn_PathN) := by
  refine goodP (E := PG [(34, pureP ty C_sn_has), (35, pureP ty C_lms_HeightV), (36, pureP ty C_lms_leaves)]) (pgOK ⟨g_sn_has, g_lms_HeightV, g_lms_leaves, trivial⟩) mixes Tryd.func14 (by kernel_rfl) (by kernel_rfl) ?_
  rintro A K ⟨a, b, id, seed, n, nd, q, hA, ⟨hn, ha, hq⟩, hK⟩
  have hc : 0 < n ∧ hgOK a := ⟨hn, ha⟩
  refine ⟨_, _, fun _ => none, hA, hK, by kernel_rfl, trivial, ?_⟩
  repeat ((conv => whnf); first | refine sdO ?_ | refine nlO ?_ | refine goA ?_ | refine goB ?_ | (apply Exists.intro; (repeat apply Exists.intro); refine caO ?_) | (refine Or.inl ?_; (conv => whnf); (repeat apply Exists.intro); refine caO ?_) | (refine Or.inr ?_; (conv => whnf); first | ((repeat apply Exists.intro); refine caO ?_) | (refine Or.inl ?_; (conv => whnf); (repeat apply Exists.intro); refine caO ?_) | (refine Or.inr ?_; (conv => whnf); (repeat apply Exists.intro); refine caO ?_)) | refine And.intro (by assumption) ?_ | refine goT ?_ | refine goF ?_ | refine goL ?_ | refine goR ?_ | refine goRL ?_ | refine goRR ?_)
  all_goals try (conv => whnf)
  ((repeat' ((conv => whnf) <;> first | exact trivial | (with_reducible first | refine And.intro ?_ ?_ | refine rows_lt1 ?_ | refine rows_lt2 ?_ ?_ | refine rows_lt3 ?_ ?_ ?_ | refine rows_lt4 ?_ ?_ ?_ ?_ | refine rows_lt5 ?_ ?_ ?_ ?_ ?_ | refine aggs_lt1 ?_ | refine aggs_lt2 ?_ ?_ | refine aggs_lt3 ?_ ?_ ?_ | refine fun (_ : Nat) => ?_) | refine fun (_ : (_ : Nat) < _) => ?_ | exact rfl | exact Nat.le_of_ble_eq_true rfl | (change (_ : Nat) ≤ _; omega) | (change (_ : Nat) = _; omega) | (change (_ : Int) = _; omega))); (all_goals try (conv => whnf)))
attribute [local irreducible] lyK lyA lyO refR
abbrev TPar : Ty := ty 50
abbrev sgF (h t : BitVec 8) (id seed c : Nat → BitVec 8) (l : Nat) (m : Nat → BitVec 8) (q : BitVec 32) : Nat → BitVec 8 := sgS (lyA h) (lyO t) id seed (gr2 (lyO t) id seed (hgN (lyA h)) 0) q c (min l 60) m
abbrev lnF (h t : BitVec 8) : Nat := 44 + 32 * tp (lyO t) + 32 * hgN (lyA h)
def L_Fl (h t : BitVec 8) (id seed c : Nat → BitVec 8) (l : Nat) (m : Nat → BitVec 8) : LI := ⟨BitVec 32 × Nat, fun p => p.2 ≤ hgN (lyA h),
  fun p => [(5, .gsl 5 3088 (min l 60)), (15, .ptr TSn 2088 []), (19, .gsl 5 3121 (lnF h t)), (21, dgsf (hgN (lyA h)) fun i => gr2 (lyO t) id seed (hgN (lyA h)) 0 (sib (lyA h) p.1 i)), (24, .ptr TPar 8249 []), (131, .nat (hgN (lyA h))), (132, .nat p.2)],
  fun p => [(2088, snR (lyA h) (lyO t) id seed (.gsl 23 2089 (2 * 2 ^ hgN (lyA h))) (.cmt 2090)), (2089, .grow 23 (2 * 2 ^ hgN (lyA h)) (dgA (gr2 (lyO t) id seed (hgN (lyA h)) 0))), (2090, .ob (.cnt 0)), (3088, .grow 5 (min l 60) (bys m)), (3121, .grow 5 (lnF h t) (bys (sgF h t id seed c l m p.1))),
    (8217, .grow 23 (hgN (trT (sgF h t id seed c l m p.1))) (fun i => arr8 32 (paP (sgF h t id seed c l m p.1) i))),
    (8249, .var TPar (sgA (lfQ (sgF h t id seed c l m p.1)) (trT (sgF h t id seed c l m p.1)) (.gsub 5 3121 (lnF h t) 4 (36 + 32 * tp (sgT (sgF h t id seed c l m p.1)))) (.gsl 23 8217 (hgN (trT (sgF h t id seed c l m p.1))))))], fun p => hgN (lyA h) - p.2, some, some⟩
theorem pa_sgF {h t : BitVec 8} {id seed c : Nat → BitVec 8} {l : Nat} {m : Nat → BitVec 8} {q : BitVec 32} {i j : Nat} (hj : j < 32) : paP (sgF h t id seed c l m q) i j = gr2 (lyO t) id seed (hgN (lyA h)) 0 (sib (lyA h) q i) j := by
  show sgF h t id seed c l m q (4 + (36 + 32 * tp (sgT (sgF h t id seed c l m q)) + (4 + (32 * i + j)))) = _
  rw [show sgT (sgF h t id seed c l m q) = lyO t from sgS_t]
  exact sgS_pa hj
def C_sn_PathX : SpecP := fun A K => ∃ a b id seed n nd q, A [snI a b id seed n nd, .u32 q] ∧ (n = 2 * 2 ^ hgN a ∧ hgOK a) ∧ ((q < 1#32 <<< hgN a ∧ K (dgsf (hgN a) fun i => nd (sib a q i))) ∨ (¬ q < 1#32 <<< hgN a ∧ K .nils))
theorem g_sn_PathX : Gd 14 (pureP ty C_sn_PathX) := good_orQ g_sn_PathP g_sn_PathN fun args m key K ⟨a, b, id, seed, n, nd, q, hA, ⟨hn, ha⟩, h⟩ => by
  rcases h with ⟨hq, hK⟩ | ⟨hq, hK⟩
  · exact Or.inl ⟨a, b, id, seed, n, nd, q, hA, ⟨hn, ha, hq⟩, hK⟩
  · have : 0 < 2 ^ hgN a := Nat.pow_pos (by decide)
    exact Or.inr ⟨a, b, id, seed, n, nd, q, hA, ⟨by omega, ha, hq⟩, hK⟩
def C_l6_LmsForces : SpecP := fun A K => ∃ h t id seed c l m q, A [.u8 h, .u8 t, arr8 16 id, arr8 32 seed, arr8 32 c, bsl l m, .u32 q] ∧ l ≤ maxLen ∧ K (.bo true)
abbrev TDig : Ty := ty 23
def L_Forces (h t : BitVec 8) (id seed c : Nat → BitVec 8) (l : Nat) (m : Nat → BitVec 8) : LI := ⟨BitVec 32, fun _ => True,
  fun q => [(5, .gsl 5 3088 (min l 60)), (6, .u32 q), (11, .ptr TDig 24 []), (15, .ptr TSn 2088 []), (16, .nat (lyK h)), (18, .u32 (1#32 <<< lyK h))],
  fun _ => [(24, .var TDig (arr8 32 c)), (2088, snR (lyA h) (lyO t) id seed (.gsl 23 2089 (2 * 2 ^ hgN (lyA h))) (.cmt 2090)), (2089, .grow 23 (2 * 2 ^ hgN (lyA h)) (dgA (gr2 (lyO t) id seed (hgN (lyA h)) 0))), (2090, .ob (.cnt 0)), (3088, .grow 5 (min l 60) (bys m))], fun _ => 0, some, some⟩
theorem g_l6_LmsForces : Gd 4 (pureP ty C_l6_LmsForces) := by
  refine goodP (E := PG [(5, pureP ty C_l6_awake), (6, pureR ty C_l6_lay), (7, pureR ty C_r1_Cut), (13, pureR ty C_sn_Force), (14, pureP ty C_sn_PathX), (15, pureP ty C_sn_LastZ), (16, mutD ty [true] C_r6_PartsX), (17, mutD ty [true] C_sn_Left), (18, pureP ty C_sn_SignedZ), (12, pureP ty C_sn_KnowsZ), (20, pureR ty C_sn_Public), (19, pureP ty C_lms_VerifyO)]) (pgOK ⟨g_l6_awake, g_l6_lay, g_r1_Cut, g_sn_Force, g_sn_PathX, g_sn_LastZ, g_r6_PartsX, g_sn_Left, g_sn_SignedZ, g_sn_KnowsZ, g_sn_Public, g_lms_VerifyO, trivial⟩) mixes Tryd.func4 (by kernel_rfl) (by kernel_rfl) ?_
  rintro A K ⟨h, t, id, seed, c, l0, m, q0, hA, hm, hK⟩
  obtain ⟨hg, hH⟩ := lyA_H h
  have ho := lyO_ok t
  have k2 := lyK_cases h
  have p0 : 0 < 2 ^ lyK h := Nat.pow_pos (by decide)
  have n0 : 0 < 2 * 2 ^ hgN (lyA h) := by have : 0 < 2 ^ hgN (lyA h) := Nat.pow_pos (by decide); omega
  have n2 : 2 ≤ 2 * 2 ^ hgN (lyA h) := by omega
  have hl : min l0 60 ≤ 1000000000 := by omega
  have hc : 2 * 2 ^ hgN (lyA h) = 2 * 2 ^ hgN (lyA h) ∧ hgOK (lyA h) ∧ otOK (lyO t) ∧ min l0 60 ≤ 1000000000 := ⟨rfl, hg, ho, hl⟩
  have hd : 0 < 2 * 2 ^ hgN (lyA h) ∧ hgOK (lyA h) := ⟨n0, hg⟩
  have hx : 2 * 2 ^ hgN (lyA h) = 2 * 2 ^ hgN (lyA h) ∧ hgOK (lyA h) := ⟨rfl, hg⟩
  have z1 : BitVec.ofInt 32 1 <<< lyK h ≠ 0 := by rcases k2 with e | e <;> rw [e] <;> decide
  refine ⟨_, _, loops [(100008, L_Forces h t id seed c l0 m), (19, L_Fl h t id seed c l0 m)], hA, hK, by kernel_rfl, trivial, ?_⟩
  repeat ((conv => whnf); first | refine sdO ?_ | refine nlO ?_ | refine goA ?_ | refine goB ?_ | (apply Exists.intro; (repeat apply Exists.intro); refine caO ?_) | (refine Or.inl ?_; (conv => whnf); (repeat apply Exists.intro); refine caO ?_) | (refine Or.inr ?_; (conv => whnf); first | ((repeat apply Exists.intro); refine caO ?_) | (refine Or.inl ?_; (conv => whnf); (repeat apply Exists.intro); refine caO ?_) | (refine Or.inr ?_; (conv => whnf); (repeat apply Exists.intro); refine caO ?_)) | refine And.intro (by assumption) ?_ | refine goT ?_ | refine goF ?_ | refine goL ?_ | refine goR ?_ | refine goRL ?_ | refine goRR ?_)
  all_goals try (conv => whnf)
  refine Exists.intro (fun _ => True) (And.intro ?_ (fun (q : BitVec 32) _ _ => ?_))
  · rcases Decidable.em (seed (Int.toNat 1) % BitVec.ofInt 8 2 = BitVec.ofInt 8 0) with e | e
    · skip
      repeat ((conv => whnf); first | refine sdO ?_ | refine nlO ?_ | refine goA ?_ | refine goB ?_ | (apply Exists.intro; (repeat apply Exists.intro); refine caO ?_) | (refine Or.inl ?_; (conv => whnf); (repeat apply Exists.intro); refine caO ?_) | (refine Or.inr ?_; (conv => whnf); first | ((repeat apply Exists.intro); refine caO ?_) | (refine Or.inl ?_; (conv => whnf); (repeat apply Exists.intro); refine caO ?_) | (refine Or.inr ?_; (conv => whnf); (repeat apply Exists.intro); refine caO ?_)) | refine And.intro (by assumption) ?_ | refine goT ?_ | refine goF ?_ | refine goL ?_ | refine goR ?_ | refine goRL ?_ | refine goRR ?_)
      all_goals try (conv => whnf)
      refine Enter.mk (q0 % (BitVec.ofInt 32 1 <<< lyK h)) trivial trivial ?_
      ((repeat' ((conv => whnf) <;> first | exact trivial | (with_reducible first | refine And.intro ?_ ?_ | refine rows_lt1 ?_ | refine rows_lt2 ?_ ?_ | refine rows_lt3 ?_ ?_ ?_ | refine rows_lt4 ?_ ?_ ?_ ?_ | refine rows_lt5 ?_ ?_ ?_ ?_ ?_ | refine aggs_lt1 ?_ | refine aggs_lt2 ?_ ?_ | refine aggs_lt3 ?_ ?_ ?_ | refine fun (_ : Nat) => ?_) | refine fun (_ : (_ : Nat) < _) => ?_ | exact rfl | exact Nat.le_of_ble_eq_true rfl | (change (_ : Nat) ≤ _; omega) | (change (_ : Nat) = _; omega) | (change (_ : Int) = _; omega))); (all_goals try (conv => whnf)))
    · skip
      repeat ((conv => whnf); first | refine sdO ?_ | refine nlO ?_ | refine goA ?_ | refine goB ?_ | (apply Exists.intro; (repeat apply Exists.intro); refine caO ?_) | (refine Or.inl ?_; (conv => whnf); (repeat apply Exists.intro); refine caO ?_) | (refine Or.inr ?_; (conv => whnf); first | ((repeat apply Exists.intro); refine caO ?_) | (refine Or.inl ?_; (conv => whnf); (repeat apply Exists.intro); refine caO ?_) | (refine Or.inr ?_; (conv => whnf); (repeat apply Exists.intro); refine caO ?_)) | refine And.intro (by assumption) ?_ | refine goT ?_ | refine goF ?_ | refine goL ?_ | refine goR ?_ | refine goRL ?_ | refine goRR ?_)
      all_goals try (conv => whnf)
      refine Enter.mk q0 trivial trivial ?_
      ((repeat' ((conv => whnf) <;> first | exact trivial | (with_reducible first | refine And.intro ?_ ?_ | refine rows_lt1 ?_ | refine rows_lt2 ?_ ?_ | refine rows_lt3 ?_ ?_ ?_ | refine rows_lt4 ?_ ?_ ?_ ?_ | refine rows_lt5 ?_ ?_ ?_ ?_ ?_ | refine aggs_lt1 ?_ | refine aggs_lt2 ?_ ?_ | refine aggs_lt3 ?_ ?_ ?_ | refine fun (_ : Nat) => ?_) | refine fun (_ : (_ : Nat) < _) => ?_ | exact rfl | exact Nat.le_of_ble_eq_true rfl | (change (_ : Nat) ≤ _; omega) | (change (_ : Nat) = _; omega) | (change (_ : Int) = _; omega))); (all_goals try (conv => whnf)))
  have ln : (1#32 <<< lyK h).toNat = 2 ^ lyK h := by rw [← hH]; exact lf_nat hg
  rcases Decidable.em (q < 1#32 <<< hgN (lyA h)) with hq | hq
  · have hqk : ¬ (1#32 <<< lyK h ≤ q) := by rw [← hH]; exact BitVec.not_le.2 hq
    have htp := tp_le' ho
    have hL : 44 + 32 * tp (lyO t) + 32 * hgN (lyA h) ≤ 100000 := by omega
    have s0 : paE (44 + 32 * tp (lyO t) + 32 * hgN (lyA h)) (sgS (lyA h) (lyO t) id seed (gr2 (lyO t) id seed (hgN (lyA h)) 0) q c (min l0 60) m) = 0 := sgS_ok hg ho hq
    have s1 : lfQ (sgS (lyA h) (lyO t) id seed (gr2 (lyO t) id seed (hgN (lyA h)) 0) q c (min l0 60) m) = q := sgS_q
    have s2 : ((2 ^ hgN (lyA h) : Nat) : Int) - ((0 : Nat) : Int) = ((1#32 <<< lyK h).toNat : Int) := by rw [ln, hH]; omega
    have s3 : 0 < 2 * 2 ^ hgN (lyA h) ∧ hgOK (lyA h) ∧ 0 ≤ 2 ^ hgN (lyA h) := ⟨n0, hg, Nat.zero_le _⟩
    have s4 : hgOK (lyA h) ∧ otOK (lyO t) ∧ q < 1#32 <<< hgN (lyA h) ∧ min l0 60 ≤ 1000000000 := ⟨hg, ho, hq, hl⟩
    repeat ((conv => whnf); first | refine sdO ?_ | refine nlO ?_ | refine goA ?_ | refine goB ?_ | (apply Exists.intro; (repeat apply Exists.intro); refine caO ?_) | (refine Or.inl ?_; (conv => whnf); (repeat apply Exists.intro); refine caO ?_) | (refine Or.inr ?_; (conv => whnf); first | ((repeat apply Exists.intro); refine caO ?_) | (refine Or.inl ?_; (conv => whnf); (repeat apply Exists.intro); refine caO ?_) | (refine Or.inr ?_; (conv => whnf); (repeat apply Exists.intro); refine caO ?_)) | refine And.intro (by assumption) ?_ | refine goT ?_ | refine goF ?_ | refine goL ?_ | refine goR ?_ | refine goRL ?_ | refine goRR ?_)
    all_goals try (conv => whnf)
    refine And.intro (fun g => nbQ g (eqB_agg fun j hj => rfl)) (fun _ => ?_)
    repeat ((conv => whnf); first | refine sdO ?_ | refine nlO ?_ | refine goA ?_ | refine goB ?_ | (apply Exists.intro; (repeat apply Exists.intro); refine caO ?_) | (refine Or.inl ?_; (conv => whnf); (repeat apply Exists.intro); refine caO ?_) | (refine Or.inr ?_; (conv => whnf); first | ((repeat apply Exists.intro); refine caO ?_) | (refine Or.inl ?_; (conv => whnf); (repeat apply Exists.intro); refine caO ?_) | (refine Or.inr ?_; (conv => whnf); (repeat apply Exists.intro); refine caO ?_)) | refine And.intro (by assumption) ?_ | refine goT ?_ | refine goF ?_ | refine goL ?_ | refine goR ?_ | refine goRL ?_ | refine goRR ?_)
    all_goals try (conv => whnf)
    refine Exists.intro (fun (p : BitVec 32 × Nat) => p.1 = q) (And.intro (Enter.mk ((q, 0) : BitVec 32 × Nat) (Nat.zero_le _) rfl ?_) (fun (p : BitVec 32 × Nat) (hp : p.2 ≤ hgN (lyA h)) hJ => ?_))
    · ((repeat' ((conv => whnf) <;> first | exact trivial | (with_reducible first | refine And.intro ?_ ?_ | refine rows_lt1 ?_ | refine rows_lt2 ?_ ?_ | refine rows_lt3 ?_ ?_ ?_ | refine rows_lt4 ?_ ?_ ?_ ?_ | refine rows_lt5 ?_ ?_ ?_ ?_ ?_ | refine aggs_lt1 ?_ | refine aggs_lt2 ?_ ?_ | refine aggs_lt3 ?_ ?_ ?_ | refine fun (_ : Nat) => ?_) | refine fun (_ : (_ : Nat) < _) => ?_ | exact rfl | exact Nat.le_of_ble_eq_true rfl | (change (_ : Nat) ≤ _; omega) | (change (_ : Nat) = _; omega) | (change (_ : Int) = _; omega))); (all_goals try (conv => whnf)))
    obtain ⟨q', k⟩ := p
    obtain rfl : q' = q := hJ
    have hp : k ≤ hgN (lyA h) := hp
    rcases Nat.lt_or_ge k (hgN (lyA h)) with hk | hk
    · have hk2 : k < hgN (trT (sgF h t id seed c l0 m q')) := by rw [show trT (sgF h t id seed c l0 m q') = lyA h from sgS_tr]; exact hk
      repeat ((conv => whnf); first | refine sdO ?_ | refine nlO ?_ | refine goA ?_ | refine goB ?_ | (apply Exists.intro; (repeat apply Exists.intro); refine caO ?_) | (refine Or.inl ?_; (conv => whnf); (repeat apply Exists.intro); refine caO ?_) | (refine Or.inr ?_; (conv => whnf); first | ((repeat apply Exists.intro); refine caO ?_) | (refine Or.inl ?_; (conv => whnf); (repeat apply Exists.intro); refine caO ?_) | (refine Or.inr ?_; (conv => whnf); (repeat apply Exists.intro); refine caO ?_)) | refine And.intro (by assumption) ?_ | refine goT ?_ | refine goF ?_ | refine goL ?_ | refine goR ?_ | refine goRL ?_ | refine goRR ?_)
      all_goals try (conv => whnf)
      refine And.intro (fun g => nbQ g (eqB_agg fun j hj => (pa_sgF hj).symm)) (fun _ => ?_)
      repeat ((conv => whnf); first | refine sdO ?_ | refine nlO ?_ | refine goA ?_ | refine goB ?_ | (apply Exists.intro; (repeat apply Exists.intro); refine caO ?_) | (refine Or.inl ?_; (conv => whnf); (repeat apply Exists.intro); refine caO ?_) | (refine Or.inr ?_; (conv => whnf); first | ((repeat apply Exists.intro); refine caO ?_) | (refine Or.inl ?_; (conv => whnf); (repeat apply Exists.intro); refine caO ?_) | (refine Or.inr ?_; (conv => whnf); (repeat apply Exists.intro); refine caO ?_)) | refine And.intro (by assumption) ?_ | refine goT ?_ | refine goF ?_ | refine goL ?_ | refine goR ?_ | refine goRL ?_ | refine goRR ?_)
      all_goals try (conv => whnf)
      refine Again.mk ((q', k + 1) : BitVec 32 × Nat) hk rfl (show hgN (lyA h) - (k + 1) < hgN (lyA h) - k by omega) ?_
      ((repeat' ((conv => whnf) <;> first | exact trivial | (with_reducible first | refine And.intro ?_ ?_ | refine rows_lt1 ?_ | refine rows_lt2 ?_ ?_ | refine rows_lt3 ?_ ?_ ?_ | refine rows_lt4 ?_ ?_ ?_ ?_ | refine rows_lt5 ?_ ?_ ?_ ?_ ?_ | refine aggs_lt1 ?_ | refine aggs_lt2 ?_ ?_ | refine aggs_lt3 ?_ ?_ ?_ | refine fun (_ : Nat) => ?_) | refine fun (_ : (_ : Nat) < _) => ?_ | exact rfl | exact Nat.le_of_ble_eq_true rfl | (change (_ : Nat) ≤ _; omega) | (change (_ : Nat) = _; omega) | (change (_ : Int) = _; omega))); (all_goals try (conv => whnf)))
    · obtain rfl : k = hgN (lyA h) := by omega
      repeat ((conv => whnf); first | refine sdO ?_ | refine nlO ?_ | refine goA ?_ | refine goB ?_ | (apply Exists.intro; (repeat apply Exists.intro); refine caO ?_) | (refine Or.inl ?_; (conv => whnf); (repeat apply Exists.intro); refine caO ?_) | (refine Or.inr ?_; (conv => whnf); first | ((repeat apply Exists.intro); refine caO ?_) | (refine Or.inl ?_; (conv => whnf); (repeat apply Exists.intro); refine caO ?_) | (refine Or.inr ?_; (conv => whnf); (repeat apply Exists.intro); refine caO ?_)) | refine And.intro (by assumption) ?_ | refine goT ?_ | refine goF ?_ | refine goL ?_ | refine goR ?_ | refine goRL ?_ | refine goRR ?_)
      all_goals try (conv => whnf)
      ((repeat' ((conv => whnf) <;> first | exact trivial | (with_reducible first | refine And.intro ?_ ?_ | refine rows_lt1 ?_ | refine rows_lt2 ?_ ?_ | refine rows_lt3 ?_ ?_ ?_ | refine rows_lt4 ?_ ?_ ?_ ?_ | refine rows_lt5 ?_ ?_ ?_ ?_ ?_ | refine aggs_lt1 ?_ | refine aggs_lt2 ?_ ?_ | refine aggs_lt3 ?_ ?_ ?_ | refine fun (_ : Nat) => ?_) | refine fun (_ : (_ : Nat) < _) => ?_ | exact rfl | exact Nat.le_of_ble_eq_true rfl | (change (_ : Nat) ≤ _; omega) | (change (_ : Nat) = _; omega) | (change (_ : Int) = _; omega))); (all_goals try (conv => whnf)))
  · have hqk : 1#32 <<< lyK h ≤ q := by rw [← hH]; exact BitVec.not_lt.1 hq
    repeat ((conv => whnf); first | refine sdO ?_ | refine nlO ?_ | refine goA ?_ | refine goB ?_ | (apply Exists.intro; (repeat apply Exists.intro); refine caO ?_) | (refine Or.inl ?_; (conv => whnf); (repeat apply Exists.intro); refine caO ?_) | (refine Or.inr ?_; (conv => whnf); first | ((repeat apply Exists.intro); refine caO ?_) | (refine Or.inl ?_; (conv => whnf); (repeat apply Exists.intro); refine caO ?_) | (refine Or.inr ?_; (conv => whnf); (repeat apply Exists.intro); refine caO ?_)) | refine And.intro (by assumption) ?_ | refine goT ?_ | refine goF ?_ | refine goL ?_ | refine goR ?_ | refine goRL ?_ | refine goRR ?_)
    all_goals try (conv => whnf)
    refine And.intro (fun g => nbQ g (eqB_agg fun j hj => rfl)) (fun _ => ?_)
    repeat ((conv => whnf); first | refine sdO ?_ | refine nlO ?_ | refine goA ?_ | refine goB ?_ | (apply Exists.intro; (repeat apply Exists.intro); refine caO ?_) | (refine Or.inl ?_; (conv => whnf); (repeat apply Exists.intro); refine caO ?_) | (refine Or.inr ?_; (conv => whnf); first | ((repeat apply Exists.intro); refine caO ?_) | (refine Or.inl ?_; (conv => whnf); (repeat apply Exists.intro); refine caO ?_) | (refine Or.inr ?_; (conv => whnf); (repeat apply Exists.intro); refine caO ?_)) | refine And.intro (by assumption) ?_ | refine goT ?_ | refine goF ?_ | refine goL ?_ | refine goR ?_ | refine goRL ?_ | refine goRR ?_)
    all_goals try (conv => whnf)
    ((repeat' ((conv => whnf) <;> first | exact trivial | (with_reducible first | refine And.intro ?_ ?_ | refine rows_lt1 ?_ | refine rows_lt2 ?_ ?_ | refine rows_lt3 ?_ ?_ ?_ | refine rows_lt4 ?_ ?_ ?_ ?_ | refine rows_lt5 ?_ ?_ ?_ ?_ ?_ | refine aggs_lt1 ?_ | refine aggs_lt2 ?_ ?_ | refine aggs_lt3 ?_ ?_ ?_ | refine fun (_ : Nat) => ?_) | refine fun (_ : (_ : Nat) < _) => ?_ | exact rfl | exact Nat.le_of_ble_eq_true rfl | (change (_ : Nat) ≤ _; omega) | (change (_ : Nat) = _; omega) | (change (_ : Int) = _; omega))); (all_goals try (conv => whnf)))
end Go.Proofs.YtnfebaialdfffaaDoor
