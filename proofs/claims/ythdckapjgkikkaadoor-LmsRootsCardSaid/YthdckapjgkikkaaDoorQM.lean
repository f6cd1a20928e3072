/- LmsRoots. -/
import Derived.Test.YthdckapjgkikkaaDoorQL
namespace Go.Proofs.YthdckapjgkikkaaDoor
open Go.RowKit
set_option maxRecDepth 100000
set_option maxHeartbeats 20000000
attribute [local irreducible] hsh rst sha256 press dig valN mash fold digs ch tw tp tlS cf ckN dgT pubE upTo sgV sigB mashD clE mixA clK pubK st1 at8 hgN w4 sib sgS gr2 rtEq pubS clM ndT lyK lyA lyO refR
def C_l6_LmsRoots : SpecP := fun A K => ∃ h t id seed c l m q at' turn, A [.u8 h, .u8 t, arr8 16 id, arr8 32 seed, arr8 32 c, bsl l m, .u8 q, .u16 at', .u8 turn] ∧ l ≤ maxLen ∧ K (.bo true)
theorem w64_inj {x y : BitVec 32} (h : BitVec.setWidth 64 x = BitVec.setWidth 64 y) : x = y := by
  have := congrArg (BitVec.setWidth 32) h
  rwa [swQ, swQ] at this
theorem nbQ {b : Bool} {p : Prop} (h2 : (!b) = true) (h1 : b = true) : p := by rw [h1] at h2; cases h2
theorem z0q (f : Nat → BitVec 8) : lw (32 - 0) (fun x => f (0 + x)) = lw 32 f := lw_cong' fun j _ => by rw [Nat.zero_add]
section
attribute [local semireducible] refR
theorem ref_f {id : Nat → BitVec 8} {lm : Nat} {m s : Nat → BitVec 8} : refR id lm m s = clb id (lfQ s + 1#32 <<< hgN (trT s)) (lw 32 (at8 (leaf id (lfQ s + BitVec.ofInt 32 1 <<< hgN (trT s)) (lw (32 - 0) fun x => clK id (lfQ s) (wT fun j => s (4 + j)) (mashD id (lfQ s) (fun j => s (4 + (4 + j))) lm m) (splO fun j => s (4 + j)) (0 + x))))) (paP s) (hgN (trT s)) := by
  unfold refR
  rw [z0q, lw_at8 _ _ (leaf_len _ _ _)]
  rfl
end
theorem beT {x : Bool} {C : Prop} (hx : x = true) (z : (decide (0 = Int.toNat 0) == x) = false) : C := by
  rw [hx] at z
  exact absurd z (by decide)
theorem beF {x : Bool} {C : Prop} (hx : x = false) (z : (decide (5 = Int.toNat 0) == x) = false) : C := by
  rw [hx] at z
  exact absurd z (by decide)
def L_Roots (id : Nat → BitVec 8) (l : Nat) (m p : Nat → BitVec 8) (L : Nat) (turn : BitVec 8) (g : Nat → BitVec 8) : LI := ⟨Nat → BitVec 8, fun s => turn = 0 → ∀ j, s j = g j,
  fun _ => [(5, .gsl 5 3088 l), (8, .u8 turn), (11, .ptr T16 8 []), (22, .gsl 5 4176 L), (24, .gsl 5 6160 56)],
  fun s => [(8, .var T16 (arr8 16 id)), (3088, .grow 5 l (bys m)), (4176, .grow 5 L (bys s)), (6160, .grow 5 56 (bys p))], fun _ => 0, some, some⟩
theorem g_l6_LmsRoots : Gd 4 (pureP ty C_l6_LmsRoots) := by
  refine goodP (E := PG [(9, pureP ty C_l6_awake), (10, pureR ty C_l6_lay), (12, pureR ty C_r1_Cut), (11, pureR ty C_sn_Force), (17, pureR ty C_sn_Public), (18, pureP ty C_lms_RootF), (19, pureP ty C_lms_VerifyF), (15, mutD ty [true] C_r6_PartsX), (20, pureP ty C_r1_Value4L), (21, pureP ty C_ots_Claim), (23, pureP ty C_r6_Hash1), (22, pureP ty C_r6_Climb)]) (pgOK ⟨g_l6_awake, g_l6_lay, g_r1_Cut, g_sn_Force, g_sn_Public, g_lms_RootF, g_lms_VerifyF, g_r6_PartsX, g_r1_Value4L, g_ots_Claim, g_r6_Hash1, g_r6_Climb, trivial⟩) mixes Tryd.func4 (by kernel_rfl) (by kernel_rfl) ?_
  rintro A K ⟨h, t, id, seed, c, l0, m, q, at', turn, hA, hm, hK⟩
  obtain ⟨hg, hH⟩ := lyA_H h
  have ho := lyO_ok t
  have n2 : 2 ≤ 2 * 2 ^ hgN (lyA h) := by have : 0 < 2 ^ hgN (lyA h) := Nat.pow_pos (by decide); omega
  have hl : min l0 60 ≤ 1000000000 := by omega
  have hc : 2 * 2 ^ hgN (lyA h) = 2 * 2 ^ hgN (lyA h) ∧ hgOK (lyA h) ∧ otOK (lyO t) ∧ min l0 60 ≤ 1000000000 := ⟨rfl, hg, ho, hl⟩
  have k2 := lyK_cases h
  have k63 : lyK h < 63 := by omega
  have p0 : 0 < 2 ^ lyK h := Nat.pow_pos (by decide)
  have p4 : 2 ^ lyK h ≤ 4 := by rcases k2 with e | e <;> rw [e] <;> decide
  have n63 : N63 (Int.toNat 1 * 2 ^ lyK h) := by show _ ≤ _; rw [show Int.toNat 1 = 1 from rfl]; omega
  have d0 : 0 < Int.toNat 1 * 2 ^ lyK h := by rw [show Int.toNat 1 = 1 from rfl]; omega
  have d1 : ¬ Int.toNat 1 * 2 ^ lyK h = 0 := by omega
  have hqn : q.toNat % (Int.toNat 1 * 2 ^ lyK h) < 2 ^ lyK h := by have := Nat.mod_lt q.toNat d0; rw [show Int.toNat 1 = 1 from rfl, Nat.one_mul] at this ⊢; exact this
  have hq : BitVec.ofNat 32 (q.toNat % (Int.toNat 1 * 2 ^ lyK h)) < 1#32 <<< hgN (lyA h) := by
    rw [BitVec.lt_def, lf_nat hg, hH, BitVec.toNat_ofNat, Nat.mod_eq_of_lt (by omega)]
    exact hqn
  have htp := tp_le' ho
  have hL0 : 0 < 44 + 32 * tp (lyO t) + 32 * hgN (lyA h) := by omega
  have hL1 : ¬ 44 + 32 * tp (lyO t) + 32 * hgN (lyA h) = 0 := by omega
  have hi : at'.toNat % (44 + 32 * tp (lyO t) + 32 * hgN (lyA h)) < 44 + 32 * tp (lyO t) + 32 * hgN (lyA h) := Nat.mod_lt _ hL0
  refine ⟨_, _, loops [(100011, L_Roots id (min l0 60) m (pubS (lyA h) (lyO t) id (gr2 (lyO t) id seed (hgN (lyA h)) 0 1)) (44 + 32 * tp (lyO t) + 32 * hgN (lyA h)) turn (sgS (lyA h) (lyO t) id seed (gr2 (lyO t) id seed (hgN (lyA h)) 0) (BitVec.ofNat 32 (q.toNat % (Int.toNat 1 * 2 ^ lyK h))) c (min l0 60) m))], hA, hK, by kernel_rfl, trivial, ?_⟩
  repeat ((conv => whnf); first | refine sdO ?_ | refine nlO ?_ | refine goA ?_ | refine goB ?_ | (apply Exists.intro; (repeat apply Exists.intro); refine caO ?_) | (refine Or.inl ?_; (conv => whnf); (repeat apply Exists.intro); refine caO ?_) | (refine Or.inr ?_; (conv => whnf); first | ((repeat apply Exists.intro); refine caO ?_) | (refine Or.inl ?_; (conv => whnf); (repeat apply Exists.intro); refine caO ?_) | (refine Or.inr ?_; (conv => whnf); (repeat apply Exists.intro); refine caO ?_)) | refine And.intro (by assumption) ?_ | refine goT ?_ | refine goF ?_ | refine goL ?_ | refine goR ?_ | refine goRL ?_ | refine goRR ?_)
  all_goals try (conv => whnf)
  refine Exists.intro (fun _ => True) (And.intro ?_ (fun (s : Nat → BitVec 8) hs _ => ?_))
  · skip
    repeat ((conv => whnf); first | refine sdO ?_ | refine nlO ?_ | refine goA ?_ | refine goB ?_ | (apply Exists.intro; (repeat apply Exists.intro); refine caO ?_) | (refine Or.inl ?_; (conv => whnf); (repeat apply Exists.intro); refine caO ?_) | (refine Or.inr ?_; (conv => whnf); first | ((repeat apply Exists.intro); refine caO ?_) | (refine Or.inl ?_; (conv => whnf); (repeat apply Exists.intro); refine caO ?_) | (refine Or.inr ?_; (conv => whnf); (repeat apply Exists.intro); refine caO ?_)) | refine And.intro (by assumption) ?_ | refine goT ?_ | refine goF ?_ | refine goL ?_ | refine goR ?_ | refine goRL ?_ | refine goRR ?_)
    all_goals try (conv => whnf)
    refine Enter.mk (fun j => if j = at'.toNat % (44 + 32 * tp (lyO t) + 32 * hgN (lyA h)) then sgS (lyA h) (lyO t) id seed (gr2 (lyO t) id seed (hgN (lyA h)) 0) (BitVec.ofNat 32 (q.toNat % (Int.toNat 1 * 2 ^ lyK h))) c (min l0 60) m (at'.toNat % (44 + 32 * tp (lyO t) + 32 * hgN (lyA h))) ^^^ turn else sgS (lyA h) (lyO t) id seed (gr2 (lyO t) id seed (hgN (lyA h)) 0) (BitVec.ofNat 32 (q.toNat % (Int.toNat 1 * 2 ^ lyK h))) c (min l0 60) m j) ?_ trivial ?_
    · intro h0 j
      show (if j = _ then sgS _ _ _ _ _ _ _ _ _ _ ^^^ turn else _) = _
      split
      · rename_i e
        rw [h0, e]
        exact BitVec.xor_zero
      · rfl
    · ((repeat' ((conv => whnf) <;> first | exact trivial | (with_reducible first | refine And.intro ?_ ?_ | refine rows_lt1 ?_ | refine rows_lt2 ?_ ?_ | refine rows_lt3 ?_ ?_ ?_ | refine rows_lt4 ?_ ?_ ?_ ?_ | refine rows_lt5 ?_ ?_ ?_ ?_ ?_ | refine aggs_lt1 ?_ | refine aggs_lt2 ?_ ?_ | refine aggs_lt3 ?_ ?_ ?_ | refine fun (_ : Nat) => ?_) | refine fun (_ : (_ : Nat) < _) => ?_ | exact rfl | exact Nat.le_of_ble_eq_true rfl | (change (_ : Nat) ≤ _; omega) | (change (_ : Nat) = _; omega) | (change (_ : Int) = _; omega))); (all_goals try (conv => whnf)))
  have hs' : turn = 0 → rtEq (pubS (lyA h) (lyO t) id (gr2 (lyO t) id seed (hgN (lyA h)) 0 1)) (min l0 60) m s := fun h0 => by
    have := hs h0
    rw [show s = sgS (lyA h) (lyO t) id seed (gr2 (lyO t) id seed (hgN (lyA h)) 0) (BitVec.ofNat 32 (q.toNat % (Int.toNat 1 * 2 ^ lyK h))) c (min l0 60) m from funext this]
    exact rt_tree hg ho hq
  clear hs
  have hL5 : 44 + 32 * tp (lyO t) + 32 * hgN (lyA h) ≤ 100000 := by omega
  generalize hP : pubS (lyA h) (lyO t) id (gr2 (lyO t) id seed (hgN (lyA h)) 0 1) = P at hs' ⊢
  have fE : ¬ paE (44 + 32 * tp (lyO t) + 32 * hgN (lyA h)) s = 0 → roE 56 P (44 + 32 * tp (lyO t) + 32 * hgN (lyA h)) s = paE (44 + 32 * tp (lyO t) + 32 * hgN (lyA h)) s := fun e => by rw [← hP]; exact roE_e hg ho e
  have fT : paE (44 + 32 * tp (lyO t) + 32 * hgN (lyA h)) s = 0 → ¬ trT s = lyA h → roE 56 P (44 + 32 * tp (lyO t) + 32 * hgN (lyA h)) s = 6 := fun e e2 => by rw [← hP]; exact roE_t hg ho e e2
  have fS : paE (44 + 32 * tp (lyO t) + 32 * hgN (lyA h)) s = 0 → trT s = lyA h → ¬ sgT s = lyO t → roE 56 P (44 + 32 * tp (lyO t) + 32 * hgN (lyA h)) s = 6 := fun e e2 e3 => by rw [← hP]; exact roE_s hg ho e e2 e3
  have fK : paE (44 + 32 * tp (lyO t) + 32 * hgN (lyA h)) s = 0 → trT s = lyA h → sgT s = lyO t → roE 56 P (44 + 32 * tp (lyO t) + 32 * hgN (lyA h)) s = 0 := fun e e2 e3 => by rw [← hP]; exact roE_k hg ho e e2 e3
  have pA : lfQ P = lyA h := by rw [← hP]; exact pub_a
  have pB : sgT P = lyO t := by rw [← hP]; exact pub_b
  have rQ : trT s = lyA h → roV P (min l0 60) m s = refR id (min l0 60) m s := fun e => by rw [← hP]; exact ro_ref e
  have rR : trT s = lyA h → (rtEq P (min l0 60) m s ↔ lw 32 (at8 (refR id (min l0 60) m s)) = lw 32 (fun j => P (24 + j))) := fun e => by
    rw [← hP, rt_ref e, lw_cong' fun j (_ : j < 32) => (pub_x : pubS (lyA h) (lyO t) id (gr2 (lyO t) id seed (hgN (lyA h)) 0 1) (24 + j) = _)]
  clear hP
  generalize 44 + 32 * tp (lyO t) + 32 * hgN (lyA h) = L at *
  rcases Decidable.em (paE L s = 0) with e0 | e0
  rotate_left
  · have hr := fE e0
    have hr0 : ¬ roE 56 P L s = 0 := by rw [hr]; exact e0
    repeat ((conv => whnf); first | refine sdO ?_ | refine nlO ?_ | refine goA ?_ | refine goB ?_ | (apply Exists.intro; (repeat apply Exists.intro); refine caO ?_) | (refine Or.inl ?_; (conv => whnf); (repeat apply Exists.intro); refine caO ?_) | (refine Or.inr ?_; (conv => whnf); first | ((repeat apply Exists.intro); refine caO ?_) | (refine Or.inl ?_; (conv => whnf); (repeat apply Exists.intro); refine caO ?_) | (refine Or.inr ?_; (conv => whnf); (repeat apply Exists.intro); refine caO ?_)) | refine And.intro (by assumption) ?_ | refine goT ?_ | refine goF ?_ | refine goL ?_ | refine goR ?_ | refine goRL ?_ | refine goRR ?_)
    all_goals try (conv => whnf)
    exact eqB_agg fun j hj => rfl
  obtain ⟨h8, hoS, hgT, hLe, _⟩ := paE_0 e0
  have htS := tp_le' hoS
  have hhT := hg_facts hgT
  have hA' : BitVec.setWidth 32 (BitVec.setWidth 64 (w4 (P (0 + 0)) (P (0 + 1)) (P (0 + 2)) (P (0 + 3)))) = lyA h := by rw [swQ]; exact pA
  rcases Decidable.em (trT s = lyA h) with eT | eT
  rotate_left
  · have hr := fT e0 eT
    have cT : trT s ≠ BitVec.setWidth 32 (BitVec.setWidth 64 (w4 (P (0 + 0)) (P (0 + 1)) (P (0 + 2)) (P (0 + 3)))) := by rw [hA']; exact eT
    have hr0 : ¬ roE 56 P L s = 0 := by rw [hr]; decide
    repeat ((conv => whnf); first | refine sdO ?_ | refine nlO ?_ | refine goA ?_ | refine goB ?_ | (apply Exists.intro; (repeat apply Exists.intro); refine caO ?_) | (refine Or.inl ?_; (conv => whnf); (repeat apply Exists.intro); refine caO ?_) | (refine Or.inr ?_; (conv => whnf); first | ((repeat apply Exists.intro); refine caO ?_) | (refine Or.inl ?_; (conv => whnf); (repeat apply Exists.intro); refine caO ?_) | (refine Or.inr ?_; (conv => whnf); (repeat apply Exists.intro); refine caO ?_)) | refine And.intro (by assumption) ?_ | refine goT ?_ | refine goF ?_ | refine goL ?_ | refine goR ?_ | refine goRL ?_ | refine goRR ?_)
    all_goals try (conv => whnf)
    exact decide_eq_true rfl
  have cT : trT s = BitVec.setWidth 32 (BitVec.setWidth 64 (w4 (P (0 + 0)) (P (0 + 1)) (P (0 + 2)) (P (0 + 3)))) := by rw [hA']; exact eT
  rcases Decidable.em (sgT s = lyO t) with eS | eS
  rotate_left
  · have hr := fS e0 eT eS
    have cS : BitVec.setWidth 64 (w4 (s (4 + 0 + 0)) (s (4 + 0 + 1)) (s (4 + 0 + 2)) (s (4 + 0 + 3))) ≠ BitVec.setWidth 64 (w4 (P (Int.toNat 4 + 0)) (P (Int.toNat 4 + 1)) (P (Int.toNat 4 + 2)) (P (Int.toNat 4 + 3))) := fun e => eS ((show sgT s = sgT P from w64_inj e).trans pB)
    have hr0 : ¬ roE 56 P L s = 0 := by rw [hr]; decide
    repeat ((conv => whnf); first | refine sdO ?_ | refine nlO ?_ | refine goA ?_ | refine goB ?_ | (apply Exists.intro; (repeat apply Exists.intro); refine caO ?_) | (refine Or.inl ?_; (conv => whnf); (repeat apply Exists.intro); refine caO ?_) | (refine Or.inr ?_; (conv => whnf); first | ((repeat apply Exists.intro); refine caO ?_) | (refine Or.inl ?_; (conv => whnf); (repeat apply Exists.intro); refine caO ?_) | (refine Or.inr ?_; (conv => whnf); (repeat apply Exists.intro); refine caO ?_)) | refine And.intro (by assumption) ?_ | refine goT ?_ | refine goF ?_ | refine goL ?_ | refine goR ?_ | refine goRL ?_ | refine goRR ?_)
    all_goals try (conv => whnf)
    exact decide_eq_true rfl
  have hr := fK e0 eT eS
  have cS : BitVec.setWidth 64 (w4 (s (4 + 0 + 0)) (s (4 + 0 + 1)) (s (4 + 0 + 2)) (s (4 + 0 + 3))) = BitVec.setWidth 64 (w4 (P (Int.toNat 4 + 0)) (P (Int.toNat 4 + 1)) (P (Int.toNat 4 + 2)) (P (Int.toNat 4 + 3))) := congrArg (BitVec.setWidth 64) (show sgT s = sgT P from eS.trans pB.symm)
  rcases Decidable.em (rtEq P (min l0 60) m s) with eR | eR
  · skip
    repeat ((conv => whnf); first | refine sdO ?_ | refine nlO ?_ | refine goA ?_ | refine goB ?_ | (apply Exists.intro; (repeat apply Exists.intro); refine caO ?_) | (refine Or.inl ?_; (conv => whnf); (repeat apply Exists.intro); refine caO ?_) | (refine Or.inr ?_; (conv => whnf); first | ((repeat apply Exists.intro); refine caO ?_) | (refine Or.inl ?_; (conv => whnf); (repeat apply Exists.intro); refine caO ?_) | (refine Or.inr ?_; (conv => whnf); (repeat apply Exists.intro); refine caO ?_)) | refine And.intro (by assumption) ?_ | refine goT ?_ | refine goF ?_ | refine goL ?_ | refine goR ?_ | refine goRL ?_ | refine goRR ?_)
    all_goals try (conv => whnf)
    refine And.intro ?_ (bad (eqB_agg fun j hj => ?_))
    rotate_left
    · show at8 (roV P (min l0 60) m s) j = at8 (clb id (lfQ s + 1#32 <<< hgN (trT s)) _ (paP s) (hgN (trT s))) j
      rw [rQ eT, ref_f]
    refine fun _ => ?_
    repeat ((conv => whnf); first | refine sdO ?_ | refine nlO ?_ | refine goA ?_ | refine goB ?_ | (apply Exists.intro; (repeat apply Exists.intro); refine caO ?_) | (refine Or.inl ?_; (conv => whnf); (repeat apply Exists.intro); refine caO ?_) | (refine Or.inr ?_; (conv => whnf); first | ((repeat apply Exists.intro); refine caO ?_) | (refine Or.inl ?_; (conv => whnf); (repeat apply Exists.intro); refine caO ?_) | (refine Or.inr ?_; (conv => whnf); (repeat apply Exists.intro); refine caO ?_)) | refine And.intro (by assumption) ?_ | refine goT ?_ | refine goF ?_ | refine goL ?_ | refine goR ?_ | refine goRL ?_ | refine goRR ?_)
    all_goals try (conv => whnf)
    refine And.intro ?_ (beT (eqB_agg fun j hj => ?_))
    rotate_left
    · show at8 (clb id (lfQ s + 1#32 <<< hgN (trT s)) _ (paP s) (hgN (trT s))) j = P (24 + j)
      have e := lw_eq.1 ((rR eT).1 eR) j hj
      rw [ref_f] at e
      exact e
    refine fun _ => ?_
    rcases Decidable.em (turn = BitVec.ofInt 8 0) with z | z
    · skip
      repeat ((conv => whnf); first | refine sdO ?_ | refine nlO ?_ | refine goA ?_ | refine goB ?_ | (apply Exists.intro; (repeat apply Exists.intro); refine caO ?_) | (refine Or.inl ?_; (conv => whnf); (repeat apply Exists.intro); refine caO ?_) | (refine Or.inr ?_; (conv => whnf); first | ((repeat apply Exists.intro); refine caO ?_) | (refine Or.inl ?_; (conv => whnf); (repeat apply Exists.intro); refine caO ?_) | (refine Or.inr ?_; (conv => whnf); (repeat apply Exists.intro); refine caO ?_)) | refine And.intro (by assumption) ?_ | refine goT ?_ | refine goF ?_ | refine goL ?_ | refine goR ?_ | refine goRL ?_ | refine goRR ?_)
      all_goals try (conv => whnf)
      ((repeat' ((conv => whnf) <;> first | exact trivial | (with_reducible first | refine And.intro ?_ ?_ | refine rows_lt1 ?_ | refine rows_lt2 ?_ ?_ | refine rows_lt3 ?_ ?_ ?_ | refine rows_lt4 ?_ ?_ ?_ ?_ | refine rows_lt5 ?_ ?_ ?_ ?_ ?_ | refine aggs_lt1 ?_ | refine aggs_lt2 ?_ ?_ | refine aggs_lt3 ?_ ?_ ?_ | refine fun (_ : Nat) => ?_) | refine fun (_ : (_ : Nat) < _) => ?_ | exact rfl | exact Nat.le_of_ble_eq_true rfl | (change (_ : Nat) ≤ _; omega) | (change (_ : Nat) = _; omega) | (change (_ : Int) = _; omega))); (all_goals try (conv => whnf)))
    · skip
      repeat ((conv => whnf); first | refine sdO ?_ | refine nlO ?_ | refine goA ?_ | refine goB ?_ | (apply Exists.intro; (repeat apply Exists.intro); refine caO ?_) | (refine Or.inl ?_; (conv => whnf); (repeat apply Exists.intro); refine caO ?_) | (refine Or.inr ?_; (conv => whnf); first | ((repeat apply Exists.intro); refine caO ?_) | (refine Or.inl ?_; (conv => whnf); (repeat apply Exists.intro); refine caO ?_) | (refine Or.inr ?_; (conv => whnf); (repeat apply Exists.intro); refine caO ?_)) | refine And.intro (by assumption) ?_ | refine goT ?_ | refine goF ?_ | refine goL ?_ | refine goR ?_ | refine goRL ?_ | refine goRR ?_)
      all_goals try (conv => whnf)
      ((repeat' ((conv => whnf) <;> first | exact trivial | (with_reducible first | refine And.intro ?_ ?_ | refine rows_lt1 ?_ | refine rows_lt2 ?_ ?_ | refine rows_lt3 ?_ ?_ ?_ | refine rows_lt4 ?_ ?_ ?_ ?_ | refine rows_lt5 ?_ ?_ ?_ ?_ ?_ | refine aggs_lt1 ?_ | refine aggs_lt2 ?_ ?_ | refine aggs_lt3 ?_ ?_ ?_ | refine fun (_ : Nat) => ?_) | refine fun (_ : (_ : Nat) < _) => ?_ | exact rfl | exact Nat.le_of_ble_eq_true rfl | (change (_ : Nat) ≤ _; omega) | (change (_ : Nat) = _; omega) | (change (_ : Int) = _; omega))); (all_goals try (conv => whnf)))
  · skip
    repeat ((conv => whnf); first | refine sdO ?_ | refine nlO ?_ | refine goA ?_ | refine goB ?_ | (apply Exists.intro; (repeat apply Exists.intro); refine caO ?_) | (refine Or.inl ?_; (conv => whnf); (repeat apply Exists.intro); refine caO ?_) | (refine Or.inr ?_; (conv => whnf); first | ((repeat apply Exists.intro); refine caO ?_) | (refine Or.inl ?_; (conv => whnf); (repeat apply Exists.intro); refine caO ?_) | (refine Or.inr ?_; (conv => whnf); (repeat apply Exists.intro); refine caO ?_)) | refine And.intro (by assumption) ?_ | refine goT ?_ | refine goF ?_ | refine goL ?_ | refine goR ?_ | refine goRL ?_ | refine goRR ?_)
    all_goals try (conv => whnf)
    refine And.intro ?_ (bad (eqB_agg fun j hj => ?_))
    rotate_left
    · show at8 (roV P (min l0 60) m s) j = at8 (clb id (lfQ s + 1#32 <<< hgN (trT s)) _ (paP s) (hgN (trT s))) j
      rw [rQ eT, ref_f]
    refine fun _ => ?_
    repeat ((conv => whnf); first | refine sdO ?_ | refine nlO ?_ | refine goA ?_ | refine goB ?_ | (apply Exists.intro; (repeat apply Exists.intro); refine caO ?_) | (refine Or.inl ?_; (conv => whnf); (repeat apply Exists.intro); refine caO ?_) | (refine Or.inr ?_; (conv => whnf); first | ((repeat apply Exists.intro); refine caO ?_) | (refine Or.inl ?_; (conv => whnf); (repeat apply Exists.intro); refine caO ?_) | (refine Or.inr ?_; (conv => whnf); (repeat apply Exists.intro); refine caO ?_)) | refine And.intro (by assumption) ?_ | refine goT ?_ | refine goF ?_ | refine goL ?_ | refine goR ?_ | refine goRL ?_ | refine goRR ?_)
    all_goals try (conv => whnf)
    refine And.intro ?_ (beF (Bool.eq_false_iff.2 fun z => eR ((rR eT).2 (lw_eq.2 fun j hj => ?_))))
    rotate_left
    · have e := eqB_iff.1 z j hj
      rw [ref_f]
      exact e
    refine fun _ => ?_
    have hz : ¬ turn = BitVec.ofInt 8 0 := fun h0 => eR (hs' h0)
    repeat ((conv => whnf); first | refine sdO ?_ | refine nlO ?_ | refine goA ?_ | refine goB ?_ | (apply Exists.intro; (repeat apply Exists.intro); refine caO ?_) | (refine Or.inl ?_; (conv => whnf); (repeat apply Exists.intro); refine caO ?_) | (refine Or.inr ?_; (conv => whnf); first | ((repeat apply Exists.intro); refine caO ?_) | (refine Or.inl ?_; (conv => whnf); (repeat apply Exists.intro); refine caO ?_) | (refine Or.inr ?_; (conv => whnf); (repeat apply Exists.intro); refine caO ?_)) | refine And.intro (by assumption) ?_ | refine goT ?_ | refine goF ?_ | refine goL ?_ | refine goR ?_ | refine goRL ?_ | refine goRR ?_)
    all_goals try (conv => whnf)
    ((repeat' ((conv => whnf) <;> first | exact trivial | (with_reducible first | refine And.intro ?_ ?_ | refine rows_lt1 ?_ | refine rows_lt2 ?_ ?_ | refine rows_lt3 ?_ ?_ ?_ | refine rows_lt4 ?_ ?_ ?_ ?_ | refine rows_lt5 ?_ ?_ ?_ ?_ ?_ | refine aggs_lt1 ?_ | refine aggs_lt2 ?_ ?_ | refine aggs_lt3 ?_ ?_ ?_ | refine fun (_ : Nat) => ?_) | refine fun (_ : (_ : Nat) < _) => ?_ | exact rfl | exact Nat.le_of_ble_eq_true rfl | (change (_ : Nat) ≤ _; omega) | (change (_ : Nat) = _; omega) | (change (_ : Int) = _; omega))); (all_goals try (conv => whnf)))
end Go.Proofs.YthdckapjgkikkaaDoor
