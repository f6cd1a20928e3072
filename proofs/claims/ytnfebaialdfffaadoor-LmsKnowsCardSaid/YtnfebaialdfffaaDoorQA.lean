/- lms: a signature. -/
import Derived.Test.YtnfebaialdfffaaDoorQ8
namespace Go.Proofs.YtnfebaialdfffaaDoor
open Go.RowKit
set_option maxRecDepth 100000
set_option maxHeartbeats 20000000
attribute [local irreducible] hsh rst sha256 press dig valN mash fold digs ch tw tp tlS cf ckN dgT pubE upTo sgV sigB mashD clE mixA clK pubK st1 at8 hgN w4 sib
/-- A signature's bytes. -/
def sgS (a b : BitVec 32) (id seed : Nat → BitVec 8) (nd : Nat → Nat → BitVec 8) (q : BitVec 32) (c : Nat → BitVec 8) (l : Nat) (m : Nat → BitVec 8) (j : Nat) : BitVec 8 :=
  if j < 4 then put4 (fun _ => 0) 0 q j else if j < 40 + 32 * tp b then sigA b id q seed c l m (j - 4) else if j < 44 + 32 * tp b then put4 (fun _ => 0) (40 + 32 * tp b) a j else nd (sib a q ((j - (44 + 32 * tp b)) / 32)) ((j - (44 + 32 * tp b)) % 32)
theorem put4_away (f : Nat → BitVec 8) (o : Nat) (v : BitVec 32) {j : Nat} (h : ¬ (o ≤ j ∧ j < o + 4)) : put4 f o v j = f j := by
  unfold put4
  rw [if_neg (by omega), if_neg (by omega), if_neg (by omega), if_neg (by omega)]
theorem put4_in (f g : Nat → BitVec 8) (o : Nat) (v : BitVec 32) {j : Nat} (h : o ≤ j ∧ j < o + 4) : put4 f o v j = put4 g o v j := by
  unfold put4
  by_cases h3 : j = o + 3
  · rw [if_pos h3, if_pos h3]
  by_cases h2 : j = o + 2
  · rw [if_neg h3, if_pos h2, if_neg h3, if_pos h2]
  by_cases h1 : j = o + 1
  · rw [if_neg h3, if_neg h2, if_pos h1, if_neg h3, if_neg h2, if_pos h1]
  · rw [if_neg h3, if_neg h2, if_neg h1, if_pos (by omega), if_neg h3, if_neg h2, if_neg h1, if_pos (by omega)]
theorem sgS_0 (a b : BitVec 32) (id seed : Nat → BitVec 8) (nd : Nat → Nat → BitVec 8) (q : BitVec 32) (c : Nat → BitVec 8) (l : Nat) (m : Nat → BitVec 8) (o x : Nat) (ho : o = 40 + 32 * tp b) (hx : x < 44 + 32 * tp b) (z : Nat → BitVec 8) :
    put4 (fun x => if x < 4 + (36 + 32 * tp b) then (if x < 4 then put4 (fun _ => 0) 0 q x else sigA b id q seed c l m (x - 4)) else z x) o a x = sgS a b id seed nd q c l m x := by
  subst ho
  unfold sgS
  by_cases h4 : x < 4
  · rw [put4_away _ _ _ (by omega), if_pos (by omega), if_pos h4, if_pos h4]
  by_cases h5 : x < 40 + 32 * tp b
  · rw [put4_away _ _ _ (by omega), if_pos (by omega), if_neg h4, if_neg h4, if_pos h5]
  · rw [if_neg h4, if_neg h5, if_pos hx]
    exact put4_in _ _ _ _ (by omega)
theorem sgS_s (a b : BitVec 32) (id seed : Nat → BitVec 8) (nd : Nat → Nat → BitVec 8) (q : BitVec 32) (c : Nat → BitVec 8) (l : Nat) (m : Nat → BitVec 8) (k x : Nat) (h1 : ¬ x < 44 + 32 * tp b + 32 * k) (h2 : x < 44 + 32 * tp b + 32 * (k + 1)) :
    nd (sib a q k) (x - (44 + 32 * tp b + 32 * k)) = sgS a b id seed nd q c l m x := by
  unfold sgS
  rw [if_neg (by omega), if_neg (by omega), if_neg (by omega), show (x - (44 + 32 * tp b)) / 32 = k by omega, show (x - (44 + 32 * tp b)) % 32 = x - (44 + 32 * tp b + 32 * k) by omega]
def C_sn_sig : SpecR := fun A K => ∃ a b id seed n nd q c l m, A [snI a b id seed n nd, .u32 q, arr8 32 c, bsl l m] ∧ (n = 2 * 2 ^ hgN a ∧ hgOK a ∧ q < 1#32 <<< hgN a ∧ otOK b ∧ l ≤ 1000000000) ∧ K (.gsl 5 8 (44 + 32 * tp b + 32 * hgN a)) [(8, .grow 5 (44 + 32 * tp b + 32 * hgN a) (bys (sgS a b id seed nd q c l m)))]
def L_sn_sig (a b : BitVec 32) (id seed : Nat → BitVec 8) (nd : Nat → Nat → BitVec 8) (q : BitVec 32) (c : Nat → BitVec 8) (l : Nat) (m : Nat → BitVec 8) : LI := ⟨Nat, (· ≤ hgN a), fun k => [(12, .gsl 5 3136 (44 + 32 * tp b + 32 * k)), (66, .gsl 23 2072 (hgN a)), (67, .nat (hgN a)), (68, .nat k)],
  fun k => [(2072, .grow 23 (hgN a) (dgA fun i => nd (sib a q i))), (3136, .grow 5 (44 + 32 * tp b + 32 * k) (bys (sgS a b id seed nd q c l m)))], fun k => hgN a - k, some, some⟩
theorem g_sn_sig : Gd 27 (pureR ty C_sn_sig) := by
  refine goodR (E := PG [(26, pureP ty C_lms_site), (49, pureR ty C_ots_Sign), (14, pureR ty C_sn_Path), (42, mutF ty [true, false] C_tok_put)]) (pgOK ⟨g_lms_site, g_ots_Sign, g_sn_Path, g_lms_putG, trivial⟩) mixes Tryd.func27 (by kernel_rfl) (by kernel_rfl) ?_
  rintro A K ⟨a, b, id, seed, n, nd, q, c, l, m, hA, ⟨hn, ha, hq, hb, hl⟩, hK⟩
  obtain ⟨h1, h2⟩ := hg_facts ha
  have hp := tp_le' hb
  have hn0 : 0 < n := by have : 0 < 2 ^ hgN a := Nat.pow_pos (by decide); omega
  have hc : n = 2 * 2 ^ hgN a ∧ hgOK a ∧ q < 1#32 <<< hgN a := ⟨hn, ha, hq⟩
  refine ⟨_, _, _, loops [(9, L_sn_sig a b id seed nd q c l m)], hA, hK, by kernel_rfl, by kernel_rfl, ⟨fun _ _ => trivial, trivial⟩, trivial, ?_⟩
  repeat ((conv => whnf); first | refine sdO ?_ | refine nlO ?_ | refine goA ?_ | refine goB ?_ | (apply Exists.intro; (repeat apply Exists.intro); refine caO ?_) | (refine Or.inl ?_; (conv => whnf); (repeat apply Exists.intro); refine caO ?_) | (refine Or.inr ?_; (conv => whnf); first | ((repeat apply Exists.intro); refine caO ?_) | (refine Or.inl ?_; (conv => whnf); (repeat apply Exists.intro); refine caO ?_) | (refine Or.inr ?_; (conv => whnf); (repeat apply Exists.intro); refine caO ?_)) | refine And.intro (by assumption) ?_ | refine goT ?_ | refine goF ?_ | refine goL ?_ | refine goR ?_ | refine goRL ?_ | refine goRR ?_)
  all_goals try (conv => whnf)
  refine Exists.intro (fun _ => True) (And.intro (Enter.mk (0 : Nat) (Nat.zero_le _) trivial ?_) (fun (k : Nat) (hk : k ≤ hgN a) _ => ?_))
  · ((repeat' ((conv => whnf) <;> first | exact trivial | (with_reducible first | refine And.intro ?_ ?_ | refine rows_lt1 ?_ | refine rows_lt2 ?_ ?_ | refine rows_lt3 ?_ ?_ ?_ | refine rows_lt4 ?_ ?_ ?_ ?_ | refine rows_lt5 ?_ ?_ ?_ ?_ ?_ | refine aggs_lt1 ?_ | refine aggs_lt2 ?_ ?_ | refine aggs_lt3 ?_ ?_ ?_ | refine fun (_ : Nat) => ?_) | refine fun (_ : (_ : Nat) < _) => ?_ | exact rfl | exact Nat.le_of_ble_eq_true rfl | (change (_ : Nat) ≤ _; omega) | (change (_ : Nat) = _; omega) | (change (_ : Int) = _; omega))); (all_goals try (conv => whnf)))
    rename_i x hx
    have hx : x < 44 + 32 * tp b := by
      have hx : x < 4 + (36 + 32 * tp b) + 4 := hx
      omega
    exact sgS_0 a b id seed nd q c l m (((4 + (36 + 32 * tp b) + 4 : Nat) : Int) - ((4 : Nat) : Int)).toNat x (by omega) hx (fun x => asU8 (((fun x => (Ty.int IntKind.u8).zero) : Nat → AV) (x - (4 + (36 + 32 * tp b)))))
  rcases Nat.lt_or_ge k (hgN a) with h | h
  · skip
    repeat ((conv => whnf); first | refine sdO ?_ | refine nlO ?_ | refine goA ?_ | refine goB ?_ | (apply Exists.intro; (repeat apply Exists.intro); refine caO ?_) | (refine Or.inl ?_; (conv => whnf); (repeat apply Exists.intro); refine caO ?_) | (refine Or.inr ?_; (conv => whnf); first | ((repeat apply Exists.intro); refine caO ?_) | (refine Or.inl ?_; (conv => whnf); (repeat apply Exists.intro); refine caO ?_) | (refine Or.inr ?_; (conv => whnf); (repeat apply Exists.intro); refine caO ?_)) | refine And.intro (by assumption) ?_ | refine goT ?_ | refine goF ?_ | refine goL ?_ | refine goR ?_ | refine goRL ?_ | refine goRR ?_)
    all_goals try (conv => whnf)
    refine Again.mk (k + 1 : Nat) h trivial (show hgN a - (k + 1) < hgN a - k by omega) ?_
    ((repeat' ((conv => whnf) <;> first | exact trivial | (with_reducible first | refine And.intro ?_ ?_ | refine rows_lt1 ?_ | refine rows_lt2 ?_ ?_ | refine rows_lt3 ?_ ?_ ?_ | refine rows_lt4 ?_ ?_ ?_ ?_ | refine rows_lt5 ?_ ?_ ?_ ?_ ?_ | refine aggs_lt1 ?_ | refine aggs_lt2 ?_ ?_ | refine aggs_lt3 ?_ ?_ ?_ | refine fun (_ : Nat) => ?_) | refine fun (_ : (_ : Nat) < _) => ?_ | exact rfl | exact Nat.le_of_ble_eq_true rfl | (change (_ : Nat) ≤ _; omega) | (change (_ : Nat) = _; omega) | (change (_ : Int) = _; omega))); (all_goals try (conv => whnf)))
    rename_i x hx
    by_cases hx1 : x < 44 + 32 * tp b + 32 * k
    · exact if_pos hx1
    · refine (if_neg hx1).trans ?_
      show nd (sib a q k) (0 + (x - (44 + 32 * tp b + 32 * k))) = _
      rw [Nat.zero_add]
      exact sgS_s a b id seed nd q c l m k x hx1 hx
  · obtain rfl : k = hgN a := by omega
    repeat ((conv => whnf); first | refine sdO ?_ | refine nlO ?_ | refine goA ?_ | refine goB ?_ | (apply Exists.intro; (repeat apply Exists.intro); refine caO ?_) | (refine Or.inl ?_; (conv => whnf); (repeat apply Exists.intro); refine caO ?_) | (refine Or.inr ?_; (conv => whnf); first | ((repeat apply Exists.intro); refine caO ?_) | (refine Or.inl ?_; (conv => whnf); (repeat apply Exists.intro); refine caO ?_) | (refine Or.inr ?_; (conv => whnf); (repeat apply Exists.intro); refine caO ?_)) | refine And.intro (by assumption) ?_ | refine goT ?_ | refine goF ?_ | refine goL ?_ | refine goR ?_ | refine goRL ?_ | refine goRR ?_)
    all_goals try (conv => whnf)
    refine ⟨fun _ => some 3136, ?_⟩
    ((repeat' ((conv => whnf) <;> first | exact trivial | (with_reducible first | refine And.intro ?_ ?_ | refine rows_lt1 ?_ | refine rows_lt2 ?_ ?_ | refine rows_lt3 ?_ ?_ ?_ | refine rows_lt4 ?_ ?_ ?_ ?_ | refine rows_lt5 ?_ ?_ ?_ ?_ ?_ | refine aggs_lt1 ?_ | refine aggs_lt2 ?_ ?_ | refine aggs_lt3 ?_ ?_ ?_ | refine fun (_ : Nat) => ?_) | refine fun (_ : (_ : Nat) < _) => ?_ | exact rfl | exact Nat.le_of_ble_eq_true rfl | (change (_ : Nat) ≤ _; omega) | (change (_ : Nat) = _; omega) | (change (_ : Int) = _; omega))); (all_goals try (conv => whnf)))
end Go.Proofs.YtnfebaialdfffaaDoor
/- lms: Force. -/
namespace Go.Proofs.YtnfebaialdfffaaDoor
open Go.RowKit
set_option maxRecDepth 100000
set_option maxHeartbeats 20000000
attribute [local irreducible] hsh rst sha256 press dig valN mash fold digs ch tw tp tlS cf ckN dgT pubE upTo sgV sigB mashD clE mixA clK pubK st1 at8 hgN w4 sib sgS
end Go.Proofs.YtnfebaialdfffaaDoor
