/- lms: Left, Sign. -/
import Derived.Test.YtnfebaialdfffaaDoorQD
namespace Go.Proofs.YtnfebaialdfffaaDoor
open Go.RowKit
set_option maxRecDepth 100000
set_option maxHeartbeats 20000000
attribute [local irreducible] hsh rst sha256 press dig valN mash fold digs ch tw tp tlS cf ckN dgT pubE upTo sgV sigB mashD clE mixA clK pubK st1 at8 hgN w4 sib sgS gr2
/-- A signer behind a pointer: itself, its nodes, the map of what it has signed. -/
abbrev snW (a b : BitVec 32) (id seed : Nat → BitVec 8) (n : Nat) (nd : Nat → Nat → BitVec 8) (c : Nat) : List (Nat × Row) :=
  [(0, snR a b id seed (.gsl 23 1 n) (.cmt 2)), (1, .grow 23 n (dgA nd)), (2, .ob (.cnt c))]
theorem own_snW (a b : BitVec 32) (id seed : Nat → BitVec 8) (n : Nat) (nd : Nat → Nat → BitVec 8) (c : Nat) : OwnRws (snW a b id seed n nd c) :=
  ⟨own_sn a b id seed (.gsl 23 1 n) trivial 2, fun _ _ _ _ => trivial, rfl, trivial⟩
theorem i64_lf {a : BitVec 32} (ha : hgOK a) {c : Nat} (hc : c ≤ 2 ^ hgN a) : I64 (((1#32 <<< hgN a).toNat : Int) - (c : Int)) := by
  obtain ⟨h1, h2⟩ := hg_facts ha
  have hp : 2 ^ hgN a ≤ 2 ^ 25 := Nat.pow_le_pow_right (by decide) h2
  rw [lf_nat ha]
  unfold I64
  omega
def C_sn_Left : SpecM := fun A K => ∃ a b id seed n nd c, A [.ptr TSn 0 []] (snW a b id seed n nd c) ∧ (0 < n ∧ hgOK a ∧ c ≤ 2 ^ hgN a) ∧ K (.int ((2 ^ hgN a : Nat) - (c : Int))) (snW a b id seed n nd c)
theorem g_sn_Left : Gd 17 (mutD ty [true] C_sn_Left) := by
  refine goodD (E := PG [(22, pureP ty C_sn_missing), (36, pureP ty C_lms_leaves)]) (pgOK ⟨g_sn_missing, g_lms_leaves, trivial⟩) mixes Tryd.func17 (by kernel_rfl) (by kernel_rfl) ?_
  rintro A K ⟨a, b, id, seed, n, nd, c, hA, ⟨hn, ha, hc⟩, hK⟩
  have hl := lf_nat ha
  have hi := i64_lf ha hc
  refine ⟨_, _, _, _, fun _ => none, hA, hK, by kernel_rfl, by kernel_rfl, ⟨trivial, rfl, trivial, trivial⟩, own_snW _ _ _ _ _ _ _, trivial, ?_⟩
  repeat ((conv => whnf); first | refine sdO ?_ | refine nlO ?_ | refine goA ?_ | refine goB ?_ | (apply Exists.intro; (repeat apply Exists.intro); refine caO ?_) | (refine Or.inl ?_; (conv => whnf); (repeat apply Exists.intro); refine caO ?_) | (refine Or.inr ?_; (conv => whnf); first | ((repeat apply Exists.intro); refine caO ?_) | (refine Or.inl ?_; (conv => whnf); (repeat apply Exists.intro); refine caO ?_) | (refine Or.inr ?_; (conv => whnf); (repeat apply Exists.intro); refine caO ?_)) | refine And.intro (by assumption) ?_ | refine goT ?_ | refine goF ?_ | refine goL ?_ | refine goR ?_ | refine goRL ?_ | refine goRR ?_)
  all_goals try (conv => whnf)
  refine ⟨some, ?_⟩
  ((repeat' ((conv => whnf) <;> first | exact trivial | (with_reducible first | refine And.intro ?_ ?_ | refine rows_lt1 ?_ | refine rows_lt2 ?_ ?_ | refine rows_lt3 ?_ ?_ ?_ | refine rows_lt4 ?_ ?_ ?_ ?_ | refine rows_lt5 ?_ ?_ ?_ ?_ ?_ | refine aggs_lt1 ?_ | refine aggs_lt2 ?_ ?_ | refine aggs_lt3 ?_ ?_ ?_ | refine fun (_ : Nat) => ?_) | refine fun (_ : (_ : Nat) < _) => ?_ | exact rfl | exact Nat.le_of_ble_eq_true rfl | (change (_ : Nat) ≤ _; omega) | (change (_ : Nat) = _; omega) | (change (_ : Int) = _; omega))); (all_goals try (conv => whnf)))
def C_sn_Sign : SpecM := fun A K => ∃ a b id seed n nd c x l m, A [.ptr TSn 0 [], arr8 32 x, bsl l m] (snW a b id seed n nd c) ∧ (n = 2 * 2 ^ hgN a ∧ hgOK a ∧ otOK b ∧ l ≤ 1000000000) ∧
  ((c = 2 ^ hgN a ∧ K (tupOf [.nils, .nat 7]) (snW a b id seed n nd c)) ∨ (c < 2 ^ hgN a ∧ K (tupOf [.gsl 5 8 (44 + 32 * tp b + 32 * hgN a), .nat 0]) (snW a b id seed n nd (c + 1) ++ [(8, .grow 5 (44 + 32 * tp b + 32 * hgN a) (bys (sgS a b id seed nd (BitVec.ofNat 32 c) x l m)))])))
theorem g_sn_Sign : Gd 8 (mutD ty [true, false, false] C_sn_Sign) := by
  refine goodD (E := PG [(22, pureP ty C_sn_missing), (17, mutD ty [true] C_sn_Left), (23, pureP ty C_bytes_Clone), (26, pureP ty C_lms_site), (25, pureP ty C_ots_Mash), (24, pureR ty C_ots_Digits), (27, pureR ty C_sn_sig)]) (pgOK ⟨g_sn_missing, g_sn_Left, g_bytes_Clone, g_lms_site, g_ots_Mash, g_ots_Digits, g_sn_sig, trivial⟩) mixes Tryd.func8 (by kernel_rfl) (by kernel_rfl) ?_
  rintro A K ⟨a, b, id, seed, n, nd, c, x, l, m, hA, ⟨hn, ha, hb, hl⟩, ⟨hc, hK⟩ | ⟨hc, hK⟩⟩
  · have hn0 : 0 < n := by have : 0 < 2 ^ hgN a := Nat.pow_pos (by decide); omega
    have hq : 0 < n ∧ hgOK a ∧ c ≤ 2 ^ hgN a := ⟨hn0, ha, by omega⟩
    have hz : ((2 ^ hgN a : Nat) : Int) - (c : Int) = 0 := by omega
    refine ⟨_, _, _, _, fun _ => none, hA, hK, by kernel_rfl, by kernel_rfl, ⟨trivial, rfl, trivial, trivial⟩, own_snW _ _ _ _ _ _ _, own_res trivial trivial, ?_⟩
    repeat ((conv => whnf); first | refine sdO ?_ | refine nlO ?_ | refine goA ?_ | refine goB ?_ | (apply Exists.intro; (repeat apply Exists.intro); refine caO ?_) | (refine Or.inl ?_; (conv => whnf); (repeat apply Exists.intro); refine caO ?_) | (refine Or.inr ?_; (conv => whnf); first | ((repeat apply Exists.intro); refine caO ?_) | (refine Or.inl ?_; (conv => whnf); (repeat apply Exists.intro); refine caO ?_) | (refine Or.inr ?_; (conv => whnf); (repeat apply Exists.intro); refine caO ?_)) | refine And.intro (by assumption) ?_ | refine goT ?_ | refine goF ?_ | refine goL ?_ | refine goR ?_ | refine goRL ?_ | refine goRR ?_)
    all_goals try (conv => whnf)
    refine ⟨some, ?_⟩
    ((repeat' ((conv => whnf) <;> first | exact trivial | (with_reducible first | refine And.intro ?_ ?_ | refine rows_lt1 ?_ | refine rows_lt2 ?_ ?_ | refine rows_lt3 ?_ ?_ ?_ | refine rows_lt4 ?_ ?_ ?_ ?_ | refine rows_lt5 ?_ ?_ ?_ ?_ ?_ | refine aggs_lt1 ?_ | refine aggs_lt2 ?_ ?_ | refine aggs_lt3 ?_ ?_ ?_ | refine fun (_ : Nat) => ?_) | refine fun (_ : (_ : Nat) < _) => ?_ | exact rfl | exact Nat.le_of_ble_eq_true rfl | (change (_ : Nat) ≤ _; omega) | (change (_ : Nat) = _; omega) | (change (_ : Int) = _; omega))); (all_goals try (conv => whnf)))
  · have hn0 : 0 < n := by have : 0 < 2 ^ hgN a := Nat.pow_pos (by decide); omega
    have hq : 0 < n ∧ hgOK a ∧ c ≤ 2 ^ hgN a := ⟨hn0, ha, by omega⟩
    have hz : ¬ ((2 ^ hgN a : Nat) : Int) - (c : Int) = 0 := by omega
    have hcn : (BitVec.ofNat 32 c).toNat = c := by
      have hp : 2 ^ hgN a ≤ 2 ^ 25 := Nat.pow_le_pow_right (by decide) (hg_facts ha).2
      rw [BitVec.toNat_ofNat, Nat.mod_eq_of_lt (by omega)]
    have hlt : BitVec.ofNat 32 c < 1#32 <<< hgN a := by
      rw [BitVec.lt_def, hcn, lf_nat ha]; exact hc
    have hs : n = 2 * 2 ^ hgN a ∧ hgOK a ∧ BitVec.ofNat 32 c < 1#32 <<< hgN a ∧ otOK b ∧ l ≤ 1000000000 := ⟨hn, ha, hlt, hb, hl⟩
    refine ⟨_, _, _, _, fun _ => none, hA, hK, by kernel_rfl, by kernel_rfl, ⟨trivial, rfl, trivial, trivial, trivial⟩, ⟨own_sn a b id seed (.gsl 23 1 n) trivial 2, fun _ _ _ _ => trivial, rfl, fun _ _ => trivial, trivial⟩, own_res trivial trivial, ?_⟩
    repeat ((conv => whnf); first | refine sdO ?_ | refine nlO ?_ | refine goA ?_ | refine goB ?_ | (apply Exists.intro; (repeat apply Exists.intro); refine caO ?_) | (refine Or.inl ?_; (conv => whnf); (repeat apply Exists.intro); refine caO ?_) | (refine Or.inr ?_; (conv => whnf); first | ((repeat apply Exists.intro); refine caO ?_) | (refine Or.inl ?_; (conv => whnf); (repeat apply Exists.intro); refine caO ?_) | (refine Or.inr ?_; (conv => whnf); (repeat apply Exists.intro); refine caO ?_)) | refine And.intro (by assumption) ?_ | refine goT ?_ | refine goF ?_ | refine goL ?_ | refine goR ?_ | refine goRL ?_ | refine goRR ?_)
    all_goals try (conv => whnf)
    (refine out_fnd ?_; (repeat' ((conv => whnf) <;> first | exact trivial | (with_reducible first | refine And.intro ?_ ?_ | refine rows_lt1 ?_ | refine rows_lt2 ?_ ?_ | refine rows_lt3 ?_ ?_ ?_ | refine rows_lt4 ?_ ?_ ?_ ?_ | refine rows_lt5 ?_ ?_ ?_ ?_ ?_ | refine aggs_lt1 ?_ | refine aggs_lt2 ?_ ?_ | refine aggs_lt3 ?_ ?_ ?_ | refine fun (_ : Nat) => ?_) | refine fun (_ : (_ : Nat) < _) => ?_ | exact rfl | exact Nat.le_of_ble_eq_true rfl | (change (_ : Nat) ≤ _; omega) | (change (_ : Nat) = _; omega) | (change (_ : Int) = _; omega))); (all_goals try (conv => whnf)))
end Go.Proofs.YtnfebaialdfffaaDoor
