/- lms: the example. -/
import Derived.Test.YtnfebaialdfffaaDoorQE
import Derived.Test.YtnfebaialdfffaaDoorQG
namespace Go.Proofs.YtnfebaialdfffaaDoor
open Go.RowKit
set_option maxRecDepth 100000
set_option maxHeartbeats 20000000
attribute [local irreducible] hsh rst sha256 press dig valN mash fold digs ch tw tp tlS cf ckN dgT pubE upTo sgV sigB mashD clE mixA clK pubK st1 at8 hgN w4 sib sgS gr2 rtEq pubS clM ndT
/-- A tree's own signature is verified. -/
def C_lms_VerifyO : SpecP := fun A K => ∃ a b id seed q c l m, A [bsl 56 (pubS a b id (gr2 b id seed (hgN a) 0 1)), bsl l m, bsl (44 + 32 * tp b + 32 * hgN a) (sgS a b id seed (gr2 b id seed (hgN a) 0) q c l m)] ∧ (hgOK a ∧ otOK b ∧ q < 1#32 <<< hgN a ∧ l ≤ 1000000000) ∧ K (.nat 0)
theorem g_lms_VerifyO : Gd 19 (pureP ty C_lms_VerifyO) := good_imp g_lms_VerifyF fun args m key K ⟨a, b, id, seed, q, c, l, ms, hA, ⟨ha, hb, hq, hl⟩, hK⟩ => ⟨_, _, _, _, _, _, hA, hl, .inr ⟨ro_ok ha hb hq, .inl ⟨rt_tree ha hb hq, hK⟩⟩⟩
/-- The example's second signature is none of the first text. -/
def C_lms_VerifyN : SpecP := fun A K => ∃ id seed c ma mb, A [bsl 56 (pubS 3758096385#32 3#32 id (gr2 3#32 id seed (hgN 3758096385#32) 0 1)), bsl 1 ma, bsl (44 + 32 * tp 3#32 + 32 * hgN 3758096385#32) (sgS 3758096385#32 3#32 id seed (gr2 3#32 id seed (hgN 3758096385#32) 0) 1#32 c 1 mb)] ∧
  (nbs (lw 16 id) = nbs (lw 16 fun j => if j = 0 then 9#8 else 0#8) ∧ nbs (lw 32 seed) = nbs (lw 32 fun j => if j = 0 then 1#8 else 0#8) ∧ nbs (lw 32 c) = 0 ∧ nbs (lw 1 ma) = 97 ∧ nbs (lw 1 mb) = 98) ∧ K (.nat 5)
theorem g_lms_VerifyN : Gd 19 (pureP ty C_lms_VerifyN) := good_imp g_lms_VerifyF fun args m key K ⟨id, seed, c, ma, mb, hA, ⟨h1, h2, h3, h4, h5⟩, hK⟩ => ⟨_, _, _, _, _, _, hA, by decide, .inr ⟨ro_ok (by unfold hgOK; decide) (by unfold otOK; decide) (by rw [show hgN 3758096385#32 = 1 by unfold hgN; decide]; decide), .inr ⟨aw_ne (h1.trans (by decide)) (h2.trans (by decide)) h3 h4 h5, hK⟩⟩⟩
def C_l6_awake : SpecP := fun A K => A [] ∧ K (.bo true)
theorem g_l6_awake : Gd 5 (pureP ty C_l6_awake) := by
  refine goodP (E := PG [(21, pureR ty C_sn_New), (17, mutD ty [true] C_sn_Left), (8, mutD ty [true, false, false] C_sn_Sign), (20, pureR ty C_sn_Public), (19, orC (pureP ty C_lms_VerifyO) (pureP ty C_lms_VerifyN))]) (pgOK ⟨g_sn_New, g_sn_Left, g_sn_Sign, g_sn_Public, (good_or g_lms_VerifyO g_lms_VerifyN), trivial⟩) mixes Tryd.func5 (by kernel_rfl) (by kernel_rfl) ?_
  rintro A K ⟨hA, hK⟩
  have ho : otOK (BitVec.ofInt 32 3) := by unfold otOK; decide
  have hg : hgOK (BitVec.ofInt 32 3758096385) := by unfold hgOK; decide
  have hH : hgN (BitVec.ofInt 32 3758096385) = 1 := by unfold hgN; decide
  have hs : snOK (BitVec.ofInt 32 3758096385) (BitVec.ofInt 32 3) := ⟨ho, hg, by rw [hH]; decide⟩
  have hp2 : 2 ^ hgN (BitVec.ofInt 32 3758096385) = 2 := by rw [hH]
  have q1 : 0 < 2 * 2 ^ hgN (BitVec.ofInt 32 3758096385) ∧ hgOK (BitVec.ofInt 32 3758096385) ∧ 0 ≤ 2 ^ hgN (BitVec.ofInt 32 3758096385) := ⟨by omega, hg, by omega⟩
  have z1 : ((2 ^ hgN (BitVec.ofInt 32 3758096385) : Nat) : Int) - ((0 : Nat) : Int) = 2 := by omega
  have s0 : 2 * 2 ^ hgN (BitVec.ofInt 32 3758096385) = 2 * 2 ^ hgN (BitVec.ofInt 32 3758096385) ∧ hgOK (BitVec.ofInt 32 3758096385) ∧ otOK (BitVec.ofInt 32 3) ∧ 1 ≤ 1000000000 := ⟨rfl, hg, ho, by decide⟩
  have s1 : 0 < 2 ^ hgN (BitVec.ofInt 32 3758096385) := by omega
  have s2 : 0 + 1 < 2 ^ hgN (BitVec.ofInt 32 3758096385) := by omega
  have s3 : 0 + 1 + 1 = 2 ^ hgN (BitVec.ofInt 32 3758096385) := by omega
  have v0 : hgOK (BitVec.ofInt 32 3758096385) ∧ otOK (BitVec.ofInt 32 3) ∧ BitVec.ofNat 32 0 < 1#32 <<< hgN (BitVec.ofInt 32 3758096385) ∧ 1 ≤ 1000000000 := ⟨hg, ho, by rw [hH]; decide, by decide⟩
  have v1 : hgOK (BitVec.ofInt 32 3758096385) ∧ otOK (BitVec.ofInt 32 3) ∧ BitVec.ofNat 32 (0 + 1) < 1#32 <<< hgN (BitVec.ofInt 32 3758096385) ∧ 1 ≤ 1000000000 := ⟨hg, ho, by rw [hH]; decide, by decide⟩
  refine ⟨_, _, fun _ => none, hA, hK, by kernel_rfl, trivial, ?_⟩
  repeat ((conv => whnf); first | refine sdO ?_ | refine nlO ?_ | refine goA ?_ | refine goB ?_ | (apply Exists.intro; (repeat apply Exists.intro); refine caO ?_) | (refine Or.inl ?_; (conv => whnf); (repeat apply Exists.intro); refine caO ?_) | (refine Or.inr ?_; (conv => whnf); first | ((repeat apply Exists.intro); refine caO ?_) | (refine Or.inl ?_; (conv => whnf); (repeat apply Exists.intro); refine caO ?_) | (refine Or.inr ?_; (conv => whnf); (repeat apply Exists.intro); refine caO ?_)) | refine And.intro (by assumption) ?_ | refine goT ?_ | refine goF ?_ | refine goL ?_ | refine goR ?_ | refine goRL ?_ | refine goRR ?_)
  all_goals try (conv => whnf)
  decide
end Go.Proofs.YtnfebaialdfffaaDoor
