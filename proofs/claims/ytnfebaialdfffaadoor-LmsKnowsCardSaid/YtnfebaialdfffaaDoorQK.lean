/- lms: the laws' signers. -/
import Derived.Test.YtnfebaialdfffaaDoorQH
namespace Go.Proofs.YtnfebaialdfffaaDoor
open Go.RowKit
set_option maxRecDepth 100000
set_option maxHeartbeats 20000000
attribute [local irreducible] hsh rst sha256 press dig valN mash fold digs ch tw tp tlS cf ckN dgT pubE upTo sgV sigB mashD clE mixA clK pubK st1 at8 hgN w4 sib sgS gr2 rtEq pubS clM ndT
def lyK (h : BitVec 8) : Nat := 1 + (h % BitVec.ofInt 8 2).toNat
def lyA (h : BitVec 8) : BitVec 32 := BitVec.ofInt 32 3758096384 + BitVec.ofNat 32 (lyK h)
def lyO (t : BitVec 8) : BitVec 32 := asU32 (look [(0, .u32 (BitVec.ofInt 32 3)), (1, .u32 (BitVec.ofInt 32 3)), (2, .u32 (BitVec.ofInt 32 2))] (.u32 0) (t % BitVec.ofInt 8 3).toNat)
theorem lyK_cases (h : BitVec 8) : lyK h = 1 ∨ lyK h = 2 := by
  have : (h % BitVec.ofInt 8 2).toNat < 2 := by rw [BitVec.toNat_umod]; exact Nat.mod_lt _ (by decide)
  unfold lyK
  omega
theorem lyA_H (h : BitVec 8) : hgOK (lyA h) ∧ hgN (lyA h) = lyK h := by
  unfold lyA
  rcases lyK_cases h with e | e <;> rw [e] <;> (unfold hgOK hgN; decide)
theorem lyO_ok (t : BitVec 8) : otOK (lyO t) := by
  have h3 : (t % BitVec.ofInt 8 3).toNat < 3 := by rw [BitVec.toNat_umod]; exact Nat.mod_lt _ (by decide)
  unfold lyO
  rcases (show (t % BitVec.ofInt 8 3).toNat = 0 ∨ (t % BitVec.ofInt 8 3).toNat = 1 ∨ (t % BitVec.ofInt 8 3).toNat = 2 by omega) with e | e | e <;> rw [e] <;> (unfold otOK; decide)
theorem ly_sn (h t : BitVec 8) : snOK (lyA h) (lyO t) := ⟨lyO_ok t, (lyA_H h).1, by
  rw [(lyA_H h).2]
  rcases lyK_cases h with e | e <;> rw [e] <;> decide⟩
theorem own_ly {a b c : AV} (ha : Own a) (hb : Own b) (hc : Own c) : Own (tupOf [a, b, c]) := fun i hi => by
  rcases i with _ | _ | _ | i
  · exact ha
  · exact hb
  · exact hc
  · exact absurd hi (by show ¬ i + 3 < 3; omega)
end Go.Proofs.YtnfebaialdfffaaDoor
