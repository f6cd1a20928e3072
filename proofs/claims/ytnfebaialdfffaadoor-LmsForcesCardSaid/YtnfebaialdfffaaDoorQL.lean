/- lms: the laws' signers. -/
import Derived.Test.YtnfebaialdfffaaDoorQH
import Derived.Test.YtnfebaialdfffaaDoorQ7
namespace Go.Proofs.YtnfebaialdfffaaDoor
open Go.RowKit
set_option maxRecDepth 100000
set_option maxHeartbeats 20000000
attribute [local irreducible] hsh rst sha256 press dig valN mash fold digs ch tw tp tlS cf ckN dgT pubE upTo sgV sigB mashD clE mixA clK pubK st1 at8 hgN w4 sib sgS gr2 rtEq pubS clM ndT
def lyK (h : BitVec 8) : Nat := 1 + (h % BitVec.ofInt 8 2).toNat
def lyA (h : BitVec 8) : BitVec 32 := BitVec.ofInt 32 3758096384 + BitVec.ofNat 32 (lyK h)
def lyO (t : BitVec 8) : BitVec 32 := asU32 (look [(0, .u32 (BitVec.ofInt 32 3)), (1, .u32 (BitVec.ofInt 32 3)), (2, .u32 (BitVec.ofInt 32 2))] (.u32 0) (t % BitVec.ofInt 8 3).toNat)
theorem lyK_cases (h : BitVec 8) : lyK h = 1 ∨ lyK h = 2 := by
  have : (h % BitVec.ofInt 8 2).toNat < 2 := by rw [BitVec.toNat_umod]; exact Nat.mod_lt _ (by decide)
  unfold lyK
  omega
theorem lyA_H (h : BitVec 8) : hgOK (lyA h) ∧ hgN (lyA h) = lyK h := by
  unfold lyA
  rcases lyK_cases h with e | e <;> rw [e] <;> (unfold hgOK hgN; decide)
theorem lyO_ok (t : BitVec 8) : otOK (lyO t) := by
  have h3 : (t % BitVec.ofInt 8 3).toNat < 3 := by rw [BitVec.toNat_umod]; exact Nat.mod_lt _ (by decide)
  unfold lyO
  rcases (show (t % BitVec.ofInt 8 3).toNat = 0 ∨ (t % BitVec.ofInt 8 3).toNat = 1 ∨ (t % BitVec.ofInt 8 3).toNat = 2 by omega) with e | e | e <;> rw [e] <;> (unfold otOK; decide)
theorem ly_sn (h t : BitVec 8) : snOK (lyA h) (lyO t) := ⟨lyO_ok t, (lyA_H h).1, by
  rw [(lyA_H h).2]
  rcases lyK_cases h with e | e <;> rw [e] <;> decide⟩
def C_l6_lay : SpecR := fun A K => ∃ h t id seed, A [.u8 h, .u8 t, arr8 16 id, arr8 32 seed] ∧ K (tupOf [.ptr TSn 8 [], .nat (lyK h), .u32 (lyO t)])
  [(8, snR (lyA h) (lyO t) id seed (.gsl 23 9 (2 * 2 ^ hgN (lyA h))) (.cmt 10)), (9, .grow 23 (2 * 2 ^ hgN (lyA h)) (dgA (gr2 (lyO t) id seed (hgN (lyA h)) 0))), (10, .ob (.cnt 0))]
theorem own_ly {a b c : AV} (ha : Own a) (hb : Own b) (hc : Own c) : Own (tupOf [a, b, c]) := fun i hi => by
  rcases i with _ | _ | _ | i
  · exact ha
  · exact hb
  · exact hc
  · exact absurd hi (by show ¬ i + 3 < 3; omega)
theorem g_l6_lay : Gd 6 (pureR ty C_l6_lay) := by
  refine goodR (E := PG [(21, pureR ty C_sn_New)]) (pgOK ⟨g_sn_New, trivial⟩) mixes Tryd.func6 (by kernel_rfl) (by kernel_rfl) ?_
  rintro A K ⟨h, t, id, seed, hA, hK⟩
  have hs : snOK (BitVec.ofInt 32 3758096384 + BitVec.ofNat 32 (1 + (h % BitVec.ofInt 8 2).toNat)) (asU32 (look [(0, .u32 (BitVec.ofInt 32 3)), (1, .u32 (BitVec.ofInt 32 3)), (2, .u32 (BitVec.ofInt 32 2))] (.u32 0) (t % BitVec.ofInt 8 3).toNat)) := ly_sn h t
  have h3 : (t % BitVec.ofInt 8 3).toNat < 3 := by rw [BitVec.toNat_umod]; exact Nat.mod_lt _ (by decide)
  refine ⟨_, _, _, fun _ => none, hA, hK, by kernel_rfl, by kernel_rfl, ⟨own_sn (lyA h) (lyO t) id seed (.gsl 23 9 (2 * 2 ^ hgN (lyA h))) trivial 10, fun _ _ _ _ => trivial, rfl, trivial⟩, own_ly trivial trivial trivial, ?_⟩
  repeat ((conv => whnf); first | refine sdO ?_ | refine nlO ?_ | refine goA ?_ | refine goB ?_ | (apply Exists.intro; (repeat apply Exists.intro); refine caO ?_) | (refine Or.inl ?_; (conv => whnf); (repeat apply Exists.intro); refine caO ?_) | (refine Or.inr ?_; (conv => whnf); first | ((repeat apply Exists.intro); refine caO ?_) | (refine Or.inl ?_; (conv => whnf); (repeat apply Exists.intro); refine caO ?_) | (refine Or.inr ?_; (conv => whnf); (repeat apply Exists.intro); refine caO ?_)) | refine And.intro (by assumption) ?_ | refine goT ?_ | refine goF ?_ | refine goL ?_ | refine goR ?_ | refine goRL ?_ | refine goRR ?_)
  all_goals try (conv => whnf)
  (refine out_fnd ?_; (repeat' ((conv => whnf) <;> first | exact trivial | (with_reducible first | refine And.intro ?_ ?_ | refine rows_lt1 ?_ | refine rows_lt2 ?_ ?_ | refine rows_lt3 ?_ ?_ ?_ | refine rows_lt4 ?_ ?_ ?_ ?_ | refine rows_lt5 ?_ ?_ ?_ ?_ ?_ | refine aggs_lt1 ?_ | refine aggs_lt2 ?_ ?_ | refine aggs_lt3 ?_ ?_ ?_ | refine fun (_ : Nat) => ?_) | refine fun (_ : (_ : Nat) < _) => ?_ | exact rfl | exact Nat.le_of_ble_eq_true rfl | (change (_ : Nat) ≤ _; omega) | (change (_ : Nat) = _; omega) | (change (_ : Int) = _; omega))); (all_goals try (conv => whnf)))
end Go.Proofs.YtnfebaialdfffaaDoor
/- lms: roots of any bytes, as the reference tells them. -/
namespace Go.Proofs.YtnfebaialdfffaaDoor
open Go.RowKit
set_option maxRecDepth 100000
set_option maxHeartbeats 20000000
/-! ### The reference's parts, whole -/
theorem good_orM {P : Program} {ty : TypeId → Ty} {gl : Nat → AV} {f : FuncId} {C1 C2 D C10 C20 D0 : Ctr} [h1 : Told C1 C10] [h2 : Told C2 C20] [hD : Told D D0] (g1 : Good P ty gl f C1) (g2 : Good P ty gl f C2) (h : ∀ args m key K, D0 args m key K → C10 args m key K ∨ C20 args m key K) : Good P ty gl f D := good_orQ g1 g2 h
def C_r6_PartsX : SpecM := fun A K => ∃ l b, A [.gsl 5 0 l] [(0, .grow 5 l (bys b))] ∧ l ≤ 100000 ∧ ((¬ paE l b = 0 ∧ K (tupOf [sgZ, .nat (paE l b)]) [(0, .grow 5 l (bys b))]) ∨
  (paE l b = 0 ∧ K (tupOf [sgA (lfQ b) (trT b) (.gsub 5 0 l 4 (36 + 32 * tp (sgT b))) (.gsl 23 8 (hgN (trT b))), .nat 0]) [(0, .grow 5 l (bys b)), (8, .grow 23 (hgN (trT b)) (fun i => arr8 32 (paP b i)))]))
theorem g_r6_PartsX : Gd 16 (mutD ty [true] C_r6_PartsX) := good_orM g_r6_PartsE g_r6_PartsO fun args m key K ⟨l, b, hA, hl, h⟩ => by
  rcases h with ⟨h, hK⟩ | ⟨h, hK⟩
  · exact Or.inl ⟨l, b, hA, hl, h, hK⟩
  · exact Or.inr ⟨l, b, hA, hl, h, hK⟩
section
attribute [local irreducible] hsh rst sha256 press
variable {a b : BitVec 32} {id x s m : Nat → BitVec 8} {L lm : Nat}
theorem roE_e (ha : hgOK a) (hb : otOK b) (h : ¬ paE L s = 0) : roE 56 (pubS a b id x) L s = paE L s := by
  unfold roE
  rw [if_neg (fun q => q rfl), if_neg (fun q => q (pub_ok ha hb)), if_pos h]
theorem roE_t (ha : hgOK a) (hb : otOK b) (h : paE L s = 0) (ht : ¬ trT s = a) : roE 56 (pubS a b id x) L s = 6 := by
  unfold roE
  rw [if_neg (fun q => q rfl), if_neg (fun q => q (pub_ok ha hb)), if_neg (fun q => q h), pub_a, if_pos ht]
theorem roE_s (ha : hgOK a) (hb : otOK b) (h : paE L s = 0) (ht : trT s = a) (hs : ¬ sgT s = b) : roE 56 (pubS a b id x) L s = 6 := by
  unfold roE
  rw [if_neg (fun q => q rfl), if_neg (fun q => q (pub_ok ha hb)), if_neg (fun q => q h), pub_a, if_neg (fun q => q ht), pub_b, if_pos hs]
theorem roE_k (ha : hgOK a) (hb : otOK b) (h : paE L s = 0) (ht : trT s = a) (hs : sgT s = b) : roE 56 (pubS a b id x) L s = 0 := by
  unfold roE
  rw [if_neg (fun q => q rfl), if_neg (fun q => q (pub_ok ha hb)), if_neg (fun q => q h), pub_a, if_neg (fun q => q ht), pub_b, if_neg (fun q => q hs)]
/-- The root by the reference's way. -/
def refR (id : Nat → BitVec 8) (lm : Nat) (m s : Nat → BitVec 8) : Msg :=
  clb id (lfQ s + 1#32 <<< hgN (trT s)) (leaf id (lfQ s + 1#32 <<< hgN (trT s)) (lw 32 (clK id (lfQ s) (wT fun j => s (4 + j)) (mashD id (lfQ s) (fun j => s (4 + (4 + j))) lm m) (splO fun j => s (4 + j))))) (paP s) (hgN (trT s))
theorem ro_ref (ht : trT s = a) : roV (pubS a b id x) lm m s = refR id lm m s := by
  have hid : hd (fun j => pubS a b id x (8 + j)) = hd id := hd_id fun j hj => pub_id hj
  unfold roV refR
  rw [clb_id hid, leaf_id hid, pub_a, ht, mashD_id hid (c' := fun j => s (4 + (4 + j))) (lfQ s) (fun j _ => rfl) lm m, clK_id hid (lfQ s) _ _ (v' := splO fun j => s (4 + j)) (fun i _ => rfl), BitVec.add_comm]
theorem rt_ref (ht : trT s = a) : rtEq (pubS a b id x) lm m s ↔ lw 32 (at8 (refR id lm m s)) = lw 32 x := by
  unfold rtEq
  rw [ro_ref ht, lw_cong' fun j (_ : j < 32) => (pub_x : pubS a b id x (24 + j) = x j)]
  exact eq_comm
end
end Go.Proofs.YtnfebaialdfffaaDoor
