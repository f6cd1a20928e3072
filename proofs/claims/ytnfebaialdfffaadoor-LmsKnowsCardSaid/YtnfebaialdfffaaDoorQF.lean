/- lms: what the bytes of a signature say when they are read; the root that they lead to. -/
import Derived.Test.YtnfebaialdfffaaDoorQD
namespace Go.Proofs.YtnfebaialdfffaaDoor
open Go.RowKit
set_option maxRecDepth 100000
set_option maxHeartbeats 20000000
section
attribute [local irreducible] hsh rst sha256 press
/-! ### Only sixteen bytes of an identifier are seen -/
theorem hd_id {id id' : Nat → BitVec 8} (h : ∀ j, j < 16 → id j = id' j) : hd id = hd id' := by
  funext q n
  unfold hd
  rw [lw_cong' h]
theorem st1_id {id id' : Nat → BitVec 8} (h : hd id = hd id') : st1 id = st1 id' := by
  funext q i j x
  unfold st1
  rw [h]
theorem ch_id {id id' : Nat → BitVec 8} (h : hd id = hd id') (q : BitVec 32) (i a : Nat) (x : Msg) : ∀ k, ch id q i a x k = ch id' q i a x k
  | 0 => rfl
  | k + 1 => by
    show st1 id q i (a + k) (ch id q i a x k) = st1 id' q i (a + k) (ch id' q i a x k)
    rw [st1_id h, ch_id h q i a x k]
theorem fold_id {id id' : Nat → BitVec 8} (h : hd id = hd id') : fold id = fold id' := by
  funext q n f
  unfold fold
  rw [h]
theorem mash_id {id id' : Nat → BitVec 8} (h : hd id = hd id') : mash id = mash id' := by
  funext q c m
  unfold mash
  rw [h]
theorem node_id {id id' : Nat → BitVec 8} (h : hd id = hd id') : node id = node id' := by
  funext r a b
  unfold node
  rw [h]
theorem leaf_id {id id' : Nat → BitVec 8} (h : hd id = hd id') : leaf id = leaf id' := by
  funext r k
  unfold leaf
  rw [h]
theorem clb_id {id id' : Nat → BitVec 8} (h : hd id = hd id') (r : BitVec 32) (x : Msg) (p : Nat → Nat → BitVec 8) : ∀ k, clb id r x p k = clb id' r x p k
  | 0 => by rw [clb_0, clb_0]
  | k + 1 => by
    by_cases e : rr r k % BitVec.ofInt 32 2 = BitVec.ofInt 32 1
    · rw [clb_a _ _ _ _ _ e, clb_a _ _ _ _ _ e, node_id h, clb_id h r x p k]
    · rw [clb_b _ _ _ _ _ e, clb_b _ _ _ _ _ e, node_id h, clb_id h r x p k]
theorem clb_p {id : Nat → BitVec 8} (r : BitVec 32) (x : Msg) {p p' : Nat → Nat → BitVec 8} : ∀ k, (∀ i, i < k → lw 32 (p i) = lw 32 (p' i)) → clb id r x p k = clb id r x p' k
  | 0, _ => by rw [clb_0, clb_0]
  | k + 1, hp => by
    by_cases e : rr r k % BitVec.ofInt 32 2 = BitVec.ofInt 32 1
    · rw [clb_a _ _ _ _ _ e, clb_a _ _ _ _ _ e, hp k (Nat.lt_succ_self k), clb_p r x k fun i hi => hp i (by omega)]
    · rw [clb_b _ _ _ _ _ e, clb_b _ _ _ _ _ e, hp k (Nat.lt_succ_self k), clb_p r x k fun i hi => hp i (by omega)]
theorem clK_id {id id' : Nat → BitVec 8} (h : hd id = hd id') (q t : BitVec 32) (D : Nat → BitVec 8) {v v' : Nat → Nat → BitVec 8} (hv : ∀ i, i < tp t → lw 32 (v i) = lw 32 (v' i)) : clK id q t D v = clK id' q t D v' := by
  unfold clK
  rw [fold_id h, fold_cong id' q (tp t) (clE id q t D v) (clE id' q t D v') fun i hi => ?_]
  unfold clE
  rw [ch_id h, hv i hi]
theorem mashD_id {id id' : Nat → BitVec 8} (h : hd id = hd id') (q : BitVec 32) {c c' : Nat → BitVec 8} (hc : ∀ j, j < 32 → c j = c' j) (l : Nat) (m : Nat → BitVec 8) : mashD id q c l m = mashD id' q c' l m := by
  unfold mashD
  rw [mash_id h, lw_cong' hc]
/-! ### Words that were put -/
theorem w4_put {g : Nat → BitVec 8} {v : BitVec 32} {o : Nat} {f : Nat → BitVec 8} (h : ∀ k, k < 4 → g (o + k) = put4 f o v (o + k)) : w4 (g (o + 0)) (g (o + 1)) (g (o + 2)) (g (o + 3)) = v := by
  have hh : ∀ k, k < 4 → g (o + k) = byt (v.setWidth 64) (3 - k) := fun k hk => by
    rw [h k hk, byt_q]
    unfold put4
    rcases k with _ | _ | _ | _ | k
    · rw [if_neg (by omega), if_neg (by omega), if_neg (by omega), if_pos rfl]
    · rw [if_neg (by omega), if_neg (by omega), if_pos rfl]
    · rw [if_neg (by omega), if_pos rfl]
    · rw [if_pos rfl]
      simp
    · omega
  rw [hh 0 (by decide), hh 1 (by decide), hh 2 (by decide), hh 3 (by decide)]
  exact w4_be v
variable {a b q : BitVec 32} {id seed c m x : Nat → BitVec 8} {nd : Nat → Nat → BitVec 8} {l : Nat}
theorem sgS_q : lfQ (sgS a b id seed nd q c l m) = q := by
  refine w4_put (o := 0) (f := fun _ => 0) fun k hk => ?_
  unfold sgS
  rw [if_pos (by omega)]
theorem sgS_one {j : Nat} (hj : j < 36 + 32 * tp b) : sgS a b id seed nd q c l m (4 + j) = sigA b id q seed c l m j := by
  unfold sgS
  rw [if_neg (by omega), if_pos (by omega), Nat.add_sub_cancel_left]
theorem sgS_t : sgT (sgS a b id seed nd q c l m) = b := by
  have h := sig_t b c (sgV b id q seed (mashD id q c l m))
  unfold sgT
  rw [show sgS a b id seed nd q c l m 4 = _ from sgS_one (j := 0) (by omega), show sgS a b id seed nd q c l m 5 = _ from sgS_one (j := 1) (by omega), show sgS a b id seed nd q c l m 6 = _ from sgS_one (j := 2) (by omega), show sgS a b id seed nd q c l m 7 = _ from sgS_one (j := 3) (by omega)]
  exact h
theorem sgS_tr : trT (sgS a b id seed nd q c l m) = a := by
  have hs := sgS_t (a := a) (b := b) (q := q) (id := id) (seed := seed) (c := c) (m := m) (nd := nd) (l := l)
  show w4 (reB _ (tp (sgT _)) 0) (reB _ (tp (sgT _)) 1) (reB _ (tp (sgT _)) 2) (reB _ (tp (sgT _)) 3) = a
  rw [hs]
  have e : ∀ k, 4 + (36 + 32 * tp b + k) = 40 + 32 * tp b + k := fun k => by omega
  show w4 (sgS a b id seed nd q c l m (4 + (36 + 32 * tp b + 0))) (sgS a b id seed nd q c l m (4 + (36 + 32 * tp b + 1))) (sgS a b id seed nd q c l m (4 + (36 + 32 * tp b + 2))) (sgS a b id seed nd q c l m (4 + (36 + 32 * tp b + 3))) = a
  rw [e, e, e, e]
  refine w4_put (o := 40 + 32 * tp b) (f := fun _ => 0) fun k hk => ?_
  unfold sgS
  rw [if_neg (by omega), if_neg (by omega), if_pos (by omega)]
theorem sgS_pa {i j : Nat} (hj : j < 32) : sgS a b id seed nd q c l m (4 + (36 + 32 * tp b + (4 + (32 * i + j)))) = nd (sib a q i) j := by
  unfold sgS
  rw [if_neg (by omega), if_neg (by omega), if_neg (by omega), show (4 + (36 + 32 * tp b + (4 + (32 * i + j))) - (44 + 32 * tp b)) / 32 = i by omega, show (4 + (36 + 32 * tp b + (4 + (32 * i + j))) - (44 + 32 * tp b)) % 32 = j by omega]
theorem q_shr (ha : hgOK a) (hq : q < 1#32 <<< hgN a) : q >>> hgN a = BitVec.ofInt 32 0 := by
  have hq' : q.toNat < 2 ^ hgN a := by rw [← lf_nat ha]; exact hq
  refine BitVec.eq_of_toNat_eq ?_
  rw [BitVec.toNat_ushiftRight, Nat.shiftRight_eq_div_pow, Nat.div_eq_of_lt hq']
  rfl
theorem sgS_ok (ha : hgOK a) (hb : otOK b) (hq : q < 1#32 <<< hgN a) : paE (44 + 32 * tp b + 32 * hgN a) (sgS a b id seed nd q c l m) = 0 := by
  unfold paE
  rw [sgS_t, sgS_tr, sgS_q, if_neg (by omega), if_neg (fun h => h hb), if_neg (by omega), if_neg (fun h => h ha), if_pos ⟨rfl, q_shr ha hq⟩]
/-! ### The public key's bytes -/
theorem pub_a : lfQ (pubS a b id x) = a := by
  refine w4_put (o := 0) (f := fun _ => 0) fun k hk => ?_
  unfold pubS
  rw [if_pos (by omega), put4_away _ _ _ (by omega)]
theorem pub_b : sgT (pubS a b id x) = b := by
  refine w4_put (g := pubS a b id x) (o := 4) (f := put4 (fun _ => 0) 0 a) fun k hk => ?_
  unfold pubS
  rw [if_pos (by omega)]
theorem pub_id {j : Nat} (hj : j < 16) : pubS a b id x (8 + j) = id j := by
  unfold pubS
  rw [if_neg (by omega), if_pos (by omega), Nat.add_sub_cancel_left]
theorem pub_x {j : Nat} : pubS a b id x (24 + j) = x j := by
  unfold pubS
  rw [if_neg (by omega), if_neg (by omega), Nat.add_sub_cancel_left]
theorem pub_ok (ha : hgOK a) (hb : otOK b) : pbOK (pubS a b id x) := by
  have h1 : w4 (pubS a b id x 4) (pubS a b id x 5) (pubS a b id x 6) (pubS a b id x 7) = b := pub_b
  have h2 : w4 (pubS a b id x 0) (pubS a b id x 1) (pubS a b id x 2) (pubS a b id x 3) = a := pub_a
  unfold pbOK
  rw [h1, h2]
  exact ⟨hb, ha⟩
theorem ro_ok (ha : hgOK a) (hb : otOK b) (hq : q < 1#32 <<< hgN a) : roE 56 (pubS a b id x) (44 + 32 * tp b + 32 * hgN a) (sgS a b id seed nd q c l m) = 0 := by
  unfold roE
  rw [if_neg (fun h => h rfl), if_neg (fun h => h (pub_ok ha hb)), sgS_ok ha hb hq, if_neg (fun h => h rfl), sgS_tr, pub_a, if_neg (fun h => h rfl), sgS_t, pub_b, if_neg (fun h => h rfl)]
/-- The key that a signature claims for another text. -/
def clM (b : BitVec 32) (id : Nat → BitVec 8) (q : BitVec 32) (seed c : Nat → BitVec 8) (l : Nat) (m : Nat → BitVec 8) (lm : Nat) (m' : Nat → BitVec 8) : Nat → BitVec 8 :=
  clK id q b (mashD id q c lm m') (sgV b id q seed (mashD id q c l m))
theorem ro_sig {lm : Nat} {m' : Nat → BitVec 8} : roV (pubS a b id x) lm m' (sgS a b id seed nd q c l m) = clb id (1#32 <<< hgN a + q) (leaf id (1#32 <<< hgN a + q) (lw 32 (clM b id q seed c l m lm m'))) (fun i => nd (sib a q i)) (hgN a) := by
  have hid : hd (fun j => pubS a b id x (8 + j)) = hd id := hd_id fun j hj => pub_id hj
  unfold roV
  rw [clb_id hid, leaf_id hid, pub_a, sgS_q, sgS_t, sgS_tr]
  have e1 : (wT fun j => sgS a b id seed nd q c l m (4 + j)) = b := by
    have := sgS_t (a := a) (b := b) (q := q) (id := id) (seed := seed) (c := c) (m := m) (nd := nd) (l := l)
    exact this
  rw [e1, mashD_id hid (c' := c) q (fun j hj => by
    rw [sgS_one (by omega)]
    exact sig_c b c _ j hj) lm m', clK_id hid q b _ (v' := sgV b id q seed (mashD id q c l m)) (fun i hi => lw_cong' fun j hj => by
    show sgS a b id seed nd q c l m (4 + (36 + 32 * i + j)) = _
    rw [sgS_one (by omega)]
    exact sig_v b c _ i j hj)]
  exact clb_p _ _ _ fun i _ => lw_cong' fun j hj => sgS_pa hj
/-- Of its own text it claims its key. -/
theorem clM_self (hb : otOK b) : clM b id q seed c l m l m = pubK b id q seed := by
  unfold clM clK pubK
  rw [fold_cong id q (tp b) _ _ fun i hi => cl_pub b hb id q seed (mashD id q c l m) _ i fun j _ => rfl]
theorem nd_gr {H : Nat} {i : Nat} (h : 0 < i) : gr2 b id seed H 0 i = ndT b id seed H i := gr2_y b id seed h
theorem sib_pos (ha : hgOK a) (hq : q < 1#32 <<< hgN a) {i : Nat} (hi : i < hgN a) : 0 < sib a q i := by
  have hl := lf_nat ha
  have hq' : q.toNat < 2 ^ hgN a := by rw [← hl]; exact hq
  have hp : 2 ^ hgN a ≤ 2 ^ 25 := Nat.pow_le_pow_right (by decide) (hg_facts ha).2
  have hr : (1#32 <<< hgN a + q).toNat = 2 ^ hgN a + q.toNat := by
    rw [BitVec.toNat_add, hl, Nat.mod_eq_of_lt (by omega)]
  unfold sib
  rw [BitVec.toNat_xor, rr_nat, hr]
  show 0 < (2 ^ hgN a + q.toNat) / 2 ^ i ^^^ 1
  have h2 : 2 ≤ (2 ^ hgN a + q.toNat) / 2 ^ i := by
    rw [Nat.le_div_iff_mul_le (Nat.two_pow_pos i)]
    have : 2 * 2 ^ i ≤ 2 ^ hgN a := by rw [← Nat.pow_succ']; exact Nat.pow_le_pow_right (by decide) hi
    omega
  generalize (2 ^ hgN a + q.toNat) / 2 ^ i = z at h2
  rcases Nat.mod_two_eq_zero_or_one z with e | e
  · obtain ⟨y, rfl⟩ : ∃ y, z = 2 * y := ⟨z / 2, by omega⟩
    rw [xor1_even]; omega
  · obtain ⟨y, rfl⟩ : ∃ y, z = 2 * y + 1 := ⟨z / 2, by omega⟩
    rw [xor1_odd]; omega
/-- The root that a signature of a tree's own leads to. -/
theorem ro_tree (ha : hgOK a) (hb : otOK b) (hq : q < 1#32 <<< hgN a) : roV (pubS a b id x) l m (sgS a b id seed (gr2 b id seed (hgN a) 0) q c l m) = lw 32 (ndT b id seed (hgN a) 1) := by
  rw [ro_sig, clM_self hb, ← clb_root ha hq]
  exact clb_p _ _ _ fun i hi => by rw [nd_gr (sib_pos ha hq hi)]
theorem rt_tree (ha : hgOK a) (hb : otOK b) (hq : q < 1#32 <<< hgN a) : rtEq (pubS a b id (gr2 b id seed (hgN a) 0 1)) l m (sgS a b id seed (gr2 b id seed (hgN a) 0) q c l m) := by
  unfold rtEq
  rw [ro_tree ha hb hq, lw_at8 _ _ (lw_len _ _)]
  exact lw_cong' fun j _ => by rw [pub_x, nd_gr (Nat.lt_succ_self 0)]
end
end Go.Proofs.YtnfebaialdfffaaDoor
