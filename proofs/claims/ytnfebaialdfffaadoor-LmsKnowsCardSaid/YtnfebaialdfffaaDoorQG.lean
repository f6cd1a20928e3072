/- lms: the example by numbers: a signature of one text is none of another one. -/
import Derived.Test.YtnfebaialdfffaaDoorQF
import Derived.Test.YtnfebaialdfffaaDoorO6
import Derived.Test.YtnfebaialdfffaaDoorF2
namespace Go.Proofs.YtnfebaialdfffaaDoor
open Go.RowKit
set_option maxRecDepth 100000
set_option maxHeartbeats 20000000
noncomputable def nstB (B i j X : Nat) : Nat := nsha 55 (Nat.add (Nat.mul (Nat.add (Nat.mul (Nat.add B i) 256) j) (Nat.pow 256 32)) X)
noncomputable def nchB (B i a X : Nat) : Nat → Nat := Nat.rec X (fun k H => nstB B i (Nat.add a k) H)
noncomputable def nfdF (f : Nat → Nat) : Nat → Nat := Nat.rec 0 (fun i A => Nat.add (Nat.mul A (Nat.pow 256 32)) (f i))
noncomputable def nfoB (B : Nat) (f : Nat → Nat) : Nat := nsha 2166 (Nat.add (Nat.mul (Nat.add B 32896) (Nat.pow (Nat.pow 256 32) 67)) (nfdF f 67))
noncomputable def nendB (B S i : Nat) : Nat := nchB B i 0 (nstB B i 255 S) 15
noncomputable def nclB (B S : Nat) (u v : List Nat) (i : Nat) : Nat := nchB B i (nth 0 u i) (nchB B i 0 (nstB B i 255 S) (nth 0 v i)) (Nat.sub 15 (nth 0 u i))
section
attribute [local irreducible] hsh rst sha256 press
theorem hd_nB (id : Nat → BitVec 8) (q : BitVec 32) (i : Nat) (hi : i < 65536) : nbs (hd id q i) = nbs (lw 16 id) * 281474976710656 + q.toNat * 65536 + i := by
  unfold hd
  rw [nbs_append, nbs_append, be_nbs _ _ (by decide), be_nbs _ _ (by decide), be_len, be_len, BitVec.toNat_ofNat]
  have hq := q.isLt
  rw [show (q.setWidth 64).toNat = q.toNat by rw [BitVec.toNat_setWidth, Nat.mod_eq_of_lt (by omega)]]
  show (nbs (lw 16 id) * 256 ^ 4 + q.toNat % 256 ^ 4) * 256 ^ 2 + i % 2 ^ 64 % 256 ^ 2 = _
  omega
theorem st1_nB {id : Nat → BitVec 8} {q : BitVec 32} {B : Nat} (hB : nbs (lw 16 id) * 281474976710656 + q.toNat * 65536 = B) (i j : Nat) (x : Msg) (hx : x.length = 32) (hi : i < 65536) (hj : j < 256) : nbs (st1 id q i j x) = nstB B i j (nbs x) := by
  have hl : (hd id q i ++ [BitVec.ofNat 8 j] ++ x).length = 55 := by rw [List.length_append, List.length_append, hd_len, hx]; rfl
  unfold st1
  rw [sha_nbs _ (by rw [hl]; decide), hl, nbs_append, nbs_append, hx, hd_nB id q i hi, hB]
  have e1 : nbs [BitVec.ofNat 8 j] = j := by
    rw [nbs_cons]
    show (BitVec.ofNat 8 j).toNat * 1 + 0 = j
    rw [BitVec.toNat_ofNat]; omega
  rw [e1]
  rfl
theorem ch_nB {id : Nat → BitVec 8} {q : BitVec 32} {B : Nat} (hB : nbs (lw 16 id) * 281474976710656 + q.toNat * 65536 = B) (i a : Nat) (x : Msg) (hx : x.length = 32) (hi : i < 65536) : ∀ k, a + k ≤ 256 → nbs (ch id q i a x k) = nchB B i a (nbs x) k
  | 0, _ => rfl
  | k + 1, h => by
    have ih := ch_nB hB i a x hx hi k (by omega)
    show nbs (st1 id q i (a + k) (ch id q i a x k)) = nstB B i (Nat.add a k) (nchB B i a (nbs x) k)
    rw [st1_nB hB i (a + k) _ (ch_len _ _ _ _ _ hx _) hi (by omega), ih]
    rfl
theorem dg_nB (g : Nat → Nat → BitVec 8) (f : Nat → Nat) : ∀ n, (∀ i, i < n → nbs (lw 32 (g i)) = f i) → nbs (digs n g) = nfdF f n
  | 0, _ => rfl
  | n + 1, h => by
    rw [digs_succ, nbs_append, lw_len, dg_nB g f n fun i hi => h i (by omega), h n (Nat.lt_succ_self n)]
    rfl
theorem fd_g {id : Nat → BitVec 8} {q : BitVec 32} {B : Nat} (hB : nbs (lw 16 id) * 281474976710656 + q.toNat * 65536 = B) (g : Nat → Nat → BitVec 8) (f : Nat → Nat) (n : Nat) (h : ∀ i, i < n → nbs (lw 32 (g i)) = f i) : nbs (hd id q 32896 ++ digs n g) = Nat.add (Nat.mul (Nat.add B 32896) (Nat.pow (Nat.pow 256 32) n)) (nfdF f n) := by
  rw [nbs_append, digs_len, hd_nB id q 32896 (by decide), hB, dg_nB g f n h, Nat.pow_mul]
  rfl
theorem fd_nB {id : Nat → BitVec 8} {q : BitVec 32} {B : Nat} (hB : nbs (lw 16 id) * 281474976710656 + q.toNat * 65536 = B) (g : Nat → Nat → BitVec 8) (f : Nat → Nat) (h : ∀ i, i < 67 → nbs (lw 32 (g i)) = f i) : nbs (fold id q 67 g) = nfoB B f := by
  have hl : (hd id q 32896 ++ digs 67 g).length = 2166 := by rw [List.length_append, hd_len, digs_len]
  unfold fold
  rw [sha_nbs _ (by rw [hl]; decide), hl, fd_g hB g f 67 h]
  rfl
theorem sha_l32 (m : Msg) : lw 32 (at8 (sha256 m)) = sha256 m := lw_at8 _ _ (sha256_len m)
theorem key_nB {id : Nat → BitVec 8} {q : BitVec 32} {B : Nat} (hB : nbs (lw 16 id) * 281474976710656 + q.toNat * 65536 = B) (seed : Nat → BitVec 8) {S : Nat} (hS : nbs (lw 32 seed) = S) : nbs (lw 32 (pubK 3#32 id q seed)) = nfoB B (nendB B S) := by
  unfold pubK
  show nbs (lw 32 (at8 (fold id q 67 (pubE id q 4 seed)))) = _
  rw [show lw 32 (at8 (fold id q 67 (pubE id q 4 seed))) = fold id q 67 (pubE id q 4 seed) from sha_l32 _]
  refine fd_nB hB _ _ fun i hi => ?_
  unfold pubE
  rw [lw_at8 _ _ (ch_len _ _ _ _ _ (st1_len _ _ _ _ _) _)]
  show nbs (ch id q i 0 (st1 id q i 255 (lw 32 seed)) 15) = _
  rw [ch_nB hB i 0 _ (st1_len _ _ _ _ _) (by omega) 15 (by decide), st1_nB hB i 255 _ (lw_len _ _) (by omega) (by decide), hS]
  rfl
theorem cl_nB {id : Nat → BitVec 8} {q : BitVec 32} {B : Nat} (hB : nbs (lw 16 id) * 281474976710656 + q.toNat * 65536 = B) (seed : Nat → BitVec 8) {S : Nat} (hS : nbs (lw 32 seed) = S) (D E : Nat → BitVec 8) (u v : List Nat) (hu : ∀ i, i < 67 → dgT 3#32 D i = nth 0 u i) (hv : ∀ i, i < 67 → dgT 3#32 E i = nth 0 v i) :
    nbs (lw 32 (clK id q 3#32 D (sgV 3#32 id q seed E))) = nfoB B (nclB B S u v) := by
  have ho : otOK 3#32 := by unfold otOK; decide
  unfold clK
  show nbs (lw 32 (at8 (fold id q 67 (clE id q 3#32 D (sgV 3#32 id q seed E))))) = _
  rw [show lw 32 (at8 (fold id q 67 (clE id q 3#32 D (sgV 3#32 id q seed E)))) = fold id q 67 (clE id q 3#32 D (sgV 3#32 id q seed E)) from sha_l32 _]
  refine fd_nB hB _ _ fun i hi => ?_
  have b1 : dgT 3#32 D i ≤ 15 := (dgT_le 3#32 ho D i).1
  have b2 : dgT 3#32 E i ≤ 15 := (dgT_le 3#32 ho E i).1
  unfold clE sgV
  rw [lw_at8 _ 32 (ch_len id q i 0 _ (st1_len _ _ _ _ _) _), lw_at8 _ _ (ch_len _ _ _ _ _ (ch_len _ _ _ _ _ (st1_len _ _ _ _ _) _) _)]
  show nbs (ch id q i (dgT 3#32 D i) (ch id q i 0 (st1 id q i 255 (lw 32 seed)) (dgT 3#32 E i)) (15 - dgT 3#32 D i)) = _
  rw [ch_nB hB i (dgT 3#32 D i) _ (ch_len _ _ _ _ _ (st1_len _ _ _ _ _) _) (by omega) _ (by omega), ch_nB hB i 0 _ (st1_len _ _ _ _ _) (by omega) _ (by omega), st1_nB hB i 255 _ (lw_len _ _) (by omega) (by decide), hS, hu i hi, hv i hi]
  rfl
theorem leaf_nB {id : Nat → BitVec 8} {r : BitVec 32} {B : Nat} (hB : nbs (lw 16 id) * 281474976710656 + r.toNat * 65536 = B) (k : Msg) (hk : k.length = 32) : nbs (leaf id r k) = nsha 54 (Nat.add (Nat.mul (Nat.add B 33410) (Nat.pow 256 32)) (nbs k)) := by
  have hl : (hd id r 33410 ++ k).length = 54 := by rw [List.length_append, hd_len, hk]
  unfold leaf
  rw [sha_nbs _ (by rw [hl]; decide), hl, nbs_append, hk, hd_nB id r 33410 (by decide), hB]
  rfl
theorem node_nB {id : Nat → BitVec 8} {r : BitVec 32} {B : Nat} (hB : nbs (lw 16 id) * 281474976710656 + r.toNat * 65536 = B) (x y : Msg) (hx : x.length = 32) (hy : y.length = 32) : nbs (node id r x y) = nsha 86 (Nat.add (Nat.mul (Nat.add (Nat.mul (Nat.add B 33667) (Nat.pow 256 32)) (nbs x)) (Nat.pow 256 32)) (nbs y)) := by
  have hl : (hd id r 33667 ++ x ++ y).length = 86 := by rw [List.length_append, List.length_append, hd_len, hx, hy]
  unfold node
  rw [sha_nbs _ (by rw [hl]; decide), hl, nbs_append, nbs_append, hx, hy, hd_nB id r 33667 (by decide), hB]
  rfl
end
theorem dA : Nat.beq (nsha 55 99816108988349334944822910629151013323711734716454812512791088392726507097520257069600707168015879627375531148698704931708194521185) 35565825316314147342097521830790458367854421712729281689345132743637646286259 = true := by decide +kernel
theorem dB : Nat.beq (nsha 55 99816108988349334944822910629151013323711734716454812512791088392726507097520257069600707168015879627375531148698704931708194521186) 74321097347103787011108295394057822896803120951081462080696267838158197596907 = true := by decide +kernel
def lA : List Nat := [4, 14, 10, 1, 8, 11, 3, 4, 2, 12, 14, 11, 7, 15, 2, 13, 4, 15, 11, 13, 15, 2, 5, 2, 7, 12, 12, 11, 7, 11, 6, 9, 5, 8, 1, 9, 11, 1, 5, 12, 9, 11, 2, 5, 13, 10, 9, 0, 6, 4, 12, 4, 5, 5, 6, 5, 11, 11, 7, 13, 9, 13, 11, 3, 1, 12, 3]
def lB : List Nat := [10, 4, 5, 0, 4, 0, 1, 10, 0, 14, 10, 2, 0, 3, 7, 13, 15, 10, 2, 12, 13, 14, 3, 14, 15, 10, 10, 7, 4, 14, 12, 1, 14, 1, 12, 15, 10, 3, 10, 3, 4, 2, 12, 13, 15, 2, 15, 1, 2, 15, 7, 11, 14, 0, 13, 9, 2, 4, 8, 9, 10, 2, 14, 11, 1, 12, 10]
theorem gA : ∀ i, i < 67 → dgT 3#32 (at8 (byN 32 35565825316314147342097521830790458367854421712729281689345132743637646286259)) i = nth 0 lA i := by decide +kernel
theorem gB : ∀ i, i < 67 → dgT 3#32 (at8 (byN 32 74321097347103787011108295394057822896803120951081462080696267838158197596907)) i = nth 0 lB i := by decide +kernel
theorem kA : Nat.beq (nfoB 3367299772410400323541289854578316077287268579016704 (nendB 3367299772410400323541289854578316077287268579016704 452312848583266388373324160190187140051835877600158453279131187530910662656)) 11151918626334902023451868100243377019279054673825380846584311401555024936722 = true := by decide +kernel
theorem kB : Nat.beq (nfoB 3367299772410400323541289854578316077287268579082240 (nendB 3367299772410400323541289854578316077287268579082240 452312848583266388373324160190187140051835877600158453279131187530910662656)) 95758510889725395401743461543189492226965819919065467601467707756969263969617 = true := by decide +kernel
theorem kC : Nat.beq (nfoB 3367299772410400323541289854578316077287268579082240 (nclB 3367299772410400323541289854578316077287268579082240 452312848583266388373324160190187140051835877600158453279131187530910662656 lA lB)) 79979948362487476648246284576668030838192662465047185940863818887185847081279 = true := by decide +kernel
theorem fA : Nat.beq (nsha 54 (Nat.add (Nat.mul (Nat.add 3367299772410400323541289854578316077287268579147776 33410) (Nat.pow 256 32)) 11151918626334902023451868100243377019279054673825380846584311401555024936722)) 3286757031305648817487373471089000148344800980706227639007472113496128276608 = true := by decide +kernel
theorem fB : Nat.beq (nsha 54 (Nat.add (Nat.mul (Nat.add 3367299772410400323541289854578316077287268579213312 33410) (Nat.pow 256 32)) 95758510889725395401743461543189492226965819919065467601467707756969263969617)) 106024502437388962684701854921148278755204158072574375386759158145382570383665 = true := by decide +kernel
theorem fC : Nat.beq (nsha 54 (Nat.add (Nat.mul (Nat.add 3367299772410400323541289854578316077287268579213312 33410) (Nat.pow 256 32)) 79979948362487476648246284576668030838192662465047185940863818887185847081279)) 18757771660522844147024889560237470271809005705897073540813535832754130402148 = true := by decide +kernel
theorem rNe : Nat.beq (nsha 86 (Nat.add (Nat.mul (Nat.add (Nat.mul (Nat.add 3367299772410400323541289854578316077287268579082240 33667) (Nat.pow 256 32)) 3286757031305648817487373471089000148344800980706227639007472113496128276608) (Nat.pow 256 32)) 106024502437388962684701854921148278755204158072574375386759158145382570383665)) (nsha 86 (Nat.add (Nat.mul (Nat.add (Nat.mul (Nat.add 3367299772410400323541289854578316077287268579082240 33667) (Nat.pow 256 32)) 3286757031305648817487373471089000148344800980706227639007472113496128276608) (Nat.pow 256 32)) 18757771660522844147024889560237470271809005705897073540813535832754130402148)) = false := by decide +kernel
theorem ne_of_nbeq {x y : Nat} (h : Nat.beq x y = false) : ¬ x = y := fun e => by
  rw [e, Nat.beq_refl] at h
  cases h
theorem byN_of {m : Msg} {L N : Nat} (hl : m.length = 55) (hn : nbs m = L) (h : Nat.beq (nsha 55 L) N = true) : at8 (sha256 m) = at8 (byN 32 N) := by
  rw [sha_byN _ (by rw [hl]; decide), hl, hn, Nat.eq_of_beq_eq_true h]
theorem ma_nB {id c m : Nat → BitVec 8} {q : BitVec 32} {B : Nat} (hB : nbs (lw 16 id) * 281474976710656 + q.toNat * 65536 = B) (hc : nbs (lw 32 c) = 0) {v : Nat} (hm : nbs (lw 1 m) = v) : nbs (hd id q 33153 ++ lw 32 c ++ lw 1 m) = (B + 33153) * 256 ^ 33 + v := by
  rw [nbs_append, nbs_append, hd_nB id q 33153 (by decide), hB, hc, hm, lw_len, lw_len]
  omega
theorem ma_len {id c m : Nat → BitVec 8} {q : BitVec 32} : (hd id q 33153 ++ lw 32 c ++ lw 1 m).length = 55 := by rw [List.length_append, List.length_append, hd_len, lw_len, lw_len]
section
attribute [local irreducible] hsh rst sha256 press nfoB nclB nendB nstB nchB nfdF
/-- The example: the second text's signature is none of the first text. -/
theorem aw_ne {id seed c ma mb : Nat → BitVec 8} (hid : nbs (lw 16 id) = 11963051962064242856134263542523101184) (hs : nbs (lw 32 seed) = 452312848583266388373324160190187140051835877600158453279131187530910662656) (hc : nbs (lw 32 c) = 0) (ha : nbs (lw 1 ma) = 97) (hb : nbs (lw 1 mb) = 98) :
    ¬ rtEq (pubS 3758096385#32 3#32 id (gr2 3#32 id seed (hgN 3758096385#32) 0 1)) 1 ma (sgS 3758096385#32 3#32 id seed (gr2 3#32 id seed (hgN 3758096385#32) 0) 1#32 c 1 mb) := by
  intro h
  have hH : hgN 3758096385#32 = 1 := by decide
  rw [hH] at h
  unfold rtEq at h
  rw [ro_sig, hH] at h
  have hB0 : nbs (lw 16 id) * 281474976710656 + (BitVec.ofNat 32 0).toNat * 65536 = 3367299772410400323541289854578316077287268579016704 := by rw [hid]; rfl
  have hB1 : nbs (lw 16 id) * 281474976710656 + (BitVec.ofNat 32 1).toNat * 65536 = 3367299772410400323541289854578316077287268579082240 := by rw [hid]; rfl
  have hB2 : nbs (lw 16 id) * 281474976710656 + (BitVec.ofNat 32 2).toNat * 65536 = 3367299772410400323541289854578316077287268579147776 := by rw [hid]; rfl
  have hB3 : nbs (lw 16 id) * 281474976710656 + (BitVec.ofNat 32 3).toNat * 65536 = 3367299772410400323541289854578316077287268579213312 := by rw [hid]; rfl
  have e0 : lw 32 (fun j => pubS 3758096385#32 3#32 id (gr2 3#32 id seed 1 0 1) (24 + j)) = node id (BitVec.ofNat 32 1) (leaf id (BitVec.ofNat 32 2) (lw 32 (pubK 3#32 id (BitVec.ofNat 32 0) seed))) (leaf id (BitVec.ofNat 32 3) (lw 32 (pubK 3#32 id (BitVec.ofNat 32 1) seed))) := by
    rw [lw_cong' fun j _ => (pub_x : pubS 3758096385#32 3#32 id (gr2 3#32 id seed 1 0 1) (24 + j) = _), nd_gr (Nat.lt_succ_self 0), ndT_node 3#32 id seed (H := 1) (r := 1) (by decide) (by decide)]
    rw [ndT_leaf 3#32 id seed (H := 1) (k := 0) (by decide), ndT_leaf 3#32 id seed (H := 1) (k := 1) (by decide)]
    rw [lw_at8 _ _ (leaf_len _ _ _), lw_at8 _ _ (leaf_len _ _ _), lw_at8 _ _ (node_len _ _ _ _)]
  have e1 : clb id (1#32 <<< 1 + 1#32) (leaf id (1#32 <<< 1 + 1#32) (lw 32 (clM 3#32 id 1#32 seed c 1 mb 1 ma))) (fun i => gr2 3#32 id seed 1 0 (sib 3758096385#32 1#32 i)) 1 = node id (BitVec.ofNat 32 1) (leaf id (BitVec.ofNat 32 2) (lw 32 (pubK 3#32 id (BitVec.ofNat 32 0) seed))) (leaf id (BitVec.ofNat 32 3) (lw 32 (clM 3#32 id 1#32 seed c 1 mb 1 ma))) := by
    have hsb : sib 3758096385#32 1#32 0 = 2 := by unfold sib; rw [hH]; decide
    have hr : rr (1#32 <<< 1 + 1#32) 0 % BitVec.ofInt 32 2 = BitVec.ofInt 32 1 := by decide
    rw [clb_a _ _ _ _ _ hr, clb_0]
    show node id (rr (1#32 <<< 1 + 1#32) 0 / BitVec.ofInt 32 2) (lw 32 (gr2 3#32 id seed 1 0 (sib 3758096385#32 1#32 0))) _ = _
    rw [hsb, nd_gr (by decide : 0 < 2), show (2 : Nat) = 2 ^ 1 + 0 by decide, ndT_leaf 3#32 id seed (H := 1) (k := 0) (by decide), lw_at8 _ _ (leaf_len _ _ _)]
    rfl
  rw [e0, e1, lw_at8 _ _ (node_len _ _ _ _)] at h
  have hD : mashD id 1#32 c 1 ma = at8 (byN 32 35565825316314147342097521830790458367854421712729281689345132743637646286259) := byN_of ma_len (ma_nB hB1 hc ha) dA
  have hE : mashD id 1#32 c 1 mb = at8 (byN 32 74321097347103787011108295394057822896803120951081462080696267838158197596907) := byN_of ma_len (ma_nB hB1 hc hb) dB
  have h := congrArg nbs h
  have c1 : nbs (lw 32 (clM 3#32 id 1#32 seed c 1 mb 1 ma)) = 79979948362487476648246284576668030838192662465047185940863818887185847081279 := by
    unfold clM
    rw [hD, hE]
    exact (cl_nB hB1 seed hs _ _ lA lB gA gB).trans (Nat.eq_of_beq_eq_true kC)
  have c2 : nbs (lw 32 (pubK 3#32 id (BitVec.ofNat 32 0) seed)) = 11151918626334902023451868100243377019279054673825380846584311401555024936722 := (key_nB hB0 seed hs).trans (Nat.eq_of_beq_eq_true kA)
  have c3 : nbs (lw 32 (pubK 3#32 id (BitVec.ofNat 32 1) seed)) = 95758510889725395401743461543189492226965819919065467601467707756969263969617 := (key_nB hB1 seed hs).trans (Nat.eq_of_beq_eq_true kB)
  rw [node_nB hB1 _ _ (leaf_len _ _ _) (leaf_len _ _ _), node_nB hB1 _ _ (leaf_len _ _ _) (leaf_len _ _ _), leaf_nB hB2 _ (lw_len _ _), leaf_nB hB3 _ (lw_len _ _), leaf_nB hB3 _ (lw_len _ _), c1, c2, c3, Nat.eq_of_beq_eq_true fA, Nat.eq_of_beq_eq_true fB, Nat.eq_of_beq_eq_true fC] at h
  exact ne_of_nbeq rNe h
end
end Go.Proofs.YtnfebaialdfffaaDoor
