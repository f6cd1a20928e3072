/- AES: blocks encrypted and decrypted; that each undoes the other. -/
import Derived.Test.YtobilidppfmdkaaA4
namespace Go.Proofs.Ytobilidppfmdkaa
open Go.RowKit
set_option maxRecDepth 100000
set_option maxHeartbeats 20000000
/-! ### Mathematics -/
def q16 (f g : Nat → BitVec 8) : Prop := ∀ j, j < 16 → f j = g j
theorem q16_rfl (f : Nat → BitVec 8) : q16 f f := fun _ _ => rfl
theorem q16_symm {f g : Nat → BitVec 8} (h : q16 f g) : q16 g f := fun j hj => (h j hj).symm
theorem q16_trans {f g h : Nat → BitVec 8} (h1 : q16 f g) (h2 : q16 g h) : q16 f h := fun j hj => (h1 j hj).trans (h2 j hj)
theorem mkB_c {w : Nat → BitVec 32} {r : Nat} {f g : Nat → BitVec 8} (h : q16 f g) : q16 (mkB w r f) (mkB w r g) := fun j hj => by unfold mkB; rw [h j hj]
theorem shB_c {n : Nat} {f g : Nat → BitVec 8} (h : q16 f g) : q16 (shB n f) (shB n g) := fun _ _ => h _ (Nat.mod_lt _ (by omega))
theorem suB_c {T : Nat → BitVec 8} {f g : Nat → BitVec 8} (h : q16 f g) : q16 (suB T f) (suB T g) := fun j hj => by unfold suB; rw [h j hj]
theorem miB_eq (g f : Nat → BitVec 8) (i : Nat) : miB g f i = gm (g 0) (f (4 * (i / 4) + (i % 4 + 0) % 4)) ^^^ gm (g 1) (f (4 * (i / 4) + (i % 4 + 1) % 4)) ^^^ gm (g 2) (f (4 * (i / 4) + (i % 4 + 2) % 4)) ^^^ gm (g 3) (f (4 * (i / 4) + (i % 4 + 3) % 4)) := by
  unfold miB
  rw [mx, mx, mx, mx, mx, show (0 : BitVec 8) = 0#8 from rfl, BitVec.zero_xor]
theorem miB_c {g g' f f' : Nat → BitVec 8} (hg : ∀ k, k < 4 → g k = g' k) (h : q16 f f') : q16 (miB g f) (miB g' f') := fun j hj => by
  rw [miB_eq, miB_eq, hg 0 (by omega), hg 1 (by omega), hg 2 (by omega), hg 3 (by omega), h _ (by omega), h _ (by omega), h _ (by omega), h _ (by omega)]
def gE : Nat → BitVec 8 := nth 0 [2#8, 3#8, 1#8, 1#8]
def gD : Nat → BitVec 8 := nth 0 [14#8, 11#8, 13#8, 9#8]
theorem mkB_mkB (w : Nat → BitVec 32) (r : Nat) (f : Nat → BitVec 8) : q16 (mkB w r (mkB w r f)) f := fun j _ => by
  unfold mkB; rw [BitVec.xor_assoc, BitVec.xor_self, BitVec.xor_zero]
theorem suB_is (f : Nat → BitVec 8) : q16 (suB isN (suB sbN f)) f := fun j _ => by
  unfold suB; rw [isN_toNat, sbN_toNat, isx_sbx]
theorem suB_si (f : Nat → BitVec 8) : q16 (suB sbN (suB isN f)) f := fun j _ => by
  unfold suB; rw [isN_toNat, sbN_toNat, sbx_isx]
theorem shB_31 (f : Nat → BitVec 8) : q16 (shB 3 (shB 1 f)) f := fun j hj => by
  unfold shB
  congr 1
  omega
theorem shB_13 (f : Nat → BitVec 8) : q16 (shB 1 (shB 3 f)) f := fun j hj => by
  unfold shB
  congr 1
  omega
theorem gm_xor' (a b c : BitVec 8) : gm (a ^^^ b) c = gm a c ^^^ gm b c := by rw [gm_comm, gm_xor, gm_comm c a, gm_comm c b]
theorem one_gm (a : BitVec 8) : gm 1#8 a = a := by rw [gm_comm, gm_one]
/-- Four numbers by a matrix and by its inverse. -/
theorem mi_col (p0 p1 p2 p3 q0 q1 q2 q3 a b c d : BitVec 8)
    (h0 : gm q0 p0 ^^^ gm q1 p3 ^^^ gm q2 p2 ^^^ gm q3 p1 = 1#8) (h1 : gm q0 p1 ^^^ gm q1 p0 ^^^ gm q2 p3 ^^^ gm q3 p2 = 0#8)
    (h2 : gm q0 p2 ^^^ gm q1 p1 ^^^ gm q2 p0 ^^^ gm q3 p3 = 0#8) (h3 : gm q0 p3 ^^^ gm q1 p2 ^^^ gm q2 p1 ^^^ gm q3 p0 = 0#8) :
    gm q0 (gm p0 a ^^^ gm p1 b ^^^ gm p2 c ^^^ gm p3 d) ^^^ gm q1 (gm p0 b ^^^ gm p1 c ^^^ gm p2 d ^^^ gm p3 a) ^^^ gm q2 (gm p0 c ^^^ gm p1 d ^^^ gm p2 a ^^^ gm p3 b) ^^^ gm q3 (gm p0 d ^^^ gm p1 a ^^^ gm p2 b ^^^ gm p3 c) = a := by
  have e : gm q0 (gm p0 a ^^^ gm p1 b ^^^ gm p2 c ^^^ gm p3 d) ^^^ gm q1 (gm p0 b ^^^ gm p1 c ^^^ gm p2 d ^^^ gm p3 a) ^^^ gm q2 (gm p0 c ^^^ gm p1 d ^^^ gm p2 a ^^^ gm p3 b) ^^^ gm q3 (gm p0 d ^^^ gm p1 a ^^^ gm p2 b ^^^ gm p3 c)
      = gm (gm q0 p0 ^^^ gm q1 p3 ^^^ gm q2 p2 ^^^ gm q3 p1) a ^^^ gm (gm q0 p1 ^^^ gm q1 p0 ^^^ gm q2 p3 ^^^ gm q3 p2) b ^^^ gm (gm q0 p2 ^^^ gm q1 p1 ^^^ gm q2 p0 ^^^ gm q3 p3) c ^^^ gm (gm q0 p3 ^^^ gm q1 p2 ^^^ gm q2 p1 ^^^ gm q3 p0) d := by
    simp only [gm_xor, gm_xor', gm_assoc]
    ac_rfl
  rw [e, h0, h1, h2, h3, one_gm, zero_gm, zero_gm, zero_gm]
  simp
theorem mi_at {g f : Nat → BitVec 8} (i k : Nat) (hi : i < 16) (hk : k < 4) : miB g f (4 * (i / 4) + (i % 4 + k) % 4) = gm (g 0) (f (4 * (i / 4) + (i % 4 + k) % 4)) ^^^ gm (g 1) (f (4 * (i / 4) + (i % 4 + (k + 1)) % 4)) ^^^ gm (g 2) (f (4 * (i / 4) + (i % 4 + (k + 2)) % 4)) ^^^ gm (g 3) (f (4 * (i / 4) + (i % 4 + (k + 3)) % 4)) := by
  rw [miB_eq]
  congr 1
  · congr 1
    · congr 1
      · congr 2; omega
      · congr 2; omega
    · congr 2; omega
  · congr 2; omega
theorem mi_inv (p q f : Nat → BitVec 8) (h0 : gm (q 0) (p 0) ^^^ gm (q 1) (p 3) ^^^ gm (q 2) (p 2) ^^^ gm (q 3) (p 1) = 1#8) (h1 : gm (q 0) (p 1) ^^^ gm (q 1) (p 0) ^^^ gm (q 2) (p 3) ^^^ gm (q 3) (p 2) = 0#8)
    (h2 : gm (q 0) (p 2) ^^^ gm (q 1) (p 1) ^^^ gm (q 2) (p 0) ^^^ gm (q 3) (p 3) = 0#8) (h3 : gm (q 0) (p 3) ^^^ gm (q 1) (p 2) ^^^ gm (q 2) (p 1) ^^^ gm (q 3) (p 0) = 0#8) : q16 (miB q (miB p f)) f := fun i hi => by
  rw [miB_eq, mi_at i 0 hi (by omega), mi_at i 1 hi (by omega), mi_at i 2 hi (by omega), mi_at i 3 hi (by omega)]
  have m : ∀ k, (i % 4 + (k + 4)) % 4 = (i % 4 + k) % 4 := fun k => by omega
  rw [show (1 : Nat) + 3 = 0 + 4 from rfl, show (2 : Nat) + 2 = 0 + 4 from rfl, show (2 : Nat) + 3 = 1 + 4 from rfl, show (3 : Nat) + 1 = 0 + 4 from rfl, show (3 : Nat) + 2 = 1 + 4 from rfl, show (3 : Nat) + 3 = 2 + 4 from rfl, m 0, m 1, m 2]
  simp only [Nat.zero_add, Nat.reduceAdd]
  rw [mi_col _ _ _ _ _ _ _ _ _ _ _ _ h0 h1 h2 h3]
  congr 1
  omega
theorem mi_de (f : Nat → BitVec 8) : q16 (miB gD (miB gE f)) f := mi_inv _ _ _ (by decide +kernel) (by decide +kernel) (by decide +kernel) (by decide +kernel)
theorem mi_ed (f : Nat → BitVec 8) : q16 (miB gE (miB gD f)) f := mi_inv _ _ _ (by decide +kernel) (by decide +kernel) (by decide +kernel) (by decide +kernel)
/-- Behind so many rounds. -/
def eS (w : Nat → BitVec 32) (f : Nat → BitVec 8) : Nat → Nat → BitVec 8
  | 0 => mkB w 0 f
  | i + 1 => mkB w (i + 1) (miB gE (shB 1 (suB sbN (eS w f i))))
def enc (nr : Nat) (w : Nat → BitVec 32) (f : Nat → BitVec 8) : Nat → BitVec 8 := mkB w nr (shB 1 (suB sbN (eS w f (nr - 1))))
def dS (nr : Nat) (w : Nat → BitVec 32) (f : Nat → BitVec 8) : Nat → Nat → BitVec 8
  | 0 => mkB w nr f
  | k + 1 => miB gD (mkB w (nr - 1 - k) (suB isN (shB 3 (dS nr w f k))))
def dec (nr : Nat) (w : Nat → BitVec 32) (f : Nat → BitVec 8) : Nat → BitVec 8 := mkB w 0 (suB isN (shB 3 (dS nr w f (nr - 1))))
theorem eS_c {w : Nat → BitVec 32} {f g : Nat → BitVec 8} (h : q16 f g) : ∀ i, q16 (eS w f i) (eS w g i)
  | 0 => mkB_c h
  | i + 1 => mkB_c (miB_c (fun _ _ => rfl) (shB_c (suB_c (eS_c h i))))
theorem dS_c {nr : Nat} {w : Nat → BitVec 32} {f g : Nat → BitVec 8} (h : q16 f g) : ∀ i, q16 (dS nr w f i) (dS nr w g i)
  | 0 => mkB_c h
  | i + 1 => miB_c (fun _ _ => rfl) (mkB_c (suB_c (shB_c (dS_c h i))))
theorem enc_c {nr : Nat} {w : Nat → BitVec 32} {f g : Nat → BitVec 8} (h : q16 f g) : q16 (enc nr w f) (enc nr w g) := mkB_c (shB_c (suB_c (eS_c h _)))
theorem dec_c {nr : Nat} {w : Nat → BitVec 32} {f g : Nat → BitVec 8} (h : q16 f g) : q16 (dec nr w f) (dec nr w g) := mkB_c (suB_c (shB_c (dS_c h _)))
theorem back1 (f : Nat → BitVec 8) : q16 (suB isN (shB 3 (shB 1 (suB sbN f)))) f := q16_trans (suB_c (shB_31 _)) (suB_is f)
theorem forth1 (f : Nat → BitVec 8) : q16 (shB 1 (suB sbN (suB isN (shB 3 f)))) f := q16_trans (shB_c (suB_si _)) (shB_13 f)
theorem dS_enc (nr : Nat) (w : Nat → BitVec 32) (f : Nat → BitVec 8) : ∀ k, k ≤ nr - 1 → q16 (dS nr w (enc nr w f) k) (shB 1 (suB sbN (eS w f (nr - 1 - k))))
  | 0, _ => mkB_mkB _ _ _
  | k + 1, h => by
    have e : nr - 1 - k = (nr - 1 - (k + 1)) + 1 := by omega
    refine q16_trans (miB_c (fun _ _ => rfl) (mkB_c (suB_c (shB_c (dS_enc nr w f k (by omega)))))) ?_
    refine q16_trans (miB_c (fun _ _ => rfl) (mkB_c (back1 _))) ?_
    rw [e, eS]
    exact q16_trans (miB_c (fun _ _ => rfl) (mkB_mkB _ _ _)) (mi_de _)
theorem dec_enc (nr : Nat) (w : Nat → BitVec 32) (f : Nat → BitVec 8) : q16 (dec nr w (enc nr w f)) f := by
  refine q16_trans (mkB_c (suB_c (shB_c (dS_enc nr w f (nr - 1) (Nat.le_refl _))))) ?_
  refine q16_trans (mkB_c (back1 _)) ?_
  rw [Nat.sub_self]
  exact mkB_mkB _ _ _
theorem eS_dec (nr : Nat) (w : Nat → BitVec 32) (f : Nat → BitVec 8) : ∀ i, i ≤ nr - 1 → q16 (eS w (dec nr w f) i) (suB isN (shB 3 (dS nr w f (nr - 1 - i))))
  | 0, _ => mkB_mkB _ _ _
  | i + 1, h => by
    have e : nr - 1 - i = (nr - 1 - (i + 1)) + 1 := by omega
    have e2 : nr - 1 - (nr - 1 - (i + 1)) = i + 1 := by omega
    refine q16_trans (mkB_c (miB_c (fun _ _ => rfl) (shB_c (suB_c (eS_dec nr w f i (by omega)))))) ?_
    refine q16_trans (mkB_c (miB_c (fun _ _ => rfl) (forth1 _))) ?_
    rw [e, dS, e2]
    exact q16_trans (mkB_c (mi_ed _)) (mkB_mkB _ _ _)
theorem enc_dec (nr : Nat) (w : Nat → BitVec 32) (f : Nat → BitVec 8) : q16 (enc nr w (dec nr w f)) f := by
  refine q16_trans (mkB_c (shB_c (suB_c (eS_dec nr w f (nr - 1) (Nat.le_refl _))))) ?_
  refine q16_trans (mkB_c (forth1 _)) ?_
  rw [Nat.sub_self]
  exact mkB_mkB _ _ _
end Go.Proofs.Ytobilidppfmdkaa
