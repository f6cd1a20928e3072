/- Manifests: bodies, forth and back. -/
import Derived.Test.YtnfebaialdfffaaDoorKB
namespace Go.Proofs.YtnfebaialdfffaaDoor
open Go.RowKit
set_option maxRecDepth 100000
set_option maxHeartbeats 20000000
attribute [local irreducible] hsh rst sha256 press dig
def maA (v s e : AV) (d : Nat → BitVec 8) : AV := .agg false 4 (nth .junk [v, s, e, arr8 32 d])
theorem own_ma {v s e : AV} (hv : Own v) (hs : Own s) (he : Own e) (d : Nat → BitVec 8) : Own (maA v s e d) := fun i hi => by
  rcases i with _ | _ | _ | _ | i
  · exact hv
  · exact hs
  · exact he
  · exact fun _ _ => trivial
  · omega
theorem own_man (v s e : Nat) (d : Nat → BitVec 8) : Own (maA (.nat v) (.nat s) (.nat e) d) := own_ma (show Own (.nat v) from trivial) (show Own (.nat s) from trivial) (show Own (.nat e) from trivial) d
def mnOK (v s e : Int) : Prop := 0 ≤ v ∧ v ≤ 255 ∧ 4 ≤ s ∧ s ≤ 2048 ∧ s % 4 = 0 ∧ 0 ≤ e ∧ e < s ∧ e % 4 = 0
instance (v s e : Int) : Decidable (mnOK v s e) := inferInstanceAs (Decidable (_ ∧ _))
def C_man_exists : SpecP := fun A K => ∃ v s e d, A [maA (.int v) (.int s) (.int e) d] ∧ K (.bo (decide (mnOK v s e)))
def C_man_number : SpecP := fun A K => ∃ l b, A [bsl l b] ∧ 4 ≤ l ∧ K (.nat (w4 (b 0) (b 1) (b 2) (b 3)).toNat)
def putN (f : Nat → BitVec 8) (o v : Nat) (j : Nat) : BitVec 8 := if j = o + 3 then BitVec.ofNat 8 v else if j = o + 2 then BitVec.ofNat 8 (v / 2 ^ 8) else if j = o + 1 then BitVec.ofNat 8 (v / 2 ^ 16) else if j = o + 0 then BitVec.ofNat 8 (v / 2 ^ 24) else f j
def C_man_put : SpecM := fun A K => ∃ n o l f v, A [.gsub 5 0 n o l, .nat v] [(0, .grow 5 n (bys f))] ∧ o + l ≤ n ∧ n ≤ 1000000000 ∧ 4 ≤ l ∧ K (.tup 0 fun _ => .junk) [(0, .grow 5 n (bys (putN f o v)))]
def mnF (v s e : Nat) (d : Nat → BitVec 8) (j : Nat) : BitVec 8 :=
  if j < 4 then at8 [67, 85, 82, 84] j else if j < 8 then byt (BitVec.ofNat 64 v) (7 - j) else if j < 12 then byt (BitVec.ofNat 64 s) (11 - j) else if j < 16 then byt (BitVec.ofNat 64 e) (15 - j) else d (j - 16)
theorem byt_n (n : Nat) (k : Nat) (hn : n < 18446744073709551616) : byt (BitVec.ofNat 64 n) k = BitVec.ofNat 8 (n / 2 ^ (8 * k)) := by
  apply BitVec.eq_of_toNat_eq
  rw [byt_nat, BitVec.toNat_ofNat, BitVec.toNat_ofNat, Nat.mod_eq_of_lt (show n < 2 ^ 64 by omega)]
theorem mnB_at (v s e : Nat) (hv : v ≤ 255) (hs : s ≤ 2048) (he : e ≤ 2048) (d f : Nat → BitVec 8) (x : Nat) (hx : x < 48) (hf : ∀ j, j < 4 → f j = at8 [67, 85, 82, 84] j) :
    (if 16 ≤ x ∧ x < 16 + min 32 32 then d (0 + (x - 16)) else putN (putN (putN f 4 v) 8 s) 12 e x) = mnF v s e d x := by
  unfold mnF
  by_cases h16 : 16 ≤ x
  · rw [if_pos (by omega), if_neg (by omega), if_neg (by omega), if_neg (by omega), if_neg (by omega), Nat.zero_add]
  · rw [if_neg (by omega)]
    by_cases h4 : x < 4
    · rw [if_pos h4, ← hf x h4]
      unfold putN
      simp only [show ¬ x = 12 + 3 by omega, show ¬ x = 12 + 2 by omega, show ¬ x = 12 + 1 by omega, show ¬ x = 12 + 0 by omega, show ¬ x = 8 + 3 by omega, show ¬ x = 8 + 2 by omega, show ¬ x = 8 + 1 by omega, show ¬ x = 8 + 0 by omega, show ¬ x = 4 + 3 by omega, show ¬ x = 4 + 2 by omega, show ¬ x = 4 + 1 by omega, show ¬ x = 4 + 0 by omega, if_false]
    · rw [if_neg h4]
      unfold putN
      obtain rfl | rfl | rfl | rfl | rfl | rfl | rfl | rfl | rfl | rfl | rfl | rfl : x = 4 ∨ x = 5 ∨ x = 6 ∨ x = 7 ∨ x = 8 ∨ x = 9 ∨ x = 10 ∨ x = 11 ∨ x = 12 ∨ x = 13 ∨ x = 14 ∨ x = 15 := by omega
      all_goals simp [byt_n _ _ (show v < 18446744073709551616 by omega), byt_n _ _ (show s < 18446744073709551616 by omega), byt_n _ _ (show e < 18446744073709551616 by omega)]
theorem man_mark (j : Nat) (hj : j < 4) : (if 0 ≤ j ∧ j < 0 + min 4 48 then BitVec.ofNat 8 (([67, 85, 82, 84] : List UInt8).getD (j - 0) 0).toNat else 0) = at8 [67, 85, 82, 84] j := by
  obtain rfl | rfl | rfl | rfl : j = 0 ∨ j = 1 ∨ j = 2 ∨ j = 3 := by omega
  all_goals rfl
def C_man_Body : SpecP := fun A K => ∃ (v s e : Nat) (d : Nat → BitVec 8), A [maA (.int v) (.int s) (.int e) d] ∧ mnOK v s e ∧ K (tupOf [bsf 48 (mnF v s e d), .nat 0])
def C_man_BodyE : SpecP := fun A K => ∃ v s e d, A [maA (.int v) (.int s) (.int e) d] ∧ ¬ mnOK v s e ∧ K (tupOf [.nils, .nat 1])
def mnM (b : Nat → BitVec 8) : Prop := lw 4 b = [67, 85, 82, 84]
instance (b : Nat → BitVec 8) : Decidable (mnM b) := inferInstanceAs (Decidable (lw 4 b = [67, 85, 82, 84]))
def mnV (b : Nat → BitVec 8) : Nat := (w4 (b 4) (b 5) (b 6) (b 7)).toNat
def mnS (b : Nat → BitVec 8) : Nat := (w4 (b 8) (b 9) (b 10) (b 11)).toNat
def mnE (b : Nat → BitVec 8) : Nat := (w4 (b 12) (b 13) (b 14) (b 15)).toNat
def mnD (b : Nat → BitVec 8) (j : Nat) : BitVec 8 := b (16 + j)
theorem mnS0 (b : Nat → BitVec 8) : (strOf 4 fun i => bys b (0 + i)) = [67, 85, 82, 84] ↔ mnM b := by
  rw [show (fun i => bys b (0 + i)) = bys b from funext fun i => congrArg (fun j => AV.u8 (b j)) (Nat.zero_add i)]
  exact strOf_inj (n := 4) (m := 4) (g := at8 [67, 85, 82, 84])
/-- What bytes are read as. -/
def manR (l : Nat) (b : Nat → BitVec 8) (K : AV → Prop) : Prop :=
  (¬ (l = 48 ∧ mnM b) ∧ K (tupOf [maA (.nat 0) (.nat 0) (.nat 0) (fun _ => 0), .nat 2])) ∨
  ((l = 48 ∧ mnM b) ∧ ¬ mnOK (mnV b) (mnS b) (mnE b) ∧ K (tupOf [maA (.nat 0) (.nat 0) (.nat 0) (fun _ => 0), .nat 1])) ∨
  ((l = 48 ∧ mnM b) ∧ mnOK (mnV b) (mnS b) (mnE b) ∧ K (tupOf [maA (.nat (mnV b)) (.nat (mnS b)) (.nat (mnE b)) (mnD b), .nat 0]))
def C_man_Parse : SpecP := fun A K => ∃ l b, A [bsl l b] ∧ manR l b K
end Go.Proofs.YtnfebaialdfffaaDoor
/- Manifests: the law of bodies. -/
namespace Go.Proofs.YtnfebaialdfffaaDoor
open Go.RowKit
set_option maxRecDepth 100000
set_option maxHeartbeats 20000000
theorem bi_nat (v : Nat) : BitVec.ofInt 64 (v : Int) = BitVec.ofNat 64 v := by
  apply BitVec.eq_of_toNat_eq
  rw [BitVec.toNat_ofInt, BitVec.toNat_ofNat]; omega
theorem jm_at (v s e : Nat) (d f : Nat → BitVec 8) (hf : ∀ j, j < 4 → f j = at8 [67, 85, 82, 84] j) (x : Nat) (hx : x < 48) :
    at8 (lw 4 f ++ lw 4 (at8 (be (BitVec.ofInt 64 (v : Int)) 4)) ++ lw 4 (at8 (be (BitVec.ofInt 64 (s : Int)) 4)) ++ lw 4 (at8 (be (BitVec.ofInt 64 (e : Int)) 4)) ++ lw 32 (fun i => d (0 + i))) x = mnF v s e d x := by
  rw [at8_app, at8_app, at8_app, at8_app, bi_nat, bi_nat, bi_nat]
  simp only [List.length_append, lw_len]
  unfold mnF
  by_cases h4 : x < 4
  · rw [if_pos (by omega), if_pos (by omega), if_pos (by omega), if_pos h4, if_pos h4, at8_lw _ _ _ h4, hf x h4]
  · by_cases h8 : x < 8
    · rw [if_pos (show x < 4 + 4 + 4 + 4 by omega), if_pos (show x < 4 + 4 + 4 by omega), if_pos (show x < 4 + 4 by omega), if_neg h4, if_neg h4, at8_lw _ _ _ (by omega), at8_be _ _ _ (by omega)]
      simp only [h8, if_true]
      congr 1; omega
    · by_cases h12 : x < 12
      · rw [if_pos (show x < 4 + 4 + 4 + 4 by omega), if_pos (show x < 4 + 4 + 4 by omega), if_neg (show ¬ x < 4 + 4 by omega), at8_lw _ _ _ (by omega), at8_be _ _ _ (by omega)]
        simp only [h4, h8, h12, if_false, if_true]
        congr 1; omega
      · by_cases h16 : x < 16
        · rw [if_pos (show x < 4 + 4 + 4 + 4 by omega), if_neg (show ¬ x < 4 + 4 + 4 by omega), at8_lw _ _ _ (by omega), at8_be _ _ _ (by omega)]
          simp only [h4, h8, h12, h16, if_false, if_true]
          congr 1; omega
        · rw [if_neg (show ¬ x < 4 + 4 + 4 + 4 by omega), at8_lw _ _ _ (by omega)]
          simp only [h4, h8, h12, h16, if_false]
          exact congrArg d (by omega)
theorem lit_markm (j : Nat) (hj : j < 4) : asU8 (litA (.int .u8) [(0, .u8 (BitVec.ofInt 8 67)), (1, .u8 (BitVec.ofInt 8 85)), (2, .u8 (BitVec.ofInt 8 82)), (3, .u8 (BitVec.ofInt 8 84))] j) = at8 [67, 85, 82, 84] j := by
  obtain rfl | rfl | rfl | rfl : j = 0 ∨ j = 1 ∨ j = 2 ∨ j = 3 := by omega
  all_goals rfl
def C_sha_Sum_1 : SpecP := fun A K => ∃ l0 b0, A [prs [l0] [b0]] ∧ l0 ≤ 1000000000 ∧ K (arr8 32 (at8 (sha256 (lw l0 b0))))
theorem g_sha_Sum_1 : Gd 48 (pureP ty C_sha_Sum_1) := good_imp g_sha_Sum_a fun args m key K ⟨l0, b0, hA, h0, hK⟩ => ⟨l0, b0, (by rw [prt1]; exact hA), h0, hK⟩
def awM : Nat → BitVec 8 := mnF 3 8 4 fun _ => 0
theorem aw_hex : hexL (lw 8 awM) = [52, 51, 53, 53, 53, 50, 53, 52, 48, 48, 48, 48, 48, 48, 48, 51] := by decide
theorem aw_hexd (d : Nat → BitVec 8) : hexL (lw 8 (mnF 3 8 4 d)) = [52, 51, 53, 53, 53, 50, 53, 52, 48, 48, 48, 48, 48, 48, 48, 51] := by
  rw [show lw 8 (mnF 3 8 4 d) = lw 8 awM from lw_eq.2 fun i hi => by
    unfold awM mnF
    by_cases h4 : i < 4
    · rw [if_pos h4, if_pos h4]
    · rw [if_neg h4, if_neg h4, if_pos (by omega), if_pos (by omega)]]
  exact aw_hex
theorem aw_mM (d : Nat → BitVec 8) : mnM (mnF 3 8 4 d) := by
  show lw 4 (mnF 3 8 4 d) = lw 4 (at8 [67, 85, 82, 84])
  exact lw_eq.2 fun i hi => by unfold mnF; rw [if_pos hi]
theorem mnF_lo (v s e : Nat) (d : Nat → BitVec 8) (k : Nat) (h : k < 16) : mnF v s e d k = mnF v s e (fun _ => 0) k := by
  unfold mnF
  simp only [h, if_true]
theorem aw_V (d : Nat → BitVec 8) : mnV (mnF 3 8 4 d) = 3 := by
  unfold mnV
  rw [mnF_lo _ _ _ d 4 (by decide), mnF_lo _ _ _ d 5 (by decide), mnF_lo _ _ _ d 6 (by decide), mnF_lo _ _ _ d 7 (by decide)]
  decide
theorem aw_S (d : Nat → BitVec 8) : mnS (mnF 3 8 4 d) = 8 := by
  unfold mnS
  rw [mnF_lo _ _ _ d 8 (by decide), mnF_lo _ _ _ d 9 (by decide), mnF_lo _ _ _ d 10 (by decide), mnF_lo _ _ _ d 11 (by decide)]
  decide
theorem aw_E (d : Nat → BitVec 8) : mnE (mnF 3 8 4 d) = 4 := by
  unfold mnE
  rw [mnF_lo _ _ _ d 12 (by decide), mnF_lo _ _ _ d 13 (by decide), mnF_lo _ _ _ d 14 (by decide), mnF_lo _ _ _ d 15 (by decide)]
  decide
theorem aw_ok (d : Nat → BitVec 8) : mnOK (mnV (mnF 3 8 4 d)) (mnS (mnF 3 8 4 d)) (mnE (mnF 3 8 4 d)) := by
  rw [aw_V, aw_S, aw_E]; decide
theorem mnD_of (v s e : Nat) (d : Nat → BitVec 8) (j : Nat) : mnD (mnF v s e d) j = d j := by
  unfold mnD mnF
  rw [if_neg (by omega), if_neg (by omega), if_neg (by omega), if_neg (by omega)]
  exact congrArg d (by omega)
theorem ma_aeq {F G : Nat → AV} (h0 : AEq (F 0) (G 0)) (h1 : AEq (F 1) (G 1)) (h2 : AEq (F 2) (G 2)) (h3 : AEq (F 3) (G 3)) : ∀ i, i < 4 → AEq (F i) (G i) := forall_lt4 h0 h1 h2 h3
theorem hex_z (F : Nat → BitVec 8) : hexL (lw (8 - 0) fun j => F (0 + j)) = hexL (lw 8 F) := by
  rw [show (fun j => F (0 + j)) = F from funext fun j => congrArg F (Nat.zero_add j)]
section
attribute [local irreducible] at8 be mnF mnM mnV mnS mnE mnD lw hsh rst sha256 press dig mnOK hexL
def C_r8_Body : SpecP := fun A K => ∃ (v s e : Nat) (d : Nat → BitVec 8), A [maA (.int v) (.int s) (.int e) d] ∧ K (bsf 48 (mnF v s e d))
def C_l8_own : SpecP := fun A K => ∃ v s e d, A [maA (.int v) (.int s) (.int e) d] ∧ K (maA (.int v) (.int s) (.int e) d)
def C_man_Of : SpecP := fun A K => ∃ a b l p, A [.nat a, .nat b, bsl l p] ∧ l ≤ 1000000000 ∧ K (maA (.nat a) (.nat l) (.nat b) (at8 (sha256 (lw l p))))
def C_l8_awake : SpecP := fun A K => A [] ∧ K (.bo true)
end
end Go.Proofs.YtnfebaialdfffaaDoor
/- Manifests: the law of bodies. -/
namespace Go.Proofs.YtnfebaialdfffaaDoor
open Go.RowKit
set_option maxRecDepth 100000
set_option maxHeartbeats 20000000
theorem w4_nn (v : Nat) (hv : v < 4294967296) : (w4 (byt (BitVec.ofNat 64 v) 3) (byt (BitVec.ofNat 64 v) 2) (byt (BitVec.ofNat 64 v) 1) (byt (BitVec.ofNat 64 v) 0)).toNat = v := by
  have e : BitVec.ofNat 64 v = (BitVec.ofNat 32 v).setWidth 64 := by
    apply BitVec.eq_of_toNat_eq
    rw [BitVec.toNat_setWidth, BitVec.toNat_ofNat, BitVec.toNat_ofNat]; omega
  rw [e, w4_be, BitVec.toNat_ofNat]; omega
theorem mnV_of (v s e : Nat) (d : Nat → BitVec 8) (h : v < 4294967296) : mnV (mnF v s e d) = v := by
  show (w4 (byt (BitVec.ofNat 64 v) 3) (byt (BitVec.ofNat 64 v) 2) (byt (BitVec.ofNat 64 v) 1) (byt (BitVec.ofNat 64 v) 0)).toNat = v
  exact w4_nn v h
theorem mnS_of (v s e : Nat) (d : Nat → BitVec 8) (h : s < 4294967296) : mnS (mnF v s e d) = s := by
  show (w4 (byt (BitVec.ofNat 64 s) 3) (byt (BitVec.ofNat 64 s) 2) (byt (BitVec.ofNat 64 s) 1) (byt (BitVec.ofNat 64 s) 0)).toNat = s
  exact w4_nn s h
theorem mnE_of (v s e : Nat) (d : Nat → BitVec 8) (h : e < 4294967296) : mnE (mnF v s e d) = e := by
  show (w4 (byt (BitVec.ofNat 64 e) 3) (byt (BitVec.ofNat 64 e) 2) (byt (BitVec.ofNat 64 e) 1) (byt (BitVec.ofNat 64 e) 0)).toNat = e
  exact w4_nn e h
theorem mnM_of (v s e : Nat) (d : Nat → BitVec 8) : mnM (mnF v s e d) := by
  show lw 4 (mnF v s e d) = lw 4 (at8 [67, 85, 82, 84])
  exact lw_eq.2 fun i hi => by unfold mnF; rw [if_pos hi]
attribute [local irreducible] at8 be mnF mnM mnV mnS mnE mnD lw hsh rst sha256 press dig mnOK
abbrev GB3 := Nat × (Nat → Nat) × (Nat → Nat → BitVec 8)
def L_l8_Bodies : LI := .plain GB3 (fun g => g.1 ≤ 3) (fun g => [(91, .imm false (.sl 5) 3 (fun i => bsl (g.2.1 i) (g.2.2 i))), (92, .nat 3), (93, .nat g.1)]) (fun g => 3 - g.1)
theorem b48 (a : BitVec 8) : (a % BitVec.ofInt 8 48).toNat < 48 := by
  rw [BitVec.toNat_umod]
  exact Nat.mod_lt _ (by decide)
def C_l8_ManifestBodies : SpecP := fun A K => ∃ v s e d l raw a t, A [maA (.int v) (.int s) (.int e) d, bsl l raw, .u8 a, .u8 t] ∧ l ≤ maxLen ∧ K (.bo true)
def C_l8_MB_y : SpecP := fun A K => ∃ (v s e : Nat) (d : Nat → BitVec 8) (l : Nat) (raw : Nat → BitVec 8) (a t : BitVec 8), A [maA (.int v) (.int s) (.int e) d, bsl l raw, .u8 a, .u8 t] ∧ l ≤ maxLen ∧ mnOK v s e ∧ K (.bo true)
def C_l8_MB_n : SpecP := fun A K => ∃ (v s e : Int) (d : Nat → BitVec 8) (l : Nat) (raw : Nat → BitVec 8) (a t : BitVec 8), A [maA (.int v) (.int s) (.int e) d, bsl l raw, .u8 a, .u8 t] ∧ l ≤ maxLen ∧ ¬ mnOK v s e ∧ K (.bo true)
end Go.Proofs.YtnfebaialdfffaaDoor
/- Manifests: parts joined, images read. -/
namespace Go.Proofs.YtnfebaialdfffaaDoor
open Go.RowKit
set_option maxRecDepth 100000
set_option maxHeartbeats 20000000
section
attribute [local irreducible] at8 lw cat pl pb
def L_sl_Grow (n : Nat) : LI := .plain Nat (fun _ => True) (fun _ => [(0, .nils), (1, .nat n)]) (fun _ => 0)
def C_sl_Grow : SpecR := fun A K => ∃ n : Nat, A [.nils, .nat n] ∧ 0 < n ∧ n ≤ 1000000000 ∧ K (.gsl 5 8 0) [(8, .grow 5 0 fun _ => .junk)]
def C_sl_Concat : SpecR := fun A K => ∃ ps, A [prt ps] ∧ 0 < (cat ps).length ∧ (cat ps).length ≤ 1000000000 ∧ ps.length ≤ 1000000 ∧ K (.gsl 5 8 (cat ps).length) [(8, .grow 5 (cat ps).length (bys (at8 (cat ps))))]
def L_sl_Concat_a (ps : Parts) : LI := .plain Nat (· ≤ ps.length) (fun k => [(0, prt ps), (3, .nat (cat (ps.take k)).length), (9, prt ps), (10, .nat ps.length), (11, .nat k)]) (fun k => ps.length - k)
def L_sl_Concat_b (ps : Parts) (r : Nat) : LI := ⟨Nat, (· ≤ ps.length), fun k => [(6, .gsl 5 r (cat (ps.take k)).length), (25, prt ps), (26, .nat ps.length), (27, .nat k)], fun k => [(r, .grow 5 (cat (ps.take k)).length (bys (at8 (cat (ps.take k)))))], fun k => ps.length - k, some, some⟩
def C_sl_Concat_4 : SpecR := fun A K => ∃ l0 b0 l1 b1 l2 b2 l3 b3, A [prs [l0, l1, l2, l3] [b0, b1, b2, b3]] ∧ 0 < l0 + l1 + l2 + l3 ∧ l0 + l1 + l2 + l3 ≤ 1000000000 ∧ K (.gsl 5 8 (l0 + l1 + l2 + l3)) [(8, .grow 5 (l0 + l1 + l2 + l3) (bys (at8 (lw l0 b0 ++ lw l1 b1 ++ lw l2 b2 ++ lw l3 b3))))]
end
section
attribute [local irreducible] at8 lw
def C_bytes_Clone : SpecP := fun A K => ∃ l b, A [bsl l b] ∧ l ≤ 1000000000 ∧ K (bsf l b)
theorem g_bytes_Clone : Gd 23 (pureP ty C_bytes_Clone) := by
  refine goodP (E := PG []) (pgOK trivial) mixes Tryd.func23 (by kernel_rfl) (by kernel_rfl) ?_
  rintro A K ⟨l, b, hA, hl, hK⟩
  refine ⟨_, _, fun _ => none, hA, hK, by kernel_rfl, ⟨rfl, fun _ _ => trivial⟩, ?_⟩
  by_cases h0 : l = 0
  · subst h0
    repeat ((conv => whnf); first | refine sdO ?_ | refine nlO ?_ | refine goA ?_ | refine goB ?_ | (apply Exists.intro; (repeat apply Exists.intro); refine caO ?_) | (refine Or.inl ?_; (conv => whnf); (repeat apply Exists.intro); refine caO ?_) | (refine Or.inr ?_; (conv => whnf); first | ((repeat apply Exists.intro); refine caO ?_) | (refine Or.inl ?_; (conv => whnf); (repeat apply Exists.intro); refine caO ?_) | (refine Or.inr ?_; (conv => whnf); (repeat apply Exists.intro); refine caO ?_)))
    all_goals try (conv => whnf)
    refine NilE.none rfl ?_
    repeat ((conv => whnf); first | refine sdO ?_ | refine nlO ?_ | refine goA ?_ | refine goB ?_ | (apply Exists.intro; (repeat apply Exists.intro); refine caO ?_) | (refine Or.inl ?_; (conv => whnf); (repeat apply Exists.intro); refine caO ?_) | (refine Or.inr ?_; (conv => whnf); first | ((repeat apply Exists.intro); refine caO ?_) | (refine Or.inl ?_; (conv => whnf); (repeat apply Exists.intro); refine caO ?_) | (refine Or.inr ?_; (conv => whnf); (repeat apply Exists.intro); refine caO ?_)))
    all_goals try (conv => whnf)
    refine And.intro (fun _ => ?_) (fun _ => ?_)
    · skip
      repeat ((conv => whnf); first | refine sdO ?_ | refine nlO ?_ | refine goA ?_ | refine goB ?_ | (apply Exists.intro; (repeat apply Exists.intro); refine caO ?_) | (refine Or.inl ?_; (conv => whnf); (repeat apply Exists.intro); refine caO ?_) | (refine Or.inr ?_; (conv => whnf); first | ((repeat apply Exists.intro); refine caO ?_) | (refine Or.inl ?_; (conv => whnf); (repeat apply Exists.intro); refine caO ?_) | (refine Or.inr ?_; (conv => whnf); (repeat apply Exists.intro); refine caO ?_)))
      all_goals try (conv => whnf)
      ((repeat' ((conv => whnf) <;> first | exact trivial | (with_reducible first | refine And.intro ?_ ?_ | refine rows_lt1 ?_ | refine rows_lt2 ?_ ?_ | refine rows_lt3 ?_ ?_ ?_ | refine rows_lt4 ?_ ?_ ?_ ?_ | refine rows_lt5 ?_ ?_ ?_ ?_ ?_ | refine aggs_lt1 ?_ | refine aggs_lt2 ?_ ?_ | refine aggs_lt3 ?_ ?_ ?_ | refine fun (_ : Nat) => ?_) | refine fun (_ : (_ : Nat) < _) => ?_ | exact rfl | exact Nat.le_of_ble_eq_true rfl | (change (_ : Nat) ≤ _; omega) | (change (_ : Nat) = _; omega) | (change (_ : Int) = _; omega))); (all_goals try (conv => whnf)))
    · skip
      repeat ((conv => whnf); first | refine sdO ?_ | refine nlO ?_ | refine goA ?_ | refine goB ?_ | (apply Exists.intro; (repeat apply Exists.intro); refine caO ?_) | (refine Or.inl ?_; (conv => whnf); (repeat apply Exists.intro); refine caO ?_) | (refine Or.inr ?_; (conv => whnf); first | ((repeat apply Exists.intro); refine caO ?_) | (refine Or.inl ?_; (conv => whnf); (repeat apply Exists.intro); refine caO ?_) | (refine Or.inr ?_; (conv => whnf); (repeat apply Exists.intro); refine caO ?_)))
      all_goals try (conv => whnf)
      ((repeat' ((conv => whnf) <;> first | exact trivial | (with_reducible first | refine And.intro ?_ ?_ | refine rows_lt1 ?_ | refine rows_lt2 ?_ ?_ | refine rows_lt3 ?_ ?_ ?_ | refine rows_lt4 ?_ ?_ ?_ ?_ | refine rows_lt5 ?_ ?_ ?_ ?_ ?_ | refine aggs_lt1 ?_ | refine aggs_lt2 ?_ ?_ | refine aggs_lt3 ?_ ?_ ?_ | refine fun (_ : Nat) => ?_) | refine fun (_ : (_ : Nat) < _) => ?_ | exact rfl | exact Nat.le_of_ble_eq_true rfl | (change (_ : Nat) ≤ _; omega) | (change (_ : Nat) = _; omega) | (change (_ : Int) = _; omega))); (all_goals try (conv => whnf)))
  · have h0 : 0 < l := by omega
    repeat ((conv => whnf); first | refine sdO ?_ | refine nlO ?_ | refine goA ?_ | refine goB ?_ | (apply Exists.intro; (repeat apply Exists.intro); refine caO ?_) | (refine Or.inl ?_; (conv => whnf); (repeat apply Exists.intro); refine caO ?_) | (refine Or.inr ?_; (conv => whnf); first | ((repeat apply Exists.intro); refine caO ?_) | (refine Or.inl ?_; (conv => whnf); (repeat apply Exists.intro); refine caO ?_) | (refine Or.inr ?_; (conv => whnf); (repeat apply Exists.intro); refine caO ?_)))
    all_goals try (conv => whnf)
    ((repeat' ((conv => whnf) <;> first | exact trivial | (with_reducible first | refine And.intro ?_ ?_ | refine rows_lt1 ?_ | refine rows_lt2 ?_ ?_ | refine rows_lt3 ?_ ?_ ?_ | refine rows_lt4 ?_ ?_ ?_ ?_ | refine rows_lt5 ?_ ?_ ?_ ?_ ?_ | refine aggs_lt1 ?_ | refine aggs_lt2 ?_ ?_ | refine aggs_lt3 ?_ ?_ ?_ | refine fun (_ : Nat) => ?_) | refine fun (_ : (_ : Nat) < _) => ?_ | exact rfl | exact Nat.le_of_ble_eq_true rfl | (change (_ : Nat) ≤ _; omega) | (change (_ : Nat) = _; omega) | (change (_ : Int) = _; omega))); (all_goals try (conv => whnf)))
def mn0 : AV := maA (.nat 0) (.nat 0) (.nat 0) (fun _ => 0)
def sgL (b : Nat → BitVec 8) : Nat := (b 48).toNat * 256 + (b 49).toNat
def imE2 (l : Nat) (b : Nat → BitVec 8) : Prop := l < 50 ∨ ¬ mnM b ∨ (mnOK (mnV b) (mnS b) (mnE b) ∧ l < 50 + sgL b + mnS b)
def imE1 (l : Nat) (b : Nat → BitVec 8) : Prop := 50 ≤ l ∧ mnM b ∧ ¬ mnOK (mnV b) (mnS b) (mnE b)
def imO (l : Nat) (b : Nat → BitVec 8) : Prop := 50 ≤ l ∧ mnM b ∧ mnOK (mnV b) (mnS b) (mnE b) ∧ 50 + sgL b + mnS b ≤ l
theorem im_all (l : Nat) (b : Nat → BitVec 8) : imE2 l b ∨ imE1 l b ∨ imO l b := by
  unfold imE2 imE1 imO
  by_cases h : l < 50
  · exact .inl (.inl h)
  · by_cases hm : mnM b
    · by_cases hk : mnOK (mnV b) (mnS b) (mnE b)
      · by_cases hq : l < 50 + sgL b + mnS b
        · exact .inl (.inr (.inr ⟨hk, hq⟩))
        · exact .inr (.inr ⟨by omega, hm, hk, by omega⟩)
      · exact .inr (.inl ⟨by omega, hm, hk⟩)
    · exact .inl (.inr (.inl hm))
def imgR (l : Nat) (b : Nat → BitVec 8) (K : AV → Prop) : Prop :=
  (imE2 l b ∧ K (tupOf [mn0, bsf 0 fun _ => 0, bsf 0 fun _ => 0, .nat 2])) ∨
  (imE1 l b ∧ K (tupOf [mn0, bsf 0 fun _ => 0, bsf 0 fun _ => 0, .nat 1])) ∨
  (imO l b ∧ K (tupOf [maA (.nat (mnV b)) (.nat (mnS b)) (.nat (mnE b)) (mnD b), bsf (sgL b) fun j => b (50 + j), bsf (mnS b) fun j => b (50 + sgL b + j), .nat 0]))
theorem sg_or (a b : BitVec 8) : a.toNat * 2 ^ 8 ||| b.toNat = a.toNat * 256 + b.toNat := by
  have hb := b.isLt
  rw [show a.toNat * 2 ^ 8 = 2 ^ 8 * a.toNat by omega, ← Nat.two_pow_add_eq_or_of_lt (by omega)]
theorem sg_bd (b : Nat → BitVec 8) : sgL b ≤ 65535 := by
  have h1 := (b 48).isLt
  have h2 := (b 49).isLt
  unfold sgL; omega
theorem ok_bd {b : Nat → BitVec 8} (h : mnOK (mnV b) (mnS b) (mnE b)) : mnS b ≤ 2048 ∧ 4 ≤ mnS b := by unfold mnOK at h; omega
theorem e0b (b : Nat → BitVec 8) : (fun x => b (0 + x)) = b := funext fun x => congrArg b (Nat.zero_add x)
theorem own_im {v s e : Nat} {d : Nat → BitVec 8} {l l' : Nat} {f f' : Nat → BitVec 8} {n : Nat} : Own (tupOf [maA (.nat v) (.nat s) (.nat e) d, bsf l f, bsf l' f', .nat n]) :=
  own_res4 (own_man _ _ _ _) (show Own (bsf l f) from ⟨rfl, fun _ _ => trivial⟩) (show Own (bsf l' f') from ⟨rfl, fun _ _ => trivial⟩) (show Own (.nat n) from trivial)
attribute [local irreducible] mnM mnV mnS mnE mnD mnOK
def C_man_Read : SpecP := fun A K => ∃ l b, A [bsl l b] ∧ l ≤ 1000000000 ∧ imgR l b K
def C_r1_Value2 : SpecP := fun A K => ∃ b, A [bsl 2 b] ∧ K (.u64 (BitVec.ofNat 64 ((b 0).toNat * 256 + (b 1).toNat)))
theorem val2 (b : Nat → BitVec 8) : valN b 2 = BitVec.ofNat 64 ((b 0).toNat * 256 + (b 1).toNat) := by
  have h0 := (b 0).isLt
  have h1 := (b 1).isLt
  apply BitVec.eq_of_toNat_eq
  show (256#64 * (256#64 * 0#64 + (b 0).setWidth 64) + (b 1).setWidth 64).toNat = _
  simp only [BitVec.toNat_add, BitVec.toNat_mul, BitVec.toNat_setWidth, BitVec.toNat_ofNat]
  omega
theorem g_r1_Value2 : Gd 37 (pureP ty C_r1_Value2) := good_imp g_r1_Value fun args m key K ⟨b, hA, hK⟩ => ⟨2, b, hA, (by unfold N63; decide), by
  rw [val2]
  exact hK⟩
theorem v2_n (b : Nat → BitVec 8) : (BitVec.ofNat 64 ((b (48 + 0)).toNat * 256 + (b (48 + 1)).toNat)).toNat = sgL b := by
  have h := sg_bd b
  rw [BitVec.toNat_ofNat]
  exact Nat.mod_eq_of_lt (show sgL b < 2 ^ 64 by omega)
end
end Go.Proofs.YtnfebaialdfffaaDoor
