/- Manifests: the law of bodies. -/
import Derived.Test.YtjhcehfliacjeaaDoorN1
namespace Go.Proofs.YtjhcehfliacjeaaDoor
open Go.RowKit
set_option maxRecDepth 100000
set_option maxHeartbeats 20000000
theorem bi_nat (v : Nat) : BitVec.ofInt 64 (v : Int) = BitVec.ofNat 64 v := by
  apply BitVec.eq_of_toNat_eq
  rw [BitVec.toNat_ofInt, BitVec.toNat_ofNat]; omega
theorem jm_at (v s e : Nat) (d f : Nat → BitVec 8) (hf : ∀ j, j < 4 → f j = at8 [67, 85, 82, 84] j) (x : Nat) (hx : x < 48) :
    at8 (lw 4 f ++ lw 4 (at8 (be (BitVec.ofInt 64 (v : Int)) 4)) ++ lw 4 (at8 (be (BitVec.ofInt 64 (s : Int)) 4)) ++ lw 4 (at8 (be (BitVec.ofInt 64 (e : Int)) 4)) ++ lw 32 (fun i => d (0 + i))) x = mnF v s e d x := by
  rw [at8_app, at8_app, at8_app, at8_app, bi_nat, bi_nat, bi_nat]
  simp only [List.length_append, lw_len]
  unfold mnF
  by_cases h4 : x < 4
  · rw [if_pos (by omega), if_pos (by omega), if_pos (by omega), if_pos h4, if_pos h4, at8_lw _ _ _ h4, hf x h4]
  · by_cases h8 : x < 8
    · rw [if_pos (show x < 4 + 4 + 4 + 4 by omega), if_pos (show x < 4 + 4 + 4 by omega), if_pos (show x < 4 + 4 by omega), if_neg h4, if_neg h4, at8_lw _ _ _ (by omega), at8_be _ _ _ (by omega)]
      simp only [h8, if_true]
      congr 1; omega
    · by_cases h12 : x < 12
      · rw [if_pos (show x < 4 + 4 + 4 + 4 by omega), if_pos (show x < 4 + 4 + 4 by omega), if_neg (show ¬ x < 4 + 4 by omega), at8_lw _ _ _ (by omega), at8_be _ _ _ (by omega)]
        simp only [h4, h8, h12, if_false, if_true]
        congr 1; omega
      · by_cases h16 : x < 16
        · rw [if_pos (show x < 4 + 4 + 4 + 4 by omega), if_neg (show ¬ x < 4 + 4 + 4 by omega), at8_lw _ _ _ (by omega), at8_be _ _ _ (by omega)]
          simp only [h4, h8, h12, h16, if_false, if_true]
          congr 1; omega
        · rw [if_neg (show ¬ x < 4 + 4 + 4 + 4 by omega), at8_lw _ _ _ (by omega)]
          simp only [h4, h8, h12, h16, if_false]
          exact congrArg d (by omega)
theorem lit_markm (j : Nat) (hj : j < 4) : asU8 (litA (.int .u8) [(0, .u8 (BitVec.ofInt 8 67)), (1, .u8 (BitVec.ofInt 8 85)), (2, .u8 (BitVec.ofInt 8 82)), (3, .u8 (BitVec.ofInt 8 84))] j) = at8 [67, 85, 82, 84] j := by
  obtain rfl | rfl | rfl | rfl : j = 0 ∨ j = 1 ∨ j = 2 ∨ j = 3 := by omega
  all_goals rfl
def C_sha_Sum_1 : SpecP := fun A K => ∃ l0 b0, A [prs [l0] [b0]] ∧ l0 ≤ 1000000000 ∧ K (arr8 32 (at8 (sha256 (lw l0 b0))))
theorem g_sha_Sum_1 : Gd 28 (pureP ty C_sha_Sum_1) := good_imp g_sha_Sum_a fun args m key K ⟨l0, b0, hA, h0, hK⟩ => ⟨l0, b0, (by rw [prt1]; exact hA), h0, hK⟩
def awM : Nat → BitVec 8 := mnF 3 8 4 fun _ => 0
theorem aw_hex : hexL (lw 8 awM) = [52, 51, 53, 53, 53, 50, 53, 52, 48, 48, 48, 48, 48, 48, 48, 51] := by decide
theorem aw_hexd (d : Nat → BitVec 8) : hexL (lw 8 (mnF 3 8 4 d)) = [52, 51, 53, 53, 53, 50, 53, 52, 48, 48, 48, 48, 48, 48, 48, 51] := by
  rw [show lw 8 (mnF 3 8 4 d) = lw 8 awM from lw_eq.2 fun i hi => by
    unfold awM mnF
    by_cases h4 : i < 4
    · rw [if_pos h4, if_pos h4]
    · rw [if_neg h4, if_neg h4, if_pos (by omega), if_pos (by omega)]]
  exact aw_hex
theorem aw_mM (d : Nat → BitVec 8) : mnM (mnF 3 8 4 d) := by
  show lw 4 (mnF 3 8 4 d) = lw 4 (at8 [67, 85, 82, 84])
  exact lw_eq.2 fun i hi => by unfold mnF; rw [if_pos hi]
theorem mnF_lo (v s e : Nat) (d : Nat → BitVec 8) (k : Nat) (h : k < 16) : mnF v s e d k = mnF v s e (fun _ => 0) k := by
  unfold mnF
  simp only [h, if_true]
theorem aw_V (d : Nat → BitVec 8) : mnV (mnF 3 8 4 d) = 3 := by
  unfold mnV
  rw [mnF_lo _ _ _ d 4 (by decide), mnF_lo _ _ _ d 5 (by decide), mnF_lo _ _ _ d 6 (by decide), mnF_lo _ _ _ d 7 (by decide)]
  decide
theorem aw_S (d : Nat → BitVec 8) : mnS (mnF 3 8 4 d) = 8 := by
  unfold mnS
  rw [mnF_lo _ _ _ d 8 (by decide), mnF_lo _ _ _ d 9 (by decide), mnF_lo _ _ _ d 10 (by decide), mnF_lo _ _ _ d 11 (by decide)]
  decide
theorem aw_E (d : Nat → BitVec 8) : mnE (mnF 3 8 4 d) = 4 := by
  unfold mnE
  rw [mnF_lo _ _ _ d 12 (by decide), mnF_lo _ _ _ d 13 (by decide), mnF_lo _ _ _ d 14 (by decide), mnF_lo _ _ _ d 15 (by decide)]
  decide
theorem aw_ok (d : Nat → BitVec 8) : mnOK (mnV (mnF 3 8 4 d)) (mnS (mnF 3 8 4 d)) (mnE (mnF 3 8 4 d)) := by
  rw [aw_V, aw_S, aw_E]; decide
theorem mnD_of (v s e : Nat) (d : Nat → BitVec 8) (j : Nat) : mnD (mnF v s e d) j = d j := by
  unfold mnD mnF
  rw [if_neg (by omega), if_neg (by omega), if_neg (by omega), if_neg (by omega)]
  exact congrArg d (by omega)
theorem ma_aeq {F G : Nat → AV} (h0 : AEq (F 0) (G 0)) (h1 : AEq (F 1) (G 1)) (h2 : AEq (F 2) (G 2)) (h3 : AEq (F 3) (G 3)) : ∀ i, i < 4 → AEq (F i) (G i) := forall_lt4 h0 h1 h2 h3
theorem hex_z (F : Nat → BitVec 8) : hexL (lw (8 - 0) fun j => F (0 + j)) = hexL (lw 8 F) := by
  rw [show (fun j => F (0 + j)) = F from funext fun j => congrArg F (Nat.zero_add j)]
section
attribute [local irreducible] at8 be mnF mnM mnV mnS mnE mnD lw hsh rst sha256 press dig mnOK hexL
def C_r8_Body : SpecP := fun A K => ∃ (v s e : Nat) (d : Nat → BitVec 8), A [maA (.int v) (.int s) (.int e) d] ∧ K (bsf 48 (mnF v s e d))
theorem g_r8_Body : Gd 11 (pureP ty C_r8_Body) := by
  refine goodP (E := PG [(24, pureP ty C_r1_Num), (12, pureR ty C_r1_Join_5)]) (pgOK ⟨g_r1_Num, g_r1_Join_5, trivial⟩) mixes Tryd.func11 (by kernel_rfl) (by kernel_rfl) ?_
  rintro A K ⟨v, s, e, d, hA, hK⟩
  refine ⟨_, _, fun _ => none, hA, hK, by kernel_rfl, ⟨rfl, fun _ _ => trivial⟩, ?_⟩
  repeat (first | ((conv => whnf); refine And.intro ?_ ?_; exact sideOf) | ((conv => whnf); refine NilE.some ?_ ?_; exact sideOf) | ((conv => whnf); refine And.intro (fun _ => ?_) (fun h => nomatch (show true = false from h))) | ((conv => whnf); refine And.intro (fun h => nomatch (show false = true from h)) (fun _ => ?_)) | ((conv => whnf); first | (apply Exists.intro; (repeat apply Exists.intro); refine And.intro ?_ ?_; exact leOf) | (refine Or.inl ?_; (conv => whnf); (repeat apply Exists.intro); refine And.intro ?_ ?_; exact leOf) | (refine Or.inr ?_; (conv => whnf); first | ((repeat apply Exists.intro); refine And.intro ?_ ?_; exact leOf) | (refine Or.inl ?_; (conv => whnf); (repeat apply Exists.intro); refine And.intro ?_ ?_; exact leOf) | (refine Or.inr ?_; (conv => whnf); (repeat apply Exists.intro); refine And.intro ?_ ?_; exact leOf))))
  all_goals try (conv => whnf)
  ((repeat' ((conv => whnf) <;> first | exact trivial | (with_reducible first | refine And.intro ?_ ?_ | refine rows_lt1 ?_ | refine rows_lt2 ?_ ?_ | refine rows_lt3 ?_ ?_ ?_ | refine rows_lt4 ?_ ?_ ?_ ?_ | refine rows_lt5 ?_ ?_ ?_ ?_ ?_ | refine aggs_lt1 ?_ | refine aggs_lt2 ?_ ?_ | refine aggs_lt3 ?_ ?_ ?_ | refine fun (_ : Nat) => ?_) | refine fun (_ : (_ : Nat) < _) => ?_ | exact rfl | exact Nat.le_of_ble_eq_true rfl | (change (_ : Nat) ≤ _; omega) | (change (_ : Nat) = _; omega) | (change (_ : Int) = _; omega))); (all_goals try (conv => whnf)))
  rename_i x hx
  exact jm_at v s e d _ lit_markm x hx
def C_l8_own : SpecP := fun A K => ∃ v s e d, A [maA (.int v) (.int s) (.int e) d] ∧ K (maA (.int v) (.int s) (.int e) d)
theorem g_l8_own : Gd 9 (pureP ty C_l8_own) := by
  refine goodP (E := PG []) (pgOK trivial) mixes Tryd.func9 (by kernel_rfl) (by kernel_rfl) ?_
  rintro A K ⟨v, s, e, d, hA, hK⟩
  refine ⟨_, _, fun _ => none, hA, hK, by kernel_rfl, own_ma (show Own (.int v) from trivial) (show Own (.int s) from trivial) (show Own (.int e) from trivial) d, ?_⟩
  repeat (first | ((conv => whnf); refine And.intro ?_ ?_; exact sideOf) | ((conv => whnf); refine NilE.some ?_ ?_; exact sideOf) | ((conv => whnf); refine And.intro (fun _ => ?_) (fun h => nomatch (show true = false from h))) | ((conv => whnf); refine And.intro (fun h => nomatch (show false = true from h)) (fun _ => ?_)) | ((conv => whnf); first | (apply Exists.intro; (repeat apply Exists.intro); refine And.intro ?_ ?_; exact leOf) | (refine Or.inl ?_; (conv => whnf); (repeat apply Exists.intro); refine And.intro ?_ ?_; exact leOf) | (refine Or.inr ?_; (conv => whnf); first | ((repeat apply Exists.intro); refine And.intro ?_ ?_; exact leOf) | (refine Or.inl ?_; (conv => whnf); (repeat apply Exists.intro); refine And.intro ?_ ?_; exact leOf) | (refine Or.inr ?_; (conv => whnf); (repeat apply Exists.intro); refine And.intro ?_ ?_; exact leOf))))
  all_goals try (conv => whnf)
  ((repeat' ((conv => whnf) <;> first | exact trivial | (with_reducible first | refine And.intro ?_ ?_ | refine rows_lt1 ?_ | refine rows_lt2 ?_ ?_ | refine rows_lt3 ?_ ?_ ?_ | refine rows_lt4 ?_ ?_ ?_ ?_ | refine rows_lt5 ?_ ?_ ?_ ?_ ?_ | refine aggs_lt1 ?_ | refine aggs_lt2 ?_ ?_ | refine aggs_lt3 ?_ ?_ ?_ | refine fun (_ : Nat) => ?_) | refine fun (_ : (_ : Nat) < _) => ?_ | exact rfl | exact Nat.le_of_ble_eq_true rfl | (change (_ : Nat) ≤ _; omega) | (change (_ : Nat) = _; omega) | (change (_ : Int) = _; omega))); (all_goals try (conv => whnf)))
def C_man_Of : SpecP := fun A K => ∃ a b l p, A [.nat a, .nat b, bsl l p] ∧ l ≤ 1000000000 ∧ K (maA (.nat a) (.nat l) (.nat b) (at8 (sha256 (lw l p))))
theorem g_man_Of : Gd 16 (pureP ty C_man_Of) := by
  refine goodP (E := PG [(28, pureP ty C_sha_Sum_1)]) (pgOK ⟨g_sha_Sum_1, trivial⟩) mixes Tryd.func16 (by kernel_rfl) (by kernel_rfl) ?_
  rintro A K ⟨a, b, l, p, hA, hl, hK⟩
  refine ⟨_, _, fun _ => none, hA, hK, by kernel_rfl, own_man _ _ _ _, ?_⟩
  repeat (first | ((conv => whnf); refine And.intro ?_ ?_; exact sideOf) | ((conv => whnf); refine NilE.some ?_ ?_; exact sideOf) | ((conv => whnf); refine And.intro (fun _ => ?_) (fun h => nomatch (show true = false from h))) | ((conv => whnf); refine And.intro (fun h => nomatch (show false = true from h)) (fun _ => ?_)) | ((conv => whnf); first | (apply Exists.intro; (repeat apply Exists.intro); refine And.intro ?_ ?_; exact leOf) | (refine Or.inl ?_; (conv => whnf); (repeat apply Exists.intro); refine And.intro ?_ ?_; exact leOf) | (refine Or.inr ?_; (conv => whnf); first | ((repeat apply Exists.intro); refine And.intro ?_ ?_; exact leOf) | (refine Or.inl ?_; (conv => whnf); (repeat apply Exists.intro); refine And.intro ?_ ?_; exact leOf) | (refine Or.inr ?_; (conv => whnf); (repeat apply Exists.intro); refine And.intro ?_ ?_; exact leOf))))
  all_goals try (conv => whnf)
  ((repeat' ((conv => whnf) <;> first | exact trivial | (with_reducible first | refine And.intro ?_ ?_ | refine rows_lt1 ?_ | refine rows_lt2 ?_ ?_ | refine rows_lt3 ?_ ?_ ?_ | refine rows_lt4 ?_ ?_ ?_ ?_ | refine rows_lt5 ?_ ?_ ?_ ?_ ?_ | refine aggs_lt1 ?_ | refine aggs_lt2 ?_ ?_ | refine aggs_lt3 ?_ ?_ ?_ | refine fun (_ : Nat) => ?_) | refine fun (_ : (_ : Nat) < _) => ?_ | exact rfl | exact Nat.le_of_ble_eq_true rfl | (change (_ : Nat) ≤ _; omega) | (change (_ : Nat) = _; omega) | (change (_ : Int) = _; omega))); (all_goals try (conv => whnf)))
def C_l8_awake : SpecP := fun A K => A [] ∧ K (.bo true)
theorem g_l8_awake : Gd 5 (pureP ty C_l8_awake) := by
  refine goodP (E := PG [(16, pureP ty C_man_Of), (7, pureP ty C_man_Body), (13, pureP ty C_man_Parse), (21, pureP ty C_r1_Hex)]) (pgOK ⟨g_man_Of, g_man_Body, g_man_Parse, g_r1_Hex, trivial⟩) mixes Tryd.func5 (by kernel_rfl) (by kernel_rfl) ?_
  rintro A K ⟨hA, hK⟩
  refine ⟨_, _, fun _ => none, hA, hK, by kernel_rfl, trivial, ?_⟩
  repeat (first | ((conv => whnf); refine And.intro ?_ ?_; exact sideOf) | ((conv => whnf); refine NilE.some ?_ ?_; exact sideOf) | ((conv => whnf); refine And.intro (fun _ => ?_) (fun h => nomatch (show true = false from h))) | ((conv => whnf); refine And.intro (fun h => nomatch (show false = true from h)) (fun _ => ?_)) | ((conv => whnf); first | (apply Exists.intro; (repeat apply Exists.intro); refine And.intro ?_ ?_; exact leOf) | (refine Or.inl ?_; (conv => whnf); (repeat apply Exists.intro); refine And.intro ?_ ?_; exact leOf) | (refine Or.inr ?_; (conv => whnf); first | ((repeat apply Exists.intro); refine And.intro ?_ ?_; exact leOf) | (refine Or.inl ?_; (conv => whnf); (repeat apply Exists.intro); refine And.intro ?_ ?_; exact leOf) | (refine Or.inr ?_; (conv => whnf); (repeat apply Exists.intro); refine And.intro ?_ ?_; exact leOf))))
  all_goals try (conv => whnf)
  refine Or.inr (Or.inr ⟨⟨rfl, aw_mM _⟩, aw_ok _, ?_⟩)
  repeat (first | ((conv => whnf); refine And.intro ?_ ?_; exact sideOf) | ((conv => whnf); refine NilE.some ?_ ?_; exact sideOf) | ((conv => whnf); refine And.intro (fun _ => ?_) (fun h => nomatch (show true = false from h))) | ((conv => whnf); refine And.intro (fun h => nomatch (show false = true from h)) (fun _ => ?_)) | ((conv => whnf); first | (apply Exists.intro; (repeat apply Exists.intro); refine And.intro ?_ ?_; exact leOf) | (refine Or.inl ?_; (conv => whnf); (repeat apply Exists.intro); refine And.intro ?_ ?_; exact leOf) | (refine Or.inr ?_; (conv => whnf); first | ((repeat apply Exists.intro); refine And.intro ?_ ?_; exact leOf) | (refine Or.inl ?_; (conv => whnf); (repeat apply Exists.intro); refine And.intro ?_ ?_; exact leOf) | (refine Or.inr ?_; (conv => whnf); (repeat apply Exists.intro); refine And.intro ?_ ?_; exact leOf))))
  all_goals try (conv => whnf)
  refine And.intro (fun _ => ?_) (bad (eqB_agg (ma_aeq (aw_V _) (aw_S _) (aw_E _) (fun j _ => mnD_of _ _ _ _ j))))
  repeat (first | ((conv => whnf); refine And.intro ?_ ?_; exact sideOf) | ((conv => whnf); refine NilE.some ?_ ?_; exact sideOf) | ((conv => whnf); refine And.intro (fun _ => ?_) (fun h => nomatch (show true = false from h))) | ((conv => whnf); refine And.intro (fun h => nomatch (show false = true from h)) (fun _ => ?_)) | ((conv => whnf); first | (apply Exists.intro; (repeat apply Exists.intro); refine And.intro ?_ ?_; exact leOf) | (refine Or.inl ?_; (conv => whnf); (repeat apply Exists.intro); refine And.intro ?_ ?_; exact leOf) | (refine Or.inr ?_; (conv => whnf); first | ((repeat apply Exists.intro); refine And.intro ?_ ?_; exact leOf) | (refine Or.inl ?_; (conv => whnf); (repeat apply Exists.intro); refine And.intro ?_ ?_; exact leOf) | (refine Or.inr ?_; (conv => whnf); (repeat apply Exists.intro); refine And.intro ?_ ?_; exact leOf))))
  all_goals try (conv => whnf)
  exact decide_eq_true ((hex_z _).trans (aw_hexd _))
end
end Go.Proofs.YtjhcehfliacjeaaDoor
