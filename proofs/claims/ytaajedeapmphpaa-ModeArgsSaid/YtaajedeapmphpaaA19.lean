/- Modes: what the laws share; runs. -/
import Derived.Test.YtaajedeapmphpaaA18
namespace Go.Proofs.Ytaajedeapmphpaa
open Go.RowKit
set_option maxRecDepth 100000
set_option maxHeartbeats 20000000
/-! ### The example -/
def emK : List (BitVec 32) := [0, 0, 0, 0, 1650680675, 1650680675, 1650680675, 1650680675, 2610469065, 4194040746, 2610469065, 4194040746, 2425828432, 1768738810, 4076099379, 185576601, 3993426555, 2271876481, 1973306034, 2123492907, 2133732232, 4165221897, 2379906235, 4081816208, 3965799301, 337999244, 2583628087, 1790221223, 561321863, 894460427, 2897177404, 3323719835, 251200307, 1000956216, 2533755396, 1360919199, 2983516386, 2323495386, 494646238, 1281771841, 3035585483, 1049813521, 602493391, 1871648910]
def emS (i : Nat) : List (BitVec 8) := nth [] [[6, 2, 3, 0, 0, 0, 0, 0, 0, 0, 0, 0, 0, 0, 0, 0], [25, 12, 12, 20, 1, 0, 0, 0, 25, 40, 48, 24, 61, 40, 20, 20], [115, 124, 50, 38, 93, 0, 73, 15, 233, 94, 58, 162, 96, 51, 8, 31], [112, 133, 152, 162, 222, 55, 185, 179, 197, 100, 86, 29, 129, 136, 84, 173], [221, 37, 204, 146, 98, 171, 69, 177, 94, 12, 27, 27, 54, 246, 46, 173], [122, 84, 105, 44, 208, 21, 217, 189, 120, 19, 179, 209, 121, 45, 158, 139], [248, 131, 85, 190, 9, 195, 253, 136, 10, 130, 10, 61, 118, 35, 37, 15], [192, 183, 44, 225, 147, 152, 231, 99, 48, 95, 158, 220, 234, 59, 229, 37], [159, 237, 168, 213, 243, 120, 200, 186, 40, 181, 24, 118, 182, 242, 118, 39], [162, 76, 177, 6, 207, 138, 20, 38, 195, 239, 150, 58, 255, 153, 209, 94]] i
def emB : Nat → BitVec 8 := at8 [6, 2, 3]
theorem emK_eq : ksch 4 (fun _ => 0#8) = emK := by decide +kernel
theorem emS_zero : ∀ j : Fin 16, mkB (at32 emK) 0 emB j.val = at8 (emS 0) j.val := by decide +kernel
theorem emS_step : ∀ (i : Fin 9) (j : Fin 16), mkB (at32 emK) (i.val + 1) (miB gE (shB 1 (suB sbN (at8 (emS i.val))))) j.val = at8 (emS (i.val + 1)) j.val := by decide +kernel
theorem emS_end : mkB (at32 emK) 10 (shB 1 (suB sbN (at8 (emS 9)))) 0 ≠ 1#8 := by decide +kernel
theorem em_eS : ∀ i, i ≤ 9 → q16 (eS (at32 emK) emB i) (at8 (emS i))
  | 0, _ => fun j hj => emS_zero ⟨j, hj⟩
  | i + 1, h => q16_trans (mkB_c (miB_c (fun _ _ => rfl) (shB_c (suB_c (em_eS i (by omega)))))) (fun j hj => emS_step ⟨i, by omega⟩ ⟨j, hj⟩)
theorem em_enc : enc 10 (at32 emK) emB 0 ≠ 1#8 := by
  have : enc 10 (at32 emK) emB 0 = mkB (at32 emK) 10 (shB 1 (suB sbN (at8 (emS 9)))) 0 := (mkB_c (shB_c (suB_c (em_eS 9 (by omega))))) 0 (by omega)
  rw [this]
  exact emS_end
def C_l4_key : SpecP := fun A K => ∃ p u, A [arr8 32 p, .bo u] ∧ K (bsf (if u then 32 else 16) p)
def C_l4_whole : SpecP := fun A K => ∃ l p n, A [bsl l p, .nat n] ∧ l ≤ maxLen ∧ n ≤ 1000 ∧ K (bsf (16 * min (l / 16) n) p)
theorem g_l4_whole : Gd 11 (pureP ty C_l4_whole) := by
  refine goodP (E := PG [(9, pureR ty C_r1_Cut)]) (pgOK ⟨g_r1_Cut, trivial⟩) mixes Try.func11 (by kernel_rfl) (by kernel_rfl) ?_
  rintro A K ⟨l, p, n, hA, hl, hn, hK⟩
  refine ⟨_, _, fun _ => none, hA, hK, by kernel_rfl, ⟨rfl, fun _ _ => trivial⟩, ?_⟩
  have hm : maxLen = 9223372036854775807 := by decide
  repeat (first | ((conv => whnf); refine And.intro ?_ ?_; exact sideOf) | ((conv => whnf); refine And.intro (fun _ => ?_) (fun h => nomatch (show true = false from h))) | ((conv => whnf); refine And.intro (fun h => nomatch (show false = true from h)) (fun _ => ?_)) | ((conv => whnf); first | (apply Exists.intro; (repeat apply Exists.intro); refine And.intro ?_ ?_; exact leOf) | (refine Or.inl ?_; (conv => whnf); (repeat apply Exists.intro); refine And.intro ?_ ?_; exact leOf) | (refine Or.inr ?_; (conv => whnf); first | ((repeat apply Exists.intro); refine And.intro ?_ ?_; exact leOf) | (refine Or.inl ?_; (conv => whnf); (repeat apply Exists.intro); refine And.intro ?_ ?_; exact leOf) | (refine Or.inr ?_; (conv => whnf); (repeat apply Exists.intro); refine And.intro ?_ ?_; exact leOf))))
  all_goals try (conv => whnf)
  ((repeat' ((conv => whnf) <;> first | exact trivial | (with_reducible first | refine And.intro ?_ ?_ | refine rows_lt1 ?_ | refine rows_lt2 ?_ ?_ | refine rows_lt3 ?_ ?_ ?_ | refine rows_lt4 ?_ ?_ ?_ ?_ | refine rows_lt5 ?_ ?_ ?_ ?_ ?_ | refine aggs_lt1 ?_ | refine aggs_lt2 ?_ ?_ | refine aggs_lt3 ?_ ?_ ?_ | refine fun (_ : Nat) => ?_) | refine fun (_ : (_ : Nat) < _) => ?_ | exact rfl | exact Nat.le_of_ble_eq_true rfl | (change (_ : Nat) ≤ _; omega) | (change (_ : Nat) = _; omega) | (change (_ : Int) = _; omega))); (all_goals try (conv => whnf)))
theorem unbang {b : Bool} (h : (!b) = false) : b = true := by cases b <;> first | rfl | cases h
theorem em1 (w : Nat → BitVec 32) (V B : Nat → BitVec 8) : q16 (mstp 1 true 10 w V (mstp 1 false 10 w V B).2).2 B := fun j hj => by
  show dec 10 w (enc 10 w (fun j => B j ^^^ V j)) j ^^^ V j = B j
  rw [dec_enc 10 w _ j hj, BitVec.xor_assoc, BitVec.xor_self, BitVec.xor_zero]
theorem em2 (V B : Nat → BitVec 8) (hV : q16 V (at8 [7])) (hB : q16 B (at8 [1, 2, 3])) : (mstp 1 false 10 (at32 (ksch 4 fun _ => 0#8)) V B).2 0 ≠ 1#8 := by
  show enc 10 (at32 (ksch 4 fun _ => 0#8)) (fun j => B j ^^^ V j) 0 ≠ 1#8
  rw [emK_eq, enc_c (g := emB) (fun j hj => ?_) 0 (by omega)]
  · exact em_enc
  · show B j ^^^ V j = emB j
    rw [hV j hj, hB j hj]
    have : ∀ j : Fin 16, at8 [1, 2, 3] j.val ^^^ at8 [7] j.val = emB j.val := by decide
    exact this ⟨j, hj⟩
def C_l4_awake : SpecP := fun A K => A [] ∧ K (.bo true)
theorem g_l4_awake : Gd 7 (pureP ty C_l4_awake) := by
  refine goodP (E := PG [(8, pureP ty C_mode_New4), (12, pureP ty C_Step), (25, pureP ty C_r3_Xor), (24, pureP ty C_r3_Encrypt4)]) (pgOK ⟨g_mode_New4, g_mode_Step, g_r3_Xor, g_r3_Encrypt4, trivial⟩) mixes Try.func7 (by kernel_rfl) (by kernel_rfl) ?_
  rintro A K ⟨hA, hK⟩
  refine ⟨_, _, fun _ => none, hA, hK, by kernel_rfl, trivial, ?_⟩
  repeat (first | ((conv => whnf); refine And.intro ?_ ?_; exact sideOf) | ((conv => whnf); refine And.intro (fun _ => ?_) (fun h => nomatch (show true = false from h))) | ((conv => whnf); refine And.intro (fun h => nomatch (show false = true from h)) (fun _ => ?_)) | ((conv => whnf); first | (apply Exists.intro; (repeat apply Exists.intro); refine And.intro ?_ ?_; exact leOf) | (refine Or.inl ?_; (conv => whnf); (repeat apply Exists.intro); refine And.intro ?_ ?_; exact leOf) | (refine Or.inr ?_; (conv => whnf); first | ((repeat apply Exists.intro); refine And.intro ?_ ?_; exact leOf) | (refine Or.inl ?_; (conv => whnf); (repeat apply Exists.intro); refine And.intro ?_ ?_; exact leOf) | (refine Or.inr ?_; (conv => whnf); (repeat apply Exists.intro); refine And.intro ?_ ?_; exact leOf))))
  all_goals try (conv => whnf)
  refine And.intro (fun _ => ?_) (bad (eqB_agg fun i hi => ?_))
  rotate_left
  · show AEq (.u8 _) (.u8 _)
    exact em1 _ _ _ i hi
  repeat (first | ((conv => whnf); refine And.intro ?_ ?_; exact sideOf) | ((conv => whnf); refine And.intro (fun _ => ?_) (fun h => nomatch (show true = false from h))) | ((conv => whnf); refine And.intro (fun h => nomatch (show false = true from h)) (fun _ => ?_)) | ((conv => whnf); first | (apply Exists.intro; (repeat apply Exists.intro); refine And.intro ?_ ?_; exact leOf) | (refine Or.inl ?_; (conv => whnf); (repeat apply Exists.intro); refine And.intro ?_ ?_; exact leOf) | (refine Or.inr ?_; (conv => whnf); first | ((repeat apply Exists.intro); refine And.intro ?_ ?_; exact leOf) | (refine Or.inl ?_; (conv => whnf); (repeat apply Exists.intro); refine And.intro ?_ ?_; exact leOf) | (refine Or.inr ?_; (conv => whnf); (repeat apply Exists.intro); refine And.intro ?_ ?_; exact leOf))))
  all_goals try (conv => whnf)
  refine And.intro (fun _ => ?_) (fun h => ?_)
  rotate_left
  · refine absurd ((show _ = _ from eqB_iff.1 (unbang h) 0 (by decide)).trans (em1 _ _ _ 0 (by decide))) (em2 _ _ (fun j hj => ?_) (fun j hj => ?_))
    all_goals
      rcases j with _ | _ | _ | _ | _ | _ | _ | _ | _ | _ | _ | _ | _ | _ | _ | _ | j
      all_goals first | exact rfl | omega
  repeat (first | ((conv => whnf); refine And.intro ?_ ?_; exact sideOf) | ((conv => whnf); refine And.intro (fun _ => ?_) (fun h => nomatch (show true = false from h))) | ((conv => whnf); refine And.intro (fun h => nomatch (show false = true from h)) (fun _ => ?_)) | ((conv => whnf); first | (apply Exists.intro; (repeat apply Exists.intro); refine And.intro ?_ ?_; exact leOf) | (refine Or.inl ?_; (conv => whnf); (repeat apply Exists.intro); refine And.intro ?_ ?_; exact leOf) | (refine Or.inr ?_; (conv => whnf); first | ((repeat apply Exists.intro); refine And.intro ?_ ?_; exact leOf) | (refine Or.inl ?_; (conv => whnf); (repeat apply Exists.intro); refine And.intro ?_ ?_; exact leOf) | (refine Or.inr ?_; (conv => whnf); (repeat apply Exists.intro); refine And.intro ?_ ?_; exact leOf))))
  all_goals try (conv => whnf)
  exact eqB_agg fun i hi => rfl
end Go.Proofs.Ytaajedeapmphpaa
