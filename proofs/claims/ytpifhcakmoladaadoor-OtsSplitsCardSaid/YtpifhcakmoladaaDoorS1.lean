/- Hash-tree signatures that are too short: what verifying them tells. -/
import Derived.Test.YtpifhcakmoladaaDoorK1
import Derived.Test.YtpifhcakmoladaaDoorGG
namespace Go.Proofs.YtpifhcakmoladaaDoor
open Go.RowKit
set_option maxRecDepth 100000
set_option maxHeartbeats 20000000
attribute [local irreducible] hsh rst sha256 press dig
def prA (w p l : Nat) : AV := .agg false 3 (nth .junk [.nat w, .nat p, .nat l])
theorem own_pr (w p l : Nat) : Own (prA w p l) := fun i hi => by
  rcases i with _ | _ | _ | i
  · exact trivial
  · exact trivial
  · exact trivial
  · omega
def otOK (t : BitVec 32) : Prop := 1#32 ≤ t ∧ t ≤ 4#32
instance (t : BitVec 32) : Decidable (otOK t) := inferInstanceAs (Decidable (_ ∧ _))
def tw (t : BitVec 32) : Nat := nth 0 [0, 1, 2, 4, 8] t.toNat
def tp (t : BitVec 32) : Nat := nth 0 [0, 265, 133, 67, 34] t.toNat
def tlS (t : BitVec 32) : Nat := nth 0 [0, 7, 6, 4, 0] t.toNat
theorem ot_cases {t : BitVec 32} (h : otOK t) : t = 1#32 ∨ t = 2#32 ∨ t = 3#32 ∨ t = 4#32 := by
  obtain ⟨h1, h2⟩ := h
  have a1 : 1 ≤ t.toNat := by simpa [BitVec.le_def] using h1
  have a2 : t.toNat ≤ 4 := by simpa [BitVec.le_def] using h2
  obtain e | e | e | e : t.toNat = 1 ∨ t.toNat = 2 ∨ t.toNat = 3 ∨ t.toNat = 4 := by omega
  · exact .inl (BitVec.eq_of_toNat_eq e)
  · exact .inr (.inl (BitVec.eq_of_toNat_eq e))
  · exact .inr (.inr (.inl (BitVec.eq_of_toNat_eq e)))
  · exact .inr (.inr (.inr (BitVec.eq_of_toNat_eq e)))
def C_ots_Params : SpecP := fun A K => ∃ t, A [.u32 t] ∧ ((¬ otOK t ∧ K (tupOf [prA 0 0 0, .bo false])) ∨ (otOK t ∧ K (tupOf [prA (tw t) (tp t) (tlS t), .bo true])))
theorem g_ots_Params : Gd 11 (pureP ty C_ots_Params) := by
  refine goodP (E := PG []) (pgOK trivial) mixes Tryd.func11 (by kernel_rfl) (by kernel_rfl) ?_
  rintro A K ⟨t, hA, ⟨ht, hK⟩ | ⟨ht, hK⟩⟩
  · refine ⟨_, _, fun _ => none, hA, hK, by kernel_rfl, own_res (own_pr _ _ _) trivial, ?_⟩
    repeat (first | ((conv => whnf); refine And.intro ?_ ?_; exact sideOf) | ((conv => whnf); refine NilE.some ?_ ?_; exact sideOf) | ((conv => whnf); refine And.intro (fun _ => ?_) (fun h => nomatch (show true = false from h))) | ((conv => whnf); refine And.intro (fun h => nomatch (show false = true from h)) (fun _ => ?_)) | ((conv => whnf); first | (apply Exists.intro; (repeat apply Exists.intro); refine And.intro ?_ ?_; exact leOf) | (refine Or.inl ?_; (conv => whnf); (repeat apply Exists.intro); refine And.intro ?_ ?_; exact leOf) | (refine Or.inr ?_; (conv => whnf); first | ((repeat apply Exists.intro); refine And.intro ?_ ?_; exact leOf) | (refine Or.inl ?_; (conv => whnf); (repeat apply Exists.intro); refine And.intro ?_ ?_; exact leOf) | (refine Or.inr ?_; (conv => whnf); (repeat apply Exists.intro); refine And.intro ?_ ?_; exact leOf))))
    all_goals try (conv => whnf)
    refine And.intro (fun h => ?_) (fun h => ?_)
    · skip
      repeat (first | ((conv => whnf); refine And.intro ?_ ?_; exact sideOf) | ((conv => whnf); refine NilE.some ?_ ?_; exact sideOf) | ((conv => whnf); refine And.intro (fun _ => ?_) (fun h => nomatch (show true = false from h))) | ((conv => whnf); refine And.intro (fun h => nomatch (show false = true from h)) (fun _ => ?_)) | ((conv => whnf); first | (apply Exists.intro; (repeat apply Exists.intro); refine And.intro ?_ ?_; exact leOf) | (refine Or.inl ?_; (conv => whnf); (repeat apply Exists.intro); refine And.intro ?_ ?_; exact leOf) | (refine Or.inr ?_; (conv => whnf); first | ((repeat apply Exists.intro); refine And.intro ?_ ?_; exact leOf) | (refine Or.inl ?_; (conv => whnf); (repeat apply Exists.intro); refine And.intro ?_ ?_; exact leOf) | (refine Or.inr ?_; (conv => whnf); (repeat apply Exists.intro); refine And.intro ?_ ?_; exact leOf))))
      all_goals try (conv => whnf)
      ((repeat' ((conv => whnf) <;> first | exact trivial | (with_reducible first | refine And.intro ?_ ?_ | refine rows_lt1 ?_ | refine rows_lt2 ?_ ?_ | refine rows_lt3 ?_ ?_ ?_ | refine rows_lt4 ?_ ?_ ?_ ?_ | refine rows_lt5 ?_ ?_ ?_ ?_ ?_ | refine aggs_lt1 ?_ | refine aggs_lt2 ?_ ?_ | refine aggs_lt3 ?_ ?_ ?_ | refine fun (_ : Nat) => ?_) | refine fun (_ : (_ : Nat) < _) => ?_ | exact rfl | exact Nat.le_of_ble_eq_true rfl | (change (_ : Nat) ≤ _; omega) | (change (_ : Nat) = _; omega) | (change (_ : Int) = _; omega))); (all_goals try (conv => whnf)))
    · have h1 : ¬ t < 1#32 := of_decide_eq_false h
      repeat (first | ((conv => whnf); refine And.intro ?_ ?_; exact sideOf) | ((conv => whnf); refine NilE.some ?_ ?_; exact sideOf) | ((conv => whnf); refine And.intro (fun _ => ?_) (fun h => nomatch (show true = false from h))) | ((conv => whnf); refine And.intro (fun h => nomatch (show false = true from h)) (fun _ => ?_)) | ((conv => whnf); first | (apply Exists.intro; (repeat apply Exists.intro); refine And.intro ?_ ?_; exact leOf) | (refine Or.inl ?_; (conv => whnf); (repeat apply Exists.intro); refine And.intro ?_ ?_; exact leOf) | (refine Or.inr ?_; (conv => whnf); first | ((repeat apply Exists.intro); refine And.intro ?_ ?_; exact leOf) | (refine Or.inl ?_; (conv => whnf); (repeat apply Exists.intro); refine And.intro ?_ ?_; exact leOf) | (refine Or.inr ?_; (conv => whnf); (repeat apply Exists.intro); refine And.intro ?_ ?_; exact leOf))))
      all_goals try (conv => whnf)
      refine And.intro (fun h => ?_) (fun h => ?_)
      · skip
        repeat (first | ((conv => whnf); refine And.intro ?_ ?_; exact sideOf) | ((conv => whnf); refine NilE.some ?_ ?_; exact sideOf) | ((conv => whnf); refine And.intro (fun _ => ?_) (fun h => nomatch (show true = false from h))) | ((conv => whnf); refine And.intro (fun h => nomatch (show false = true from h)) (fun _ => ?_)) | ((conv => whnf); first | (apply Exists.intro; (repeat apply Exists.intro); refine And.intro ?_ ?_; exact leOf) | (refine Or.inl ?_; (conv => whnf); (repeat apply Exists.intro); refine And.intro ?_ ?_; exact leOf) | (refine Or.inr ?_; (conv => whnf); first | ((repeat apply Exists.intro); refine And.intro ?_ ?_; exact leOf) | (refine Or.inl ?_; (conv => whnf); (repeat apply Exists.intro); refine And.intro ?_ ?_; exact leOf) | (refine Or.inr ?_; (conv => whnf); (repeat apply Exists.intro); refine And.intro ?_ ?_; exact leOf))))
        all_goals try (conv => whnf)
        ((repeat' ((conv => whnf) <;> first | exact trivial | (with_reducible first | refine And.intro ?_ ?_ | refine rows_lt1 ?_ | refine rows_lt2 ?_ ?_ | refine rows_lt3 ?_ ?_ ?_ | refine rows_lt4 ?_ ?_ ?_ ?_ | refine rows_lt5 ?_ ?_ ?_ ?_ ?_ | refine aggs_lt1 ?_ | refine aggs_lt2 ?_ ?_ | refine aggs_lt3 ?_ ?_ ?_ | refine fun (_ : Nat) => ?_) | refine fun (_ : (_ : Nat) < _) => ?_ | exact rfl | exact Nat.le_of_ble_eq_true rfl | (change (_ : Nat) ≤ _; omega) | (change (_ : Nat) = _; omega) | (change (_ : Int) = _; omega))); (all_goals try (conv => whnf)))
      · have h2 : ¬ 4#32 < t := of_decide_eq_false h
        exact absurd ⟨BitVec.not_lt.1 h1, BitVec.not_lt.1 h2⟩ ht
  · obtain rfl | rfl | rfl | rfl := ot_cases ht
    all_goals
      refine ⟨_, _, fun _ => none, hA, hK, by kernel_rfl, own_res (own_pr _ _ _) trivial, ?_⟩
      repeat (first | ((conv => whnf); refine And.intro ?_ ?_; exact sideOf) | ((conv => whnf); refine NilE.some ?_ ?_; exact sideOf) | ((conv => whnf); refine And.intro (fun _ => ?_) (fun h => nomatch (show true = false from h))) | ((conv => whnf); refine And.intro (fun h => nomatch (show false = true from h)) (fun _ => ?_)) | ((conv => whnf); first | (apply Exists.intro; (repeat apply Exists.intro); refine And.intro ?_ ?_; exact leOf) | (refine Or.inl ?_; (conv => whnf); (repeat apply Exists.intro); refine And.intro ?_ ?_; exact leOf) | (refine Or.inr ?_; (conv => whnf); first | ((repeat apply Exists.intro); refine And.intro ?_ ?_; exact leOf) | (refine Or.inl ?_; (conv => whnf); (repeat apply Exists.intro); refine And.intro ?_ ?_; exact leOf) | (refine Or.inr ?_; (conv => whnf); (repeat apply Exists.intro); refine And.intro ?_ ?_; exact leOf))))
      all_goals try (conv => whnf)
      ((repeat' ((conv => whnf) <;> first | exact trivial | (with_reducible first | refine And.intro ?_ ?_ | refine rows_lt1 ?_ | refine rows_lt2 ?_ ?_ | refine rows_lt3 ?_ ?_ ?_ | refine rows_lt4 ?_ ?_ ?_ ?_ | refine rows_lt5 ?_ ?_ ?_ ?_ ?_ | refine aggs_lt1 ?_ | refine aggs_lt2 ?_ ?_ | refine aggs_lt3 ?_ ?_ ?_ | refine fun (_ : Nat) => ?_) | refine fun (_ : (_ : Nat) < _) => ?_ | exact rfl | exact Nat.le_of_ble_eq_true rfl | (change (_ : Nat) ≤ _; omega) | (change (_ : Nat) = _; omega) | (change (_ : Int) = _; omega))); (all_goals try (conv => whnf)))
def C_lms_word : SpecP := fun A K => ∃ l b, A [bsl l b] ∧ 4 ≤ l ∧ K (.u32 (w4 (b 0) (b 1) (b 2) (b 3)))
def hgOK (t : BitVec 32) : Prop := (5#32 ≤ t ∧ t ≤ 9#32) ∨ (3758096384#32 < t ∧ t ≤ 3758096388#32)
instance (t : BitVec 32) : Decidable (hgOK t) := inferInstanceAs (Decidable (_ ∨ _))
def C_lms_Height : SpecP := fun A K => ∃ t, A [.u32 t] ∧ K (tupOf [.junk, .bo (decide (hgOK t))])
def keA (a b : BitVec 32) (id : Nat → BitVec 8) : AV := .agg false 3 (nth .junk [.u32 a, .u32 b, arr8 16 id])
theorem own_ke (a b : BitVec 32) (id : Nat → BitVec 8) : Own (keA a b id) := fun i hi => by
  rcases i with _ | _ | _ | i
  · exact trivial
  · exact trivial
  · exact fun _ _ => trivial
  · omega
def C_lms_check : SpecP := fun A K => ∃ a b id, A [keA a b id] ∧ (((otOK b ∧ hgOK a) ∧ K (.nat 0)) ∨ (¬ (otOK b ∧ hgOK a) ∧ K (.nat 6)))
def pbOK (b : Nat → BitVec 8) : Prop := otOK (w4 (b 4) (b 5) (b 6) (b 7)) ∧ hgOK (w4 (b 0) (b 1) (b 2) (b 3))
instance (b : Nat → BitVec 8) : Decidable (pbOK b) := inferInstanceAs (Decidable (_ ∧ _))
def keO (b : Nat → BitVec 8) : AV := keA (w4 (b 0) (b 1) (b 2) (b 3)) (w4 (b 4) (b 5) (b 6) (b 7)) (fun j => b (8 + j))
def C_readKey : SpecP := fun A K => ∃ l b, A [bsl l b] ∧ ((l ≠ 56 ∧ K (tupOf [keA 0 0 fun _ => 0, .nat 2])) ∨ (pbOK b ∧ l = 56 ∧ K (tupOf [keO b, .nat 0])) ∨ (¬ pbOK b ∧ l = 56 ∧ K (tupOf [keO b, .nat 6])))
abbrev eA (e : Nat) : AV := tupOf [.u32 0, .nils, .u32 0, .nils, .nat e]
theorem own_e (e : Nat) : Own (eA e) := fun i hi => by
  rcases i with _ | _ | _ | _ | _ | i
  · exact trivial
  · exact trivial
  · exact trivial
  · exact trivial
  · exact trivial
  · exact absurd hi (by show ¬ i + 5 < 5; omega)
def C_reject : SpecP := fun A K => ∃ e, A [.nat e] ∧ K (eA e)
def C_lms_cut : SpecP := fun A K => ∃ l b n, A [bsl l b, .nat n] ∧ n ≤ l ∧ K (tupOf [bsl n b, bsl (l - n) (fun j => b (n + j))])
theorem norow2 (a b : AV) (ha : NoRow a) (hb : NoRow b) : NoRow (tupOf [a, b]) := fun i hi => by
  rcases i with _ | _ | i
  · exact ha
  · exact hb
  · exact absurd hi (by show ¬ i + 2 < 2; omega)
theorem norow_b (l : Nat) (b : Nat → BitVec 8) : NoRow (bsl l b) := ⟨rfl, fun _ _ => trivial⟩
def C_oneSize : SpecP := fun A K => ∃ w p l, A [prA w p l] ∧ p ≤ 1000 ∧ K (.nat (36 + 32 * p))
def sgT (b : Nat → BitVec 8) : BitVec 32 := w4 (b 4) (b 5) (b 6) (b 7)
theorem tp_le (t : BitVec 32) (h : otOK t) : 34 ≤ tp t ∧ tp t ≤ 265 := by
  obtain rfl | rfl | rfl | rfl := ot_cases h <;> decide
def C_Parts_s : SpecP := fun A K => ∃ l b, A [bsl l b] ∧ l ≤ 12 ∧ ((l < 8 ∧ K (eA 2)) ∨ (¬ otOK (sgT b) ∧ 8 ≤ l ∧ K (eA 6)) ∨ (otOK (sgT b) ∧ 8 ≤ l ∧ K (eA 2)))
def dgZ : AV := arr8 32 fun _ => 0
/-- What verifying tells of a signature of 12 bytes at most. -/
def vrS (lp : Nat) (pub : Nat → BitVec 8) (l : Nat) (b : Nat → BitVec 8) : Nat :=
  if lp ≠ 56 then 2 else if ¬ pbOK pub then 6 else if l < 8 then 2 else if ¬ otOK (sgT b) then 6 else 2
theorem own_dg (n : Nat) : Own (tupOf [dgZ, .nat n]) := own_res (show Own dgZ from fun _ _ => trivial) (show Own (.nat n) from trivial)
def C_lms_Root : SpecP := fun A K => ∃ lp pub lm msg l b, A [bsl lp pub, bsl lm msg, bsl l b] ∧ l ≤ 12 ∧ K (tupOf [dgZ, .nat (vrS lp pub l b)])
theorem vr_ne (lp : Nat) (pub : Nat → BitVec 8) (l : Nat) (b : Nat → BitVec 8) : vrS lp pub l b = 2 ∨ vrS lp pub l b = 6 := by
  unfold vrS
  split
  · exact .inl rfl
  · split
    · exact .inr rfl
    · split
      · exact .inl rfl
      · split
        · exact .inr rfl
        · exact .inl rfl
def C_lms_Verify : SpecP := fun A K => ∃ lp pub lm msg l b, A [bsl lp pub, bsl lm msg, bsl l b] ∧ l ≤ 12 ∧ K (.nat (vrS lp pub l b))
end Go.Proofs.YtpifhcakmoladaaDoor
