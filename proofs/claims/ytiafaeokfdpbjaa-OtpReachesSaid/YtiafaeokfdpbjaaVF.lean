/- A chip's fuses: what is programmed wholly. -/
import Derived.Test.YtiafaeokfdpbjaaVP
namespace Go.Proofs.Ytiafaeokfdpbjaa
open Go.RowKit
set_option maxRecDepth 100000
set_option maxHeartbeats 20000000
theorem addL_none (w : Nat → BitVec 32) (l : List Wr) (h : ∀ x, x ∈ l → x.2 ||| w x.1 = w x.1) : addL w l = [] := by
  unfold addL
  rw [List.filter_eq_nil_iff]
  intro y hy
  obtain ⟨x, hx, rfl⟩ := List.mem_map.1 hy
  simp [h x hx]
theorem addL_one' (w : Nat → BitVec 32) (x : Wr) (p : Nat) : orV (addL w [x]) p ||| w p = orV [x] p ||| w p := by
  obtain ⟨a, v⟩ := x
  by_cases e : v ||| w a = w a
  · rw [addL_none w _ fun y hy => by obtain rfl := List.mem_singleton.1 hy; exact e]
    show (0#32 ||| w p) = ((if a = p then v else 0) ||| 0#32) ||| w p
    rw [BitVec.zero_or, BitVec.or_zero]
    by_cases h : a = p
    · rw [if_pos h, ← h]; exact e.symm
    · rw [if_neg h]; exact (BitVec.zero_or).symm
  · rw [show addL w [(a, v)] = [(a, v ||| w a)] from by
      unfold addL
      show List.filter _ [(a, v ||| w a)] = _
      rw [List.filter_cons, if_pos (by simpa using e)]; rfl]
    show ((if a = p then v ||| w a else 0) ||| 0#32) ||| w p = ((if a = p then v else 0) ||| 0#32) ||| w p
    rw [BitVec.or_zero, BitVec.or_zero]
    by_cases h : a = p
    · rw [if_pos h, if_pos h, h, BitVec.or_assoc, BitVec.or_self]
    · rw [if_neg h, if_neg h]
theorem addL_or (w : Nat → BitVec 32) (p : Nat) : ∀ l : List Wr, orV (addL w l) p ||| w p = orV l p ||| w p
  | [] => by rw [addL_nil]
  | x :: l => by
    rw [show x :: l = [x] ++ l from rfl, addL_app, orV_app, orV_app, BitVec.or_assoc, addL_or w p l, ← BitVec.or_assoc, BitVec.or_comm (orV (addL w [x]) p), BitVec.or_assoc, addL_one', ← BitVec.or_assoc, BitVec.or_comm (orV l p)]
theorem do_add (w : Nat → BitVec 32) (l : List Wr) (p : Nat) : doW w (addL w l) p = orV l p ||| w p := by
  rw [doW_or, BitVec.or_comm, addL_or]
theorem orV_mem {l : List Wr} {x : Wr} (h : x ∈ l) : x.2 ||| orV l x.1 = orV l x.1 := by
  induction l with
  | nil => cases h
  | cons y l ih =>
    show x.2 ||| ((if y.1 = x.1 then y.2 else 0) ||| orV l x.1) = _ ||| _
    rcases List.mem_cons.1 h with rfl | h
    · rw [if_pos rfl, ← BitVec.or_assoc, BitVec.or_self]
    · rw [← BitVec.or_assoc, BitVec.or_comm x.2, BitVec.or_assoc, ih h]
theorem add_again (w : Nat → BitVec 32) (l : List Wr) : addL (doW w (addL w l)) l = [] := addL_none _ _ fun x hx => by
  rw [do_add, ← BitVec.or_assoc, orV_mem hx]
theorem orV_single (a : Nat) (v : BitVec 32) (p : Nat) : orV [(a, v)] p = if a = p then v else 0 := by
  show (if a = p then v else 0) ||| 0#32 = _
  rw [BitVec.or_zero]
theorem zor (x : BitVec 32) : (0 : BitVec 32) ||| x = x := BitVec.zero_or
/-- A field that is set completely. -/
theorem cntB_or_on (v m : BitVec 32) (a : Nat) (h : ∀ k, k < 8 → m.getLsbD (a + k) = true) : ∀ n, n ≤ 8 → cntB (m ||| v) a n = n
  | 0, _ => rfl
  | n + 1, hn => by
    unfold cntB
    rw [cntB_or_on v m a h n (by omega), BitVec.getLsbD_or, h n (by omega)]; rfl
theorem cntB_or_off (v m : BitVec 32) (a : Nat) (h : ∀ k, k < 8 → m.getLsbD (a + k) = false) : ∀ n, n ≤ 8 → cntB (m ||| v) a n = cntB v a n
  | 0, _ => rfl
  | n + 1, hn => by
    unfold cntB
    rw [cntB_or_off v m a h n (by omega), BitVec.getLsbD_or, h n (by omega), Bool.false_or]
theorem onF_full (v : BitVec 32) (f : Nat) (hf : f < 4) : onF (fullV f ||| v) f = true := by
  unfold onF
  rw [cntB_or_on v (fullV f) (8 * f) (fun k hk => by
    have := fullV_bit ⟨f, hf⟩ ⟨f, hf⟩ ⟨k, hk⟩
    rw [this]; exact decide_eq_true rfl) 8 (Nat.le_refl 8)]; rfl
theorem onF_other (v : BitVec 32) (f g : Nat) (hf : f < 4) (hg : g < 4) (hne : ¬ f = g) : onF (fullV f ||| v) g = onF v g := by
  unfold onF
  rw [cntB_or_off v (fullV f) (8 * g) (fun k hk => by
    have := fullV_bit ⟨f, hf⟩ ⟨g, hg⟩ ⟨k, hk⟩
    rw [this]; exact decide_eq_false fun q => hne (Fin.mk.inj q)) 8 (Nat.le_refl 8)]
theorem lifeW_ge {v : BitVec 32} {i : Nat} (hi : i < 4) (h : onF v i = true) : i + 1 ≤ lifeW v := by
  unfold lifeW
  rcases i with _ | _ | _ | _ | i
  · rw [h]; cases onF v 3 <;> cases onF v 2 <;> cases onF v 1 <;> decide
  · rw [h]; cases onF v 3 <;> cases onF v 2 <;> cases onF v 0 <;> decide
  · rw [h]; cases onF v 3 <;> cases onF v 1 <;> cases onF v 0 <;> decide
  · rw [h]; cases onF v 2 <;> cases onF v 1 <;> cases onF v 0 <;> decide
  · omega
theorem life_set (v : BitVec 32) (f : Nat) (hf : f < 4) (h : lifeW v ≤ f) : lifeW (fullV f ||| v) = f + 1 :=
  lifeW_at _ f hf (onF_full v f hf) fun i h1 h2 => by
    rw [onF_other v f i hf h2 (by omega)]
    cases ho : onF v i with
    | false => rfl
    | true => have := lifeW_ge h2 ho; omega
theorem orV_key1 (p id : Nat → BitVec 8) (i : Nat) (h : i < 14) : orV (keyL p id) (9 + i) = pkV p i := by
  unfold keyL
  rw [orV_app, orV_pack _ _ _ _ h, orV_pack_out _ _ _ _ (by omega)]; exact BitVec.or_zero
theorem orV_key2 (p id : Nat → BitVec 8) (i : Nat) (h : i < 4) : orV (keyL p id) (23 + i) = pkV id i := by
  unfold keyL
  rw [orV_app, orV_pack _ _ _ _ h, orV_pack_out _ _ _ _ (by omega)]; exact BitVec.zero_or
theorem good_or' {a b : BitVec 32} (h : a &&& ~~~b = 0) : b ||| a = b := by
  apply BitVec.eq_of_getLsbD_eq
  intro i hi
  rw [BitVec.getLsbD_or]
  cases ha : a.getLsbD i with
  | true => rw [and_not_bit h i ha]; rfl
  | false => rw [Bool.or_false]
/-! ### The five acts -/
theorem rc_life {w : Nat → BitVec 32} {z : Int} (h : (toLife w z).2 = 0) : (1 ≤ z ∧ z ≤ 4) ∧ ((lifeW (doW w (toLife w z).1 0) : Nat) : Int) = z ∧ ∀ i, ¬ i < 1 → doW w (toLife w z).1 i = w i := by
  by_cases h1 : 1 ≤ z ∧ z ≤ 4
  · by_cases h2 : z ≤ (lifeW (w 0) : Int)
    · have e : (toLife w z).2 = 14 := by unfold toLife; rw [if_neg (fun q => q h1), if_pos h2]
      rw [e] at h; cases h
    · have e : (toLife w z).1 = addL w [(0, fullV (z - 1).toNat)] := by unfold toLife; rw [if_neg (fun q => q h1), if_neg h2]
      rw [e]
      refine ⟨h1, ?_, fun i hi => ?_⟩
      · rw [do_add, orV_single, if_pos rfl, life_set _ _ (by omega) (by omega)]; omega
      · rw [do_add, orV_single, if_neg (by omega), zor]
  · have e : (toLife w z).2 = 1 := by unfold toLife; rw [if_pos h1]
    rw [e] at h; cases h
theorem ctr_or (w : Nat → BitVec 32) (z : Int) (p : Nat) : doW w (addL w (ctrL z 8)) p = if 1 ≤ p ∧ p < 9 then lowV (z - 32 * ((p - 1 : Nat) : Int)) ||| w p else w p := by
  rw [doW_or, BitVec.or_comm]; exact orV_ctr w z 8 p
theorem ctr_bit (w : Nat → BitVec 32) (n : Nat) (hn : n ≤ 255) (i : Nat) (hi : i < 256) : ctB (doW w (addL w (ctrL (n : Int) 8))) i = (decide (i < n) || ctB w i) := by
  unfold ctB
  rw [ctr_or, if_pos (by omega), BitVec.getLsbD_or, lowV_bit _ _ (by omega)]
  congr 1
  apply decide_eq_decide.2
  unfold clampN
  omega
theorem rc_counter {w : Nat → BitVec 32} {z : Int} (h : (toCounter w z).2 = 0) : (0 ≤ z ∧ z ≤ 255) ∧ (z ≤ ((cntF (doW w (toCounter w z).1) 255 : Nat) : Int)) ∧ (((cntF (doW w (toCounter w z).1) 255 : Nat) : Int) = z ∨ z ≤ 254 ∧ ctB w z.toNat = true) ∧
    (∀ i, i < 1 ∨ 9 ≤ i → doW w (toCounter w z).1 i = w i) ∧ (toCounter (doW w (toCounter w z).1) z).1 = [] := by
  by_cases h1 : 0 ≤ z ∧ z ≤ 255
  · by_cases h2 : z < (cntF w 255 : Int)
    · have e : (toCounter w z).2 = 15 := by unfold toCounter; rw [if_neg (fun q => q h1), if_pos h2]
      rw [e] at h; cases h
    · have e : (toCounter w z).1 = addL w (ctrL z 8) := by unfold toCounter; rw [if_neg (fun q => q h1), if_neg h2]
      rw [e]
      obtain ⟨n, rfl⟩ : ∃ n : Nat, z = (n : Int) := ⟨z.toNat, by omega⟩
      obtain ⟨a1, a2, a3⟩ := cntF_spec (doW w (addL w (ctrL (n : Int) 8))) 255
      refine ⟨h1, ?_, ?_, fun i hi => by rw [ctr_or, if_neg (by omega)], ?_⟩
      · rcases Nat.lt_or_ge (cntF (doW w (addL w (ctrL (n : Int) 8))) 255) n with hl | hl
        · have := a3 (by omega)
          rw [ctr_bit w n (by omega) _ (by omega), decide_eq_true hl] at this; cases this
        · omega
      · by_cases he : cntF (doW w (addL w (ctrL (n : Int) 8))) 255 = n
        · exact .inl (by rw [he])
        · rcases Nat.lt_or_ge n (cntF (doW w (addL w (ctrL (n : Int) 8))) 255) with hl | hl
          · have := a2 n hl
            rw [ctr_bit w n (by omega) _ (by omega), decide_eq_false (Nat.lt_irrefl n), Bool.false_or] at this
            exact .inr ⟨by omega, this⟩
          · have := a3 (by omega)
            rw [ctr_bit w n (by omega) _ (by omega), decide_eq_true (show cntF _ 255 < n by omega)] at this; cases this
      · unfold toCounter
        rw [if_neg (fun q => q h1)]
        split
        · rfl
        · exact add_again w _
  · have e : (toCounter w z).2 = 1 := by unfold toCounter; rw [if_pos h1]
    rw [e] at h; cases h
theorem rc_key {w : Nat → BitVec 32} {p id : Nat → BitVec 8} (h : (toKey w 56 p id).2 = 0) :
    (∀ j, j < 56 → wbf (fun i => doW w (toKey w 56 p id).1 (9 + i)) j = p j) ∧ (∀ j, j < 16 → wbf (fun i => doW w (toKey w 56 p id).1 (23 + i)) j = id j) ∧
    (∀ i, i < 9 ∨ 27 ≤ i → doW w (toKey w 56 p id).1 i = w i) ∧ (toKey (doW w (toKey w 56 p id).1) 56 p id).1 = [] := by
  by_cases h2 : lifeW (w 0) = 0
  · by_cases h3 : ∀ i, i < 18 → goodI w (keyL p id) i
    · have e : (toKey w 56 p id).1 = addL w (keyL p id) := by unfold toKey; rw [if_neg (fun q => q rfl), if_neg (fun q => q h2), if_pos ((good_all _ _).2 h3)]
      rw [e]
      refine ⟨fun j hj => wbf_pk p _ 14 (fun i hi => ?_) j hj, fun j hj => wbf_pk id _ 4 (fun i hi => ?_) j hj, fun i hi => ?_, ?_⟩
      · show doW w (addL w (keyL p id)) (9 + i) = pkV p i
        rw [do_add, orV_key1 _ _ _ hi]
        have := h3 i (by omega)
        unfold goodI at this
        rw [keyL_1 _ _ _ hi] at this
        exact good_or' this
      · show doW w (addL w (keyL p id)) (23 + i) = pkV id i
        rw [do_add, orV_key2 _ _ _ hi]
        have := h3 (14 + i) (by omega)
        unfold goodI at this
        rw [keyL_2 _ _ _ hi] at this
        exact good_or' this
      · rw [do_add, orV_none _ _ fun x hx q => by have := keyL_mem hx; omega, zor]
      · unfold toKey
        rw [if_neg (fun q => q rfl)]
        split
        · rfl
        · split
          · exact add_again w _
          · rfl
    · have e : (toKey w 56 p id).2 = 11 := by unfold toKey; rw [if_neg (fun q => q rfl), if_neg (fun q => q h2), if_neg (fun q => h3 ((good_all _ _).1 q))]
      rw [e] at h; cases h
  · have e : (toKey w 56 p id).2 = 14 := by unfold toKey; rw [if_neg (fun q => q rfl), if_pos h2]
    rw [e] at h; cases h
theorem rc_row {w : Nat → BitVec 32} {z : Int} {key : Nat → BitVec 8} (h : (toRow w z key).2 = 0) : (0 ≤ z ∧ z < 4) ∧ hasR (doW w (toRow w z key).1) z.toNat key ∧ ∀ i, i < 27 + 9 * z.toNat ∨ 36 + 9 * z.toNat ≤ i → doW w (toRow w z key).1 i = w i := by
  by_cases h1 : 0 ≤ z ∧ z < 4
  · by_cases h2 : emptyB w z.toNat
    · have e : (toRow w z key).1 = rowL z.toNat key := by unfold toRow; rw [if_neg (fun q => q h1), if_neg (fun q => q h2)]
      rw [e]
      exact ⟨h1, hasR_do w _ key h2, fun i hi => do_out w _ key i hi⟩
    · have e : (toRow w z key).2 = 14 := by unfold toRow; rw [if_neg (fun q => q h1), if_pos h2]
      rw [e] at h; cases h
  · have e : (toRow w z key).2 = 1 := by unfold toRow; rw [if_pos h1]
    rw [e] at h; cases h
theorem rc_kill {w : Nat → BitVec 32} {z : Int} (h : (kill w z).2 = 0) : (0 ≤ z ∧ z < 4) ∧ rowE (doW w (kill w z).1 (35 + 9 * z.toNat)) = 17 ∧ (∀ i, i < 35 + 9 * z.toNat ∨ 36 + 9 * z.toNat ≤ i → doW w (kill w z).1 i = w i) ∧ (kill (doW w (kill w z).1) z).1 = [] := by
  by_cases h1 : 0 ≤ z ∧ z < 4
  · have e : (kill w z).1 = addL w [(35 + 9 * z.toNat, fullV 1)] := by unfold kill; rw [if_neg (fun q => q h1)]
    rw [e]
    refine ⟨h1, ?_, fun i hi => ?_, ?_⟩
    · rw [do_add, orV_single, if_pos rfl]
      exact rowE_d (onF_full _ 1 (by decide))
    · rw [do_add, orV_single, if_neg (by omega), zor]
    · unfold kill
      rw [if_neg (fun q => q h1)]
      exact add_again w _
  · have e : (kill w z).2 = 1 := by unfold kill; rw [if_pos h1]
    rw [e] at h; cases h
theorem plan_err {w : Nat → BitVec 32} {d : BitVec 8} {z : Int} {key : Nat → BitVec 8} (h : ¬ (planP w d z key).2 = 0) : (planP w d z key).1 = [] := by
  unfold planP at *
  split at h
  · rename_i h0
    rw [if_pos h0]
    unfold toLife at *
    split
    · rfl
    · split
      · rfl
      · rename_i h1 h2
        rw [if_neg h1, if_neg h2] at h; exact absurd rfl h
  · rename_i h0
    rw [if_neg h0]
    split at h
    · rename_i h0
      rw [if_pos h0]
      unfold toCounter at *
      split
      · rfl
      · split
        · rfl
        · rename_i h1 h2
          rw [if_neg h1, if_neg h2] at h; exact absurd rfl h
    · rename_i h0
      rw [if_neg h0]
      split at h
      · rename_i h0
        rw [if_pos h0]
        unfold toKey at *
        split
        · rfl
        · split
          · rfl
          · split
            · rename_i h1 h2 h3
              rw [if_neg h1, if_neg h2, if_pos h3] at h; exact absurd rfl h
            · rfl
      · rename_i h0
        rw [if_neg h0]
        split at h
        · rename_i h0
          rw [if_pos h0]
          unfold toRow at *
          split
          · rfl
          · split
            · rfl
            · rename_i h1 h2
              rw [if_neg h1, if_neg h2] at h; exact absurd rfl h
        · rename_i h0
          rw [if_neg h0]
          unfold kill at *
          split
          · rfl
          · rename_i h1
            rw [if_neg h1] at h; exact absurd rfl h
end Go.Proofs.Ytiafaeokfdpbjaa
