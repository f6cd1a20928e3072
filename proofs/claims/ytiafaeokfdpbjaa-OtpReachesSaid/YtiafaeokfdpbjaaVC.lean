/- A chip's fuses: plans, and what comes of them. -/
import Derived.Test.YtiafaeokfdpbjaaVA
namespace Go.Proofs.Ytiafaeokfdpbjaa
open Go.RowKit
set_option maxRecDepth 100000
set_option maxHeartbeats 20000000
/-- The public key that is made of a row's key. -/
def kpub (key : Nat → BitVec 8) : Nat → BitVec 8 := at8 (lw 32 key ++ lw 24 key)
def planP (w : Nat → BitVec 32) (d : BitVec 8) (z : Int) (key : Nat → BitVec 8) : List Wr × Nat :=
  if d % BitVec.ofInt 8 5 = BitVec.ofInt 8 0 then toLife w z else if d % BitVec.ofInt 8 5 = BitVec.ofInt 8 1 then toCounter w z
  else if d % BitVec.ofInt 8 5 = BitVec.ofInt 8 2 then toKey w 56 (kpub key) key else if d % BitVec.ofInt 8 5 = BitVec.ofInt 8 3 then toRow w z key else kill w z
/-- What may be programmed: all of it, and into no row that isn't empty but its marks. -/
structure Fit (w : Nat → BitVec 32) (L : List Wr) : Prop where
  lt : ∀ x, x ∈ L → x.1 < 64
  ok : okL w L
  row : ∀ r, r < 4 → ¬ emptyB w r → ∀ x, x ∈ L → ¬ (27 + 9 * r ≤ x.1 ∧ x.1 < 35 + 9 * r)
  len : L.length ≤ 1000
theorem fit_nil (w : Nat → BitVec 32) : Fit w [] := ⟨(fun _ h => nomatch h), trivial, (fun _ _ _ _ h => nomatch h), Nat.zero_le _⟩
theorem fit_add {w : Nat → BitVec 32} {l : List Wr} (h64 : ∀ x, x ∈ l → x.1 < 64) (hd : (l.map Prod.fst).Nodup) (hr : ∀ x, x ∈ l → ∀ r, r < 4 → ¬ (27 + 9 * r ≤ x.1 ∧ x.1 < 35 + 9 * r)) (hl : l.length ≤ 1000) : Fit w (addL w l) :=
  ⟨fun x hx => by obtain ⟨v, hv, _⟩ := addL_mem hx; exact h64 (x.1, v) hv, okL_add w l h64 hd, fun r h4 _ x hx => by obtain ⟨v, hv, _⟩ := addL_mem hx; exact hr (x.1, v) hv r h4, Nat.le_trans (addL_len _ _) hl⟩
theorem one_mem {a : Nat} {v : BitVec 32} {x : Wr} (h : x ∈ [(a, v)]) : x.1 = a := by
  obtain rfl := List.mem_singleton.1 h; rfl
theorem keyL_fst (p id : Nat → BitVec 8) : (keyL p id).map Prod.fst = [9, 10, 11, 12, 13, 14, 15, 16, 17, 18, 19, 20, 21, 22, 23, 24, 25, 26] := by
  unfold keyL packL
  rw [List.map_append, List.map_map, List.map_map]
  rfl
theorem keyL_mem {p id : Nat → BitVec 8} {x : Wr} (h : x ∈ keyL p id) : 9 ≤ x.1 ∧ x.1 < 27 := by
  obtain ⟨i, hi, e⟩ := mem_atW h
  rw [keyL_len] at hi
  rcases Nat.lt_or_ge i 14 with h1 | h1
  · rw [keyL_1 _ _ _ h1] at e; rw [← e]; exact ⟨by show 9 ≤ 9 + i; omega, by show 9 + i < 27; omega⟩
  · obtain ⟨j, rfl⟩ : ∃ j, i = 14 + j := ⟨i - 14, by omega⟩
    rw [keyL_2 _ _ _ (by omega)] at e; rw [← e]; exact ⟨by show 9 ≤ 23 + j; omega, by show 23 + j < 27; omega⟩
theorem ctrL_mem {z : Int} {x : Wr} (h : x ∈ ctrL z 8) : 1 ≤ x.1 ∧ x.1 < 9 := by
  unfold ctrL at h
  obtain ⟨i, hi, rfl⟩ := List.mem_map.1 h
  have := List.mem_range.1 hi
  exact ⟨by show 1 ≤ 1 + i; omega, by show 1 + i < 9; omega⟩
theorem fit_life (w : Nat → BitVec 32) (z : Int) : Fit w (toLife w z).1 := by
  unfold toLife
  split
  · exact fit_nil w
  · split
    · exact fit_nil w
    · exact fit_add (fun x hx => by rw [one_mem hx]; decide) (by simp) (fun x hx r _ => by rw [one_mem hx]; omega) (show 1 ≤ 1000 by decide)
theorem fit_counter (w : Nat → BitVec 32) (z : Int) : Fit w (toCounter w z).1 := by
  unfold toCounter
  split
  · exact fit_nil w
  · split
    · exact fit_nil w
    · exact fit_add (ctrL_64 z) (ctrL_nodup z) (fun x hx r _ => by have := ctrL_mem hx; omega) (by rw [ctrL_len]; decide)
theorem fit_key (w : Nat → BitVec 32) (lp : Nat) (p id : Nat → BitVec 8) : Fit w (toKey w lp p id).1 := by
  unfold toKey
  split
  · exact fit_nil w
  · split
    · exact fit_nil w
    · split
      · exact fit_add (fun x hx => by have := keyL_mem hx; omega) (by rw [keyL_fst]; decide) (fun x hx r _ => by have := keyL_mem hx; omega) (by rw [keyL_len]; decide)
      · exact fit_nil w
theorem fit_row (w : Nat → BitVec 32) (z : Int) (key : Nat → BitVec 8) : Fit w (toRow w z key).1 := by
  unfold toRow
  split
  · exact fit_nil w
  · rename_i h1
    split
    · exact fit_nil w
    · rename_i h2
      have h1 : 0 ≤ z ∧ z < 4 := Classical.not_not.1 h1
      have h2 : emptyB w z.toNat := Classical.not_not.1 h2
      refine ⟨fun x hx => by have := rowL_mem hx; omega, okL_row w _ key (by omega) h2, fun r hr he x hx hq => ?_, by show (rowL z.toNat key).length ≤ 1000; rw [rowL_len]; decide⟩
      have hm := rowL_mem (show x ∈ rowL z.toNat key from hx)
      have : r = z.toNat := by omega
      rw [this] at he
      exact he h2
theorem fit_kill (w : Nat → BitVec 32) (z : Int) : Fit w (kill w z).1 := by
  unfold kill
  split
  · exact fit_nil w
  · rename_i h1
    have h1 : 0 ≤ z ∧ z < 4 := Classical.not_not.1 h1
    exact fit_add (fun x hx => by rw [one_mem hx]; omega) (by simp) (fun x hx r _ => by rw [one_mem hx]; omega) (show 1 ≤ 1000 by decide)
theorem fit_plan (w : Nat → BitVec 32) (d : BitVec 8) (z : Int) (key : Nat → BitVec 8) : Fit w (planP w d z key).1 := by
  unfold planP
  split
  · exact fit_life w z
  · split
    · exact fit_counter w z
    · split
      · exact fit_key w 56 _ _
      · split
        · exact fit_row w z key
        · exact fit_kill w z
/-- Bits that are only set, and keys that stay. -/
structure Up (w v : Nat → BitVec 32) : Prop where
  mono : ∀ i, w i &&& ~~~v i = 0
  keys : ∀ r, r < 4 → ¬ emptyB w r → ∀ i, i < 8 → v (27 + 9 * r + i) = w (27 + 9 * r + i)
theorem orV_key0 {w : Nat → BitVec 32} {L : List Wr} (h : Fit w L) {r : Nat} (hr : r < 4) (he : ¬ emptyB w r) {i : Nat} (hi : i < 8) : orV L (27 + 9 * r + i) = 0 := orV_none _ _ fun x hx e => h.row r hr he x hx (by omega)
theorem fit_take {w : Nat → BitVec 32} {L : List Wr} (h : Fit w L) (n : Nat) : Fit w (L.take n) :=
  ⟨fun x hx => h.lt x (List.mem_of_mem_take hx), by
    have := h.ok
    rw [← List.take_append_drop n L] at this
    exact ((okL_app _ _ _).1 this).1, fun r hr he x hx => h.row r hr he x (List.mem_of_mem_take hx), Nat.le_trans (List.length_take_le' ..) h.len⟩
theorem up_do {w : Nat → BitVec 32} {L : List Wr} (h : Fit w L) : Up w (doW w L) :=
  ⟨fun i => by rw [doW_or]; exact or_keeps _ _, fun r hr he i hi => by rw [doW_or, orV_key0 h hr he hi]; exact BitVec.or_zero⟩
theorem up_tear {w : Nat → BitVec 32} {L : List Wr} (h : Fit w L) (n : Nat) (hn : n < L.length) (g : BitVec 32) : Up w (cutW (doW w (L.take n)) (atW L n).1 (atW L n).2 g) := by
  have hu := up_do (fit_take h n)
  refine ⟨fun i => ?_, fun r hr he i hi => ?_⟩
  · have := cutW_keeps (doW w (L.take n)) (atW L n).1 (atW L n).2 g i
    apply not_and_bit
    intro b _ hb
    exact and_not_bit this b (and_not_bit (hu.mono i) b hb)
  · unfold cutW
    have hne : ¬ 27 + 9 * r + i = (atW L n).1 := fun e => h.row r hr he _ (atW_mem hn) (by omega)
    rw [if_neg hne]
    exact hu.keys r hr he i hi
theorem cntB_mono {x y : BitVec 32} (h : x &&& ~~~y = 0) (a : Nat) : ∀ k, cntB x a k ≤ cntB y a k
  | 0 => Nat.le_refl _
  | k + 1 => by
    have ih := cntB_mono h a k
    unfold cntB
    cases hx : x.getLsbD (a + k) with
    | true => rw [and_not_bit h _ hx]; simp; exact ih
    | false =>
      simp only [Bool.false_eq_true, if_false]
      omega
theorem onF_mono {x y : BitVec 32} (h : x &&& ~~~y = 0) {f : Nat} (ho : onF x f = true) : onF y f = true := by
  unfold onF at *
  have := cntB_mono h (8 * f) 8
  have := of_decide_eq_true ho
  exact decide_eq_true (by omega)
theorem life_tab : ∀ x3 x2 x1 x0 y3 y2 y1 y0 : Bool, (x3 = true → y3 = true) → (x2 = true → y2 = true) → (x1 = true → y1 = true) → (x0 = true → y0 = true) →
    (if x3 = true then 4 else if x2 = true then 3 else if x1 = true then 2 else if x0 = true then 1 else 0) ≤ (if y3 = true then 4 else if y2 = true then 3 else if y1 = true then 2 else if y0 = true then 1 else 0) := by decide
theorem lifeW_mono {x y : BitVec 32} (h : x &&& ~~~y = 0) : lifeW x ≤ lifeW y := by
  have g : ∀ f, onF x f = true → onF y f = true := fun f => onF_mono h
  exact life_tab _ _ _ _ _ _ _ _ (g 3) (g 2) (g 1) (g 0)
theorem cntF_mono {w v : Nat → BitVec 32} (h : ∀ i, w i &&& ~~~v i = 0) : cntF w 255 ≤ cntF v 255 := by
  obtain ⟨a1, a2, _⟩ := cntF_spec w 255
  obtain ⟨b1, _, b3⟩ := cntF_spec v 255
  rcases Nat.lt_or_ge (cntF v 255) (cntF w 255) with hlt | hge
  · have h1 := a2 _ hlt
    have h2 := b3 (by omega)
    unfold ctB at h1 h2
    rw [and_not_bit (h _) _ h1] at h2; cases h2
  · exact hge
theorem empty_E {w : Nat → BitVec 32} {r : Nat} (h : emptyB w r) : rowE (w (35 + 9 * r)) = 3 := by
  have := h 8 (by omega)
  rw [show 27 + 9 * r + 8 = 35 + 9 * r by omega] at this
  rw [this]; decide +kernel
/-- A key that was valid is that key, or dead; what is dead stays so. -/
theorem up_row {w v : Nat → BitVec 32} (h : Up w v) {r : Nat} (hr : r < 4) :
    (rowE (w (35 + 9 * r)) = 0 → (rowE (v (35 + 9 * r)) = 17 ∨ rowE (v (35 + 9 * r)) = 0 ∧ ∀ j, j < 32 → rowKey v r j = rowKey w r j)) ∧ (rowE (w (35 + 9 * r)) = 17 → rowE (v (35 + 9 * r)) = 17) := by
  have hm := h.mono (35 + 9 * r)
  constructor
  · intro h0
    have hne : ¬ emptyB w r := fun q => by rw [empty_E q] at h0; cases h0
    have h01 : onF (w (35 + 9 * r)) 1 = false := by
      cases hq : onF (w (35 + 9 * r)) 1 with
      | false => rfl
      | true => rw [rowE_d hq] at h0; cases h0
    have h00 : onF (w (35 + 9 * r)) 0 = true := by
      cases hq : onF (w (35 + 9 * r)) 0 with
      | true => rfl
      | false => rw [rowE_n h01 hq] at h0; cases h0
    cases hq : onF (v (35 + 9 * r)) 1 with
    | true => exact .inl (rowE_d hq)
    | false =>
      have hv := rowE_v hq (onF_mono hm h00)
      refine .inr ⟨hv, fun j hj => ?_⟩
      rw [← rowKey_v hv, ← rowKey_v h0]
      have hk : ∀ i, i < 8 → (fun i => v (27 + 9 * r + i)) i = (fun i => w (27 + 9 * r + i)) i := fun i hi => h.keys r hr hne i hi
      unfold wbf
      rw [hk (j / 4) (by omega)]
  · intro h17
    have h01 : onF (w (35 + 9 * r)) 1 = true := by
      cases hq : onF (w (35 + 9 * r)) 1 with
      | true => rfl
      | false =>
        cases hq2 : onF (w (35 + 9 * r)) 0 with
        | true => rw [rowE_v hq hq2] at h17; cases h17
        | false => rw [rowE_n hq hq2] at h17; cases h17
    exact rowE_d (onF_mono hm h01)
end Go.Proofs.Ytiafaeokfdpbjaa
