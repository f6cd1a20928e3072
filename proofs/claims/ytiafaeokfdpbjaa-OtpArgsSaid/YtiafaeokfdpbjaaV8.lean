/- A chip's fuses: what comes of what is programmed. -/
import Derived.Test.YtiafaeokfdpbjaaV7
namespace Go.Proofs.Ytiafaeokfdpbjaa
open Go.RowKit
set_option maxRecDepth 100000
set_option maxHeartbeats 20000000
/-- All that is programmed into a word. -/
def orV : List Wr → Nat → BitVec 32
  | [], _ => 0
  | x :: L, p => (if x.1 = p then x.2 else 0) ||| orV L p
theorem orV_app (L M : List Wr) (p : Nat) : orV (L ++ M) p = orV L p ||| orV M p := by
  induction L with
  | nil => exact (BitVec.zero_or).symm
  | cons x L ih =>
    show _ ||| orV (L ++ M) p = (_ ||| orV L p) ||| orV M p
    rw [ih, BitVec.or_assoc]
theorem orV_none (L : List Wr) (p : Nat) (h : ∀ x, x ∈ L → x.1 ≠ p) : orV L p = 0 := by
  induction L with
  | nil => rfl
  | cons x L ih =>
    show (if x.1 = p then x.2 else 0) ||| orV L p = 0
    rw [if_neg (h x (List.mem_cons_self ..)), ih fun y hy => h y (List.mem_cons_of_mem _ hy)]
    rfl
theorem doW_or (L : List Wr) (p : Nat) : ∀ w, doW w L p = w p ||| orV L p := by
  induction L with
  | nil => intro w; rw [doW_nil]; exact (BitVec.or_zero).symm
  | cons x L ih =>
    intro w
    rw [doW_cons, ih]
    show _ = w p ||| ((if x.1 = p then x.2 else 0) ||| orV L p)
    rw [← BitVec.or_assoc]
    congr 1
    unfold cutW
    by_cases h : p = x.1
    · rw [if_pos h, if_pos h.symm, BitVec.and_self, h]
    · rw [if_neg h, if_neg (fun q => h q.symm)]; exact (BitVec.or_zero).symm
theorem packL_mem {a m : Nat} {p : Nat → BitVec 8} {x : Wr} (h : x ∈ packL a m p) : a ≤ x.1 ∧ x.1 < a + m := by
  unfold packL at h
  obtain ⟨i, hi, rfl⟩ := List.mem_map.1 h
  have := List.mem_range.1 hi
  exact ⟨by show a ≤ a + i; omega, by show a + i < a + m; omega⟩
theorem orV_pack (a : Nat) (p : Nat → BitVec 8) (i : Nat) : ∀ m, i < m → orV (packL a m p) (a + i) = pkV p i
  | m + 1, h => by
    rw [packL_succ, orV_app]
    rcases Nat.lt_succ_iff_lt_or_eq.1 h with h1 | h1
    · rw [orV_pack a p i m h1]
      show _ ||| ((if a + m = a + i then _ else _) ||| 0) = _
      rw [if_neg (by omega)]; simp
    · subst h1
      rw [orV_none _ _ fun x hx q => by have := packL_mem hx; omega]
      show _ ||| ((if a + i = a + i then _ else _) ||| 0) = _
      rw [if_pos rfl]; simp
theorem orV_pack_out (a m : Nat) (p : Nat → BitVec 8) (q : Nat) (h : q < a ∨ a + m ≤ q) : orV (packL a m p) q = 0 := orV_none _ _ fun x hx e => by
  have := packL_mem hx; omega
/-- A row's writes. -/
abbrev mkD : BitVec 32 := fullV 2 ||| fullV 0
theorem rowL_len (r : Nat) (k : Nat → BitVec 8) : (rowL r k).length = 10 := by unfold rowL; simp [packL_len]
theorem orV_rowL (r : Nat) (k : Nat → BitVec 8) (q : Nat) : orV (rowL r k) q = (if 35 + 9 * r = q then fullV 2 else 0) ||| (orV (packL (27 + 9 * r) 8 k) q ||| ((if 35 + 9 * r = q then mkD else 0) ||| 0)) := by
  show _ ||| orV (packL (27 + 9 * r) 8 k ++ _) q = _
  rw [orV_app]; rfl
theorem orV_row_key (r : Nat) (k : Nat → BitVec 8) (i : Nat) (h : i < 8) : orV (rowL r k) (27 + 9 * r + i) = pkV k i := by
  rw [orV_rowL, orV_pack _ _ _ _ h, if_neg (by omega), if_neg (by omega)]; simp
theorem orV_row_mark (r : Nat) (k : Nat → BitVec 8) : orV (rowL r k) (35 + 9 * r) = mkD := by
  rw [orV_rowL, orV_pack_out _ _ _ _ (by omega), if_pos rfl, if_pos rfl]; decide
theorem orV_row_out (r : Nat) (k : Nat → BitVec 8) (q : Nat) (h : q < 27 + 9 * r ∨ 36 + 9 * r ≤ q) : orV (rowL r k) q = 0 := by
  rw [orV_rowL, orV_pack_out _ _ _ _ (by omega), if_neg (by omega), if_neg (by omega)]; rfl
/-- A list whose values hold what stands there may be programmed. -/
theorem okL_of (L : List Wr) : ∀ w : Nat → BitVec 32, (∀ x, x ∈ L → x.1 < 64) → (∀ i, i < L.length → w (atW L i).1 &&& ~~~(atW L i).2 = 0) → (∀ i j, i < j → j < L.length → (atW L i).1 = (atW L j).1 → (atW L i).2 &&& ~~~(atW L j).2 = 0) → okL w L := by
  induction L with
  | nil => intro w _ _ _; exact trivial
  | cons x L ih =>
    intro w h1 h2 h3
    refine ⟨h1 x (List.mem_cons_self ..), h2 0 (Nat.zero_lt_succ _), ih _ (fun y hy => h1 y (List.mem_cons_of_mem _ hy)) (fun i hi => ?_) fun i j hij hj => h3 (i + 1) (j + 1) (Nat.succ_lt_succ hij) (Nat.succ_lt_succ hj)⟩
    have a := h2 (i + 1) (Nat.succ_lt_succ hi)
    have a : w (atW L i).1 &&& ~~~(atW L i).2 = 0 := a
    unfold cutW
    by_cases e : (atW L i).1 = x.1
    · rw [if_pos e, BitVec.and_self]
      have b := h3 0 (i + 1) (Nat.zero_lt_succ _) (Nat.succ_lt_succ hi) e.symm
      have b : x.2 &&& ~~~(atW L i).2 = 0 := b
      apply not_and_bit
      intro k _ hk
      rw [BitVec.getLsbD_or] at hk
      cases hx : (w x.1).getLsbD k with
      | true => rw [e] at a; exact and_not_bit a k hx
      | false => rw [hx, Bool.false_or] at hk; exact and_not_bit b k hk
    · rw [if_neg e]; exact a
theorem mem_atW {L : List Wr} {x : Wr} (h : x ∈ L) : ∃ i, i < L.length ∧ atW L i = x := by
  obtain ⟨i, hi, e⟩ := List.mem_iff_getElem.1 h
  exact ⟨i, hi, by unfold atW; simp [List.getD, hi, e]⟩
theorem atW_mem {L : List Wr} {i : Nat} (h : i < L.length) : atW L i ∈ L := by
  have : atW L i = L[i] := by unfold atW; simp [List.getD, h]
  rw [this]; exact List.getElem_mem h
/-- Into an empty row its key may be programmed. -/
theorem rowL_mem {r : Nat} {k : Nat → BitVec 8} {x : Wr} (h : x ∈ rowL r k) : 27 + 9 * r ≤ x.1 ∧ x.1 < 36 + 9 * r := by
  unfold rowL at h
  rcases List.mem_cons.1 h with rfl | h
  · exact ⟨by show 27 + 9 * r ≤ 35 + 9 * r; omega, by show 35 + 9 * r < 36 + 9 * r; omega⟩
  · rcases List.mem_append.1 h with h | h
    · have := packL_mem h; omega
    · obtain rfl := List.mem_singleton.1 h
      exact ⟨by show 27 + 9 * r ≤ 35 + 9 * r; omega, by show 35 + 9 * r < 36 + 9 * r; omega⟩
theorem rowL_at0 (r : Nat) (k : Nat → BitVec 8) : atW (rowL r k) 0 = (35 + 9 * r, fullV 2) := rfl
theorem rowL_atS (r : Nat) (k : Nat → BitVec 8) (i : Nat) (h : i < 8) : atW (rowL r k) (i + 1) = (27 + 9 * r + i, pkV k i) := by
  show atW (packL (27 + 9 * r) 8 k ++ _) i = _
  rw [← atW_lt (by rw [packL_len]; exact h), packL_at _ _ _ _ h]
theorem rowL_at9 (r : Nat) (k : Nat → BitVec 8) : atW (rowL r k) 9 = (35 + 9 * r, mkD) := by
  show atW (packL (27 + 9 * r) 8 k ++ [(35 + 9 * r, mkD)]) 8 = _
  have := @atW_end (packL (27 + 9 * r) 8 k) (35 + 9 * r, mkD)
  rw [packL_len] at this
  exact this.symm
theorem okL_row (w : Nat → BitVec 32) (r : Nat) (k : Nat → BitVec 8) (hr : r < 4) (he : emptyB w r) : okL w (rowL r k) := by
  refine okL_of _ w (fun x hx => by have := rowL_mem hx; omega) (fun i hi => ?_) fun i j hij hj e => ?_
  · have := rowL_mem (atW_mem hi)
    have hz : w (atW (rowL r k) i).1 = 0 := by
      have := he ((atW (rowL r k) i).1 - (27 + 9 * r)) (by omega)
      rw [← this]; congr 1; omega
    rw [hz]; simp
  · rw [rowL_len] at hj
    rcases i with _ | i
    · rcases Nat.lt_or_ge j 9 with h9 | h9
      · obtain ⟨j, rfl⟩ : ∃ j', j = j' + 1 := ⟨j - 1, by omega⟩
        rw [rowL_at0, rowL_atS _ _ _ (by omega)] at e
        have e : 35 + 9 * r = 27 + 9 * r + j := e
        omega
      · obtain rfl : j = 9 := by omega
        rw [rowL_at0, rowL_at9]; show fullV 2 &&& ~~~mkD = 0; decide
    · obtain ⟨j, rfl⟩ : ∃ j', j = j' + 1 := ⟨j - 1, by omega⟩
      rw [rowL_atS _ _ _ (by omega)] at e
      rcases Nat.lt_or_ge j 8 with h9 | h9
      · rw [rowL_atS _ _ _ (by omega)] at e
        have e : 27 + 9 * r + i = 27 + 9 * r + j := e
        omega
      · obtain rfl : j = 8 := by omega
        rw [rowL_at9] at e
        have e : 27 + 9 * r + i = 35 + 9 * r := e
        omega
/-- The bytes of the words of bytes. -/
theorem w4_bytes (a b c d : BitVec 8) : (w4 a b c d >>> 24).setWidth 8 = a ∧ (w4 a b c d >>> 16).setWidth 8 = b ∧ (w4 a b c d >>> 8).setWidth 8 = c ∧ (w4 a b c d).setWidth 8 = d := by
  have h := be_w4 a b c d
  have g : ∀ i, i < 4 → at8 (be ((w4 a b c d).setWidth 64) 4) i = (w4 a b c d >>> (8 * (4 - 1 - i))).setWidth 8 := fun i hi => by
    rw [at8_be _ _ _ hi, byt32 _ _ (by omega)]
  rw [h] at g
  exact ⟨(g 0 (by omega)).symm, (g 1 (by omega)).symm, (g 2 (by omega)).symm, (g 3 (by omega)).symm⟩
theorem wbf_pk (p : Nat → BitVec 8) (f : Nat → BitVec 32) (m : Nat) (hf : ∀ i, i < m → f i = pkV p i) (j : Nat) (hj : j < 4 * m) : wbf f j = p j := by
  obtain ⟨h0, h1, h2, h3⟩ := w4_bytes (p (4 * (j / 4))) (p (4 * (j / 4) + 1)) (p (4 * (j / 4) + 2)) (p (4 * (j / 4) + 3))
  unfold wbf
  rw [hf (j / 4) (by omega)]
  unfold pkV
  by_cases e0 : j % 4 = 0
  · rw [if_pos e0, h0]; congr 1; omega
  · rw [if_neg e0]
    by_cases e1 : j % 4 = 1
    · rw [if_pos e1, h1]; congr 1; omega
    · rw [if_neg e1]
      by_cases e2 : j % 4 = 2
      · rw [if_pos e2, h2]; congr 1; omega
      · rw [if_neg e2, h3]; congr 1; omega
/-- A row that has a key. -/
def hasR (w : Nat → BitVec 32) (r : Nat) (k : Nat → BitVec 8) : Prop := (∀ i, i < 8 → w (27 + 9 * r + i) = pkV k i) ∧ w (35 + 9 * r) = mkD
theorem hasR_E {w : Nat → BitVec 32} {r : Nat} {k : Nat → BitVec 8} (h : hasR w r k) : rowE (w (35 + 9 * r)) = 0 := by rw [h.2]; decide +kernel
theorem hasR_key {w : Nat → BitVec 32} {r : Nat} {k : Nat → BitVec 8} (h : hasR w r k) (j : Nat) (hj : j < 32) : rowKey w r j = k j := by
  rw [← rowKey_v (hasR_E h)]
  exact wbf_pk k _ 8 h.1 j (by omega)
theorem hasR_do (w : Nat → BitVec 32) (r : Nat) (k : Nat → BitVec 8) (he : emptyB w r) : hasR (doW w (rowL r k)) r k := by
  constructor
  · intro i hi
    rw [doW_or, orV_row_key _ _ _ hi, he i (by omega)]; simp
  · rw [doW_or, orV_row_mark]
    have := he 8 (by omega)
    rw [show 27 + 9 * r + 8 = 35 + 9 * r by omega] at this
    rw [this]; simp
theorem do_out (w : Nat → BitVec 32) (r : Nat) (k : Nat → BitVec 8) (q : Nat) (h : q < 27 + 9 * r ∨ 36 + 9 * r ≤ q) : doW w (rowL r k) q = w q := by
  rw [doW_or, orV_row_out _ _ _ h]; exact BitVec.or_zero
theorem toRow_e' {w : Nat → BitVec 32} {r : Nat} (hr : r < 4) (he : emptyB w r) {k : Nat → BitVec 8} : toRow w (r : Int) k = (rowL r k, 0) := by
  unfold toRow; rw [if_neg (by omega), if_neg (fun q => q he)]; rfl
theorem toRow_x' {w : Nat → BitVec 32} {r : Nat} (hr : r < 4) (he : ¬ emptyB w r) {k : Nat → BitVec 8} : toRow w (r : Int) k = ([], 14) := by
  unfold toRow; rw [if_neg (by omega)]; exact if_pos he
abbrev TAcO : Ty := ty 32
abbrev T64w : Ty := ty 23
abbrev acO (d : BitVec 8) (n : Int) (key : Nat → BitVec 8) (mn : BitVec 8) (t : Bool) (g : BitVec 32) : AV := .agg false 6 (nth .junk [.u8 d, .int n, arr8 32 key, .u8 mn, .bo t, .u32 g])
theorem i64_nat2 (r : Nat) (h : r < 1000) : i64 (r : Int) := by unfold i64; omega
end Go.Proofs.Ytiafaeokfdpbjaa
