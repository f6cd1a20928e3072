/- The journal: what bytes are read as. -/
import Derived.Test.YtldlleoabbcpdaaDoorIK
namespace Go.Proofs.YtldlleoabbcpdaaDoor
open Go.RowKit
set_option maxRecDepth 100000
set_option maxHeartbeats 20000000
section
attribute [local irreducible] hsh rst sha256 press dig
def bQ (b : Nat → BitVec 8) : BitVec 32 := w4 (b 4) (b 5) (b 6) (b 7)
def bA (b : Nat → BitVec 8) : Int := ((b 8).toNat : Int)
def bT (b : Nat → BitVec 8) : Int := ((b 9).toNat : Int) - 1
def bR (b : Nat → BitVec 8) : Int := ((b 10).toNat : Int)
/-- These bytes are a record. -/
def isR (l : Nat) (b : Nat → BitVec 8) : Prop := l = 32 ∧ rgt (bA b) (bT b) (bR b) ∧ lw 32 b = lw 32 (rcF (bQ b) (bA b) (bT b) (bR b))
instance (l : Nat) (b : Nat → BitVec 8) : Decidable (isR l b) := inferInstanceAs (Decidable (_ ∧ _ ∧ _))
theorem ofI8 {z : Int} {n : Nat} (h : z = n) (hn : n < 256) : (BitVec.ofInt 8 z).toNat = n := by
  subst h
  rw [BitVec.toNat_ofInt]; omega
theorem byt_w4 (a b c d : BitVec 8) : byt ((w4 a b c d).setWidth 64) 3 = a ∧ byt ((w4 a b c d).setWidth 64) 2 = b ∧ byt ((w4 a b c d).setWidth 64) 1 = c ∧ byt ((w4 a b c d).setWidth 64) 0 = d := by
  have h := be_w4 a b c d
  have e : ∀ v : BitVec 64, be v 4 = [byt v 3, byt v 2, byt v 1, byt v 0] := fun _ => rfl
  rw [e] at h
  injection h with h3 h
  injection h with h2 h
  injection h with h1 h
  injection h with h0 h
  exact ⟨h3, h2, h1, h0⟩
theorem rc_fields (q : BitVec 32) {a t r : Int} (h : rgt a t r) : bQ (rcF q a t r) = q ∧ bA (rcF q a t r) = a ∧ bT (rcF q a t r) = t ∧ bR (rcF q a t r) = r := by
  unfold rgt at h
  have e8 : (BitVec.ofInt 8 a).toNat = a.toNat := ofI8 (by omega) (by omega)
  have e9 : (BitVec.ofInt 8 (t + 1)).toNat = (t + 1).toNat := ofI8 (by omega) (by omega)
  have e10 : (BitVec.ofInt 8 r).toNat = r.toNat := ofI8 (by omega) (by omega)
  refine ⟨w4_be q, ?_, ?_, ?_⟩
  · show ((BitVec.ofInt 8 a).toNat : Int) = a
    rw [e8]; omega
  · show ((BitVec.ofInt 8 (t + 1)).toNat : Int) - 1 = t
    rw [e9]; omega
  · show ((BitVec.ofInt 8 r).toNat : Int) = r
    rw [e10]; omega
theorem isR_rec (q : BitVec 32) {a t r : Int} (h : rgt a t r) : isR 32 (rcF q a t r) := by
  obtain ⟨e1, e2, e3, e4⟩ := rc_fields q h
  unfold isR
  rw [e1, e2, e3, e4]
  exact ⟨rfl, h, rfl⟩
theorem isR_cong {b c : Nat → BitVec 8} (h : ∀ i, i < 32 → b i = c i) : (isR 32 b ↔ isR 32 c) ∧ bQ b = bQ c ∧ bA b = bA c ∧ bT b = bT c ∧ bR b = bR c := by
  have e1 : bQ b = bQ c := by unfold bQ; rw [h 4 (by omega), h 5 (by omega), h 6 (by omega), h 7 (by omega)]
  have e2 : bA b = bA c := by unfold bA; rw [h 8 (by omega)]
  have e3 : bT b = bT c := by unfold bT; rw [h 9 (by omega)]
  have e4 : bR b = bR c := by unfold bR; rw [h 10 (by omega)]
  refine ⟨?_, e1, e2, e3, e4⟩
  unfold isR
  rw [e1, e2, e3, e4, show lw 32 b = lw 32 c from lw_eq.2 h]
/-- The mark, the nought behind the tries, and the sum: the reference asks for each by itself. -/
def rfR (b : Nat → BitVec 8) : Prop := lw 4 b = [66, 67, 84, 76] ∧ b 11 = 0 ∧ rgt (bA b) (bT b) (bR b) ∧ lw 20 (fun i => b (12 + i)) = lw 20 (at8 (sha256 (lw 12 b)))
theorem rc_head {b : Nat → BitVec 8} (hm : lw 4 b = [66, 67, 84, 76]) (h11 : b 11 = 0) (j : Nat) (hj : j < 12) : rcH (bQ b) (bA b) (bT b) (bR b) j = b j := by
  have hb := byt_w4 (b 4) (b 5) (b 6) (b 7)
  have hm : ∀ i, i < 4 → b i = at8 [66, 67, 84, 76] i := lw_eq.1 (hm.trans (show [66, 67, 84, 76] = lw 4 (at8 [66, 67, 84, 76]) from rfl))
  unfold rcH
  obtain h | rfl | rfl | rfl | rfl | rfl | rfl | rfl | rfl : j < 4 ∨ j = 4 ∨ j = 5 ∨ j = 6 ∨ j = 7 ∨ j = 8 ∨ j = 9 ∨ j = 10 ∨ j = 11 := by omega
  · rw [if_pos h, hm j h]
  · exact hb.1
  · exact hb.2.1
  · exact hb.2.2.1
  · exact hb.2.2.2
  · show BitVec.ofInt 8 (bA b) = b 8
    exact BitVec.eq_of_toNat_eq (ofI8 (n := (b 8).toNat) rfl (b 8).isLt)
  · show BitVec.ofInt 8 (bT b + 1) = b 9
    exact BitVec.eq_of_toNat_eq (ofI8 (n := (b 9).toNat) (by unfold bT; omega) (b 9).isLt)
  · show BitVec.ofInt 8 (bR b) = b 10
    exact BitVec.eq_of_toNat_eq (ofI8 (n := (b 10).toNat) rfl (b 10).isLt)
  · exact h11.symm
theorem isR_iff (b : Nat → BitVec 8) : isR 32 b ↔ rfR b := by
  constructor
  · rintro ⟨_, hr, he⟩
    have he := lw_eq.1 he
    have hm : lw 4 b = [66, 67, 84, 76] := by
      rw [show [66, 67, 84, 76] = lw 4 (at8 [66, 67, 84, 76]) from rfl]
      exact lw_eq.2 fun i hi => by
        rw [he i (by omega)]
        unfold rcF rcH
        rw [if_pos (by omega), if_pos hi]
    have h11 : b 11 = 0 := he 11 (by omega)
    refine ⟨hm, h11, hr, lw_eq.2 fun i hi => ?_⟩
    rw [he (12 + i) (by omega)]
    unfold rcF
    rw [if_neg (by omega), Nat.add_sub_cancel_left, show lw 12 (rcH (bQ b) (bA b) (bT b) (bR b)) = lw 12 b from lw_eq.2 fun j hj => rc_head hm h11 j hj]
  · rintro ⟨hm, h11, hr, hs⟩
    refine ⟨rfl, hr, lw_eq.2 fun i hi => ?_⟩
    unfold rcF
    by_cases h : i < 12
    · rw [if_pos h, rc_head hm h11 i h]
    · rw [if_neg h, show lw 12 (rcH (bQ b) (bA b) (bT b) (bR b)) = lw 12 b from lw_eq.2 fun j hj => rc_head hm h11 j hj]
      have := lw_eq.1 hs (i - 12) (by omega)
      rw [show 12 + (i - 12) = i by omega] at this
      exact this
end
section
attribute [local irreducible] at8 be rcF rcH lw hsh rst sha256 press dig isR rgt w4
def C_jn_number : SpecP := fun A K => ∃ l b, A [bsl l b] ∧ 4 ≤ l ∧ K (.u32 (w4 (b 0) (b 1) (b 2) (b 3)))
theorem g_jn_number : Gd 31 (pureP ty C_jn_number) := by
  refine goodP (E := PG []) (pgOK trivial) mixes Tryd.func31 (by kernel_rfl) (by kernel_rfl) ?_
  rintro A K ⟨l, b, hA, hl, hK⟩
  refine ⟨_, _, fun _ => none, hA, hK, by kernel_rfl, trivial, ?_⟩
  repeat ((conv => whnf); first | refine sdO ?_ | refine nlO ?_ | refine goA ?_ | refine goB ?_ | (apply Exists.intro; (repeat apply Exists.intro); refine caO ?_) | (refine Or.inl ?_; (conv => whnf); (repeat apply Exists.intro); refine caO ?_) | (refine Or.inr ?_; (conv => whnf); first | ((repeat apply Exists.intro); refine caO ?_) | (refine Or.inl ?_; (conv => whnf); (repeat apply Exists.intro); refine caO ?_) | (refine Or.inr ?_; (conv => whnf); (repeat apply Exists.intro); refine caO ?_)) | refine And.intro (by assumption) ?_ | refine goT ?_ | refine goF ?_ | refine goL ?_ | refine goR ?_ | refine goRL ?_ | refine goRR ?_)
  all_goals try (conv => whnf)
  ((repeat' ((conv => whnf) <;> first | exact trivial | (with_reducible first | refine And.intro ?_ ?_ | refine rows_lt1 ?_ | refine rows_lt2 ?_ ?_ | refine rows_lt3 ?_ ?_ ?_ | refine rows_lt4 ?_ ?_ ?_ ?_ | refine rows_lt5 ?_ ?_ ?_ ?_ ?_ | refine ints_lt1 ?_ | refine ints_lt2 ?_ ?_ | refine ints_lt3 ?_ ?_ ?_ | refine rows_lt7 ?_ ?_ ?_ ?_ ?_ ?_ ?_ | refine aggs_lt1 ?_ | refine aggs_lt2 ?_ ?_ | refine aggs_lt3 ?_ ?_ ?_ | refine fun (_ : Nat) => ?_) | refine fun (_ : (_ : Nat) < _) => ?_ | exact rfl | exact Nat.le_of_ble_eq_true rfl | (change (_ : Nat) ≤ _; omega) | (change (_ : Nat) = _; omega) | (change (_ : Int) = _; omega))); (all_goals try (conv => whnf)))
  have hm : min l (4 - 0) = 4 := by omega
  rw [hm]
  unfold w4
  rfl
def C_bytes_Equal0 : SpecP := fun A K => ∃ l b, A [bsl l b, bsl 0 fun _ => 0] ∧ 0 < l ∧ K (.bo false)
theorem g_bytes_Equal0 : Gd 32 (pureP ty C_bytes_Equal0) := good_imp g_bytes_Equal fun args m key K ⟨l, b, hA, hl, hK⟩ => ⟨l, b, 0, fun _ => 0, hA, by
  rw [decide_eq_false fun h : lw l b = lw 0 fun _ => 0 => by have := congrArg List.length h; rw [lw_len, lw_len] at this; omega]
  exact hK⟩
abbrev recA (b : Nat → BitVec 8) : AV := jsA (bQ b) (bA b) (bT b) (bR b)
def C_jn_ParseA : SpecP := fun A K => ∃ l b, A [bsl l b] ∧ ((isR l b ∧ K (tupOf [recA b, .bo true])) ∨ (¬ isR l b ∧ (¬ l = 32 ∨ rgt (bA b) (bT b) (bR b)) ∧ K (tupOf [jsA 0 0 0 0, .bo false])))
theorem g_jn_ParseA : Gd 16 (pureP ty C_jn_ParseA) := by
  refine goodP (E := PG [(31, pureP ty C_jn_number), (10, pureR ty C_jn_Bytes), (32, pureP ty C_bytes_Equal)]) (pgOK ⟨g_jn_number, g_jn_Bytes, g_bytes_Equal, trivial⟩) mixes Tryd.func16 (by kernel_rfl) (by kernel_rfl) ?_
  rintro A K ⟨l, b, hA, ⟨h, hK⟩ | ⟨h, hc, hK⟩⟩
  · refine ⟨_, _, fun _ => none, hA, hK, by kernel_rfl, own_res (own_js _ _ _ _) trivial, ?_⟩
    have hl : l = 32 := by unfold isR at h; exact h.1
    have hr : rgt (bA b) (bT b) (bR b) := by unfold isR at h; exact h.2.1
    have he : lw 32 b = lw 32 (rcF (bQ b) (bA b) (bT b) (bR b)) := by unfold isR at h; exact h.2.2
    subst hl
    repeat ((conv => whnf); first | refine sdO ?_ | refine nlO ?_ | refine goA ?_ | refine goB ?_ | (apply Exists.intro; (repeat apply Exists.intro); refine caO ?_) | (refine Or.inl ?_; (conv => whnf); (repeat apply Exists.intro); refine caO ?_) | (refine Or.inr ?_; (conv => whnf); first | ((repeat apply Exists.intro); refine caO ?_) | (refine Or.inl ?_; (conv => whnf); (repeat apply Exists.intro); refine caO ?_) | (refine Or.inr ?_; (conv => whnf); (repeat apply Exists.intro); refine caO ?_)) | refine And.intro (by assumption) ?_ | refine goT ?_ | refine goF ?_ | refine goL ?_ | refine goR ?_ | refine goRL ?_ | refine goRR ?_)
    all_goals try (conv => whnf)
    all_goals skip
  · refine ⟨_, _, fun _ => none, hA, hK, by kernel_rfl, own_res (own_js _ _ _ _) trivial, ?_⟩
    rcases Decidable.em (l = 32) with hl | hl
    · subst hl
      have hr : rgt (bA b) (bT b) (bR b) := hc.elim (fun q => absurd rfl q) id
      have he : ¬ lw 32 b = lw 32 (rcF (bQ b) (bA b) (bT b) (bR b)) := fun he => h (by unfold isR; exact ⟨rfl, hr, he⟩)
      repeat ((conv => whnf); first | refine sdO ?_ | refine nlO ?_ | refine goA ?_ | refine goB ?_ | (apply Exists.intro; (repeat apply Exists.intro); refine caO ?_) | (refine Or.inl ?_; (conv => whnf); (repeat apply Exists.intro); refine caO ?_) | (refine Or.inr ?_; (conv => whnf); first | ((repeat apply Exists.intro); refine caO ?_) | (refine Or.inl ?_; (conv => whnf); (repeat apply Exists.intro); refine caO ?_) | (refine Or.inr ?_; (conv => whnf); (repeat apply Exists.intro); refine caO ?_)) | refine And.intro (by assumption) ?_ | refine goT ?_ | refine goF ?_ | refine goL ?_ | refine goR ?_ | refine goRL ?_ | refine goRR ?_)
      all_goals try (conv => whnf)
      all_goals skip
    · skip
      repeat ((conv => whnf); first | refine sdO ?_ | refine nlO ?_ | refine goA ?_ | refine goB ?_ | (apply Exists.intro; (repeat apply Exists.intro); refine caO ?_) | (refine Or.inl ?_; (conv => whnf); (repeat apply Exists.intro); refine caO ?_) | (refine Or.inr ?_; (conv => whnf); first | ((repeat apply Exists.intro); refine caO ?_) | (refine Or.inl ?_; (conv => whnf); (repeat apply Exists.intro); refine caO ?_) | (refine Or.inr ?_; (conv => whnf); (repeat apply Exists.intro); refine caO ?_)) | refine And.intro (by assumption) ?_ | refine goT ?_ | refine goF ?_ | refine goL ?_ | refine goR ?_ | refine goRL ?_ | refine goRR ?_)
      all_goals try (conv => whnf)
      ((repeat' ((conv => whnf) <;> first | exact trivial | (with_reducible first | refine And.intro ?_ ?_ | refine rows_lt1 ?_ | refine rows_lt2 ?_ ?_ | refine rows_lt3 ?_ ?_ ?_ | refine rows_lt4 ?_ ?_ ?_ ?_ | refine rows_lt5 ?_ ?_ ?_ ?_ ?_ | refine ints_lt1 ?_ | refine ints_lt2 ?_ ?_ | refine ints_lt3 ?_ ?_ ?_ | refine rows_lt7 ?_ ?_ ?_ ?_ ?_ ?_ ?_ | refine aggs_lt1 ?_ | refine aggs_lt2 ?_ ?_ | refine aggs_lt3 ?_ ?_ ?_ | refine fun (_ : Nat) => ?_) | refine fun (_ : (_ : Nat) < _) => ?_ | exact rfl | exact Nat.le_of_ble_eq_true rfl | (change (_ : Nat) ≤ _; omega) | (change (_ : Nat) = _; omega) | (change (_ : Int) = _; omega))); (all_goals try (conv => whnf)))
def C_jn_ParseB : SpecP := fun A K => ∃ b, A [bsl 32 b] ∧ ¬ rgt (bA b) (bT b) (bR b) ∧ K (tupOf [jsA 0 0 0 0, .bo false])
theorem g_jn_ParseB : Gd 16 (pureP ty C_jn_ParseB) := by
  refine goodP (E := PG [(31, pureP ty C_jn_number), (10, pureP ty C_jn_BytesE), (32, pureP ty C_bytes_Equal0)]) (pgOK ⟨g_jn_number, g_jn_BytesE, g_bytes_Equal0, trivial⟩) mixes Tryd.func16 (by kernel_rfl) (by kernel_rfl) ?_
  rintro A K ⟨b, hA, hr, hK⟩
  refine ⟨_, _, fun _ => none, hA, hK, by kernel_rfl, own_res (own_js _ _ _ _) trivial, ?_⟩
  have hr' : ¬ rgt ((b 8).toNat : Int) (((b 9).toNat : Int) - 1) ((b 10).toNat : Int) := hr
  repeat ((conv => whnf); first | refine sdO ?_ | refine nlO ?_ | refine goA ?_ | refine goB ?_ | (apply Exists.intro; (repeat apply Exists.intro); refine caO ?_) | (refine Or.inl ?_; (conv => whnf); (repeat apply Exists.intro); refine caO ?_) | (refine Or.inr ?_; (conv => whnf); first | ((repeat apply Exists.intro); refine caO ?_) | (refine Or.inl ?_; (conv => whnf); (repeat apply Exists.intro); refine caO ?_) | (refine Or.inr ?_; (conv => whnf); (repeat apply Exists.intro); refine caO ?_)) | refine And.intro (by assumption) ?_ | refine goT ?_ | refine goF ?_ | refine goL ?_ | refine goR ?_ | refine goRL ?_ | refine goRR ?_)
  all_goals try (conv => whnf)
  all_goals skip
def C_jn_Parse : SpecP := fun A K => ∃ l b, A [bsl l b] ∧ ((isR l b ∧ K (tupOf [recA b, .bo true])) ∨ (¬ isR l b ∧ K (tupOf [jsA 0 0 0 0, .bo false])))
theorem g_jn_Parse : Gd 16 (pureP ty C_jn_Parse) := good_imp2 g_jn_ParseA g_jn_ParseB fun args m key K ⟨l, b, hA, h⟩ => by
  rcases h with ⟨h, hK⟩ | ⟨h, hK⟩
  · exact Or.inl ⟨l, b, hA, Or.inl ⟨h, hK⟩⟩
  · by_cases hl : l = 32
    · subst hl
      by_cases hr : rgt (bA b) (bT b) (bR b)
      · exact Or.inl ⟨32, b, hA, Or.inr ⟨h, Or.inr hr, hK⟩⟩
      · exact Or.inr ⟨b, hA, hr, hK⟩
    · exact Or.inl ⟨l, b, hA, Or.inr ⟨h, Or.inl hl, hK⟩⟩
end
end Go.Proofs.YtldlleoabbcpdaaDoor
