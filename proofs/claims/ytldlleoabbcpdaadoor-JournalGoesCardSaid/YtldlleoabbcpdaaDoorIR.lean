/- The journal: the reference's records and what it reads. -/
import Derived.Test.YtldlleoabbcpdaaDoorIC
namespace Go.Proofs.YtldlleoabbcpdaaDoor
open Go.RowKit
set_option maxRecDepth 100000
set_option maxHeartbeats 20000000
theorem rcS0 (b : Nat → BitVec 8) : (strOf 4 fun i => bys b (0 + i)) = [66, 67, 84, 76] ↔ lw 4 b = [66, 67, 84, 76] := by
  rw [show (fun i => bys b (0 + i)) = bys b from funext fun i => congrArg (fun j => AV.u8 (b j)) (Nat.zero_add i)]
  exact strOf_inj (n := 4) (m := 4) (g := at8 [66, 67, 84, 76])
section
attribute [local irreducible] hsh rst sha256 press dig
theorem rb_head {q : BitVec 32} {a t r : Int} (f h g : Nat → BitVec 8) (hf : ∀ j, j < 4 → f j = ([66, 67, 84, 76] : List (BitVec 8)).getD j 0) (hh : ∀ j, j < 4 → h j = at8 (be (q.setWidth 64) 4) j) (hg : ∀ j, j < 4 → g j = ([BitVec.ofInt 8 a, BitVec.ofInt 8 (t + 1), BitVec.ofInt 8 r, 0] : List (BitVec 8)).getD j 0) (j : Nat) (hj : j < 12) : at8 (lw 4 f ++ lw 4 h ++ lw 4 g) j = rcH q a t r j := by
  have hb : ∀ j, j < 4 → h j = (q >>> (8 * (3 - j))).setWidth 8 := fun j hj => by rw [hh j hj, at8_be _ _ _ hj, byt_q]
  refine rcH_c (fun j => at8 (lw 4 f ++ lw 4 h ++ lw 4 g) j) ?_ ?_ ?_ ?_ ?_ ?_ ?_ ?_ ?_ ?_ ?_ ?_ j hj
  · exact (show at8 (lw 4 f ++ lw 4 h ++ lw 4 g) 0 = f 0 from rfl).trans (hf 0 (by decide))
  · exact (show at8 (lw 4 f ++ lw 4 h ++ lw 4 g) 1 = f 1 from rfl).trans (hf 1 (by decide))
  · exact (show at8 (lw 4 f ++ lw 4 h ++ lw 4 g) 2 = f 2 from rfl).trans (hf 2 (by decide))
  · exact (show at8 (lw 4 f ++ lw 4 h ++ lw 4 g) 3 = f 3 from rfl).trans (hf 3 (by decide))
  · exact (show at8 (lw 4 f ++ lw 4 h ++ lw 4 g) 4 = h 0 from rfl).trans (hb 0 (by decide))
  · exact (show at8 (lw 4 f ++ lw 4 h ++ lw 4 g) 5 = h 1 from rfl).trans (hb 1 (by decide))
  · exact (show at8 (lw 4 f ++ lw 4 h ++ lw 4 g) 6 = h 2 from rfl).trans (hb 2 (by decide))
  · exact (show at8 (lw 4 f ++ lw 4 h ++ lw 4 g) 7 = h 3 from rfl).trans (hb 3 (by decide))
  · exact (show at8 (lw 4 f ++ lw 4 h ++ lw 4 g) 8 = g 0 from rfl).trans (hg 0 (by decide))
  · exact (show at8 (lw 4 f ++ lw 4 h ++ lw 4 g) 9 = g 1 from rfl).trans (hg 1 (by decide))
  · exact (show at8 (lw 4 f ++ lw 4 h ++ lw 4 g) 10 = g 2 from rfl).trans (hg 2 (by decide))
  · exact (show at8 (lw 4 f ++ lw 4 h ++ lw 4 g) 11 = g 3 from rfl).trans (hg 3 (by decide))
theorem rb_at {q : BitVec 32} {a t r : Int} (f h g : Nat → BitVec 8) (x : Nat) (hx : x < 32) (hf : ∀ j, j < 4 → f j = ([66, 67, 84, 76] : List (BitVec 8)).getD j 0) (hh : ∀ j, j < 4 → h j = at8 (be (q.setWidth 64) 4) j) (hg : ∀ j, j < 4 → g j = ([BitVec.ofInt 8 a, BitVec.ofInt 8 (t + 1), BitVec.ofInt 8 r, 0] : List (BitVec 8)).getD j 0) :
    at8 (lw (4 + 4 + 4) (at8 (lw 4 f ++ lw 4 h ++ lw 4 g)) ++ lw (Int.toNat 20 - 0) fun x => at8 (sha256 (lw (4 + 4 + 4) (at8 (lw 4 f ++ lw 4 h ++ lw 4 g)))) (0 + x)) x = rcF q a t r x := by
  have e : lw (4 + 4 + 4) (at8 (lw 4 f ++ lw 4 h ++ lw 4 g)) = lw 12 (rcH q a t r) := lw_eq.2 (rb_head f h g hf hh hg)
  rw [e, at8_app, lw_len]
  unfold rcF
  by_cases h12 : x < 12
  · rw [if_pos h12, if_pos h12, at8_lw _ _ _ h12]
  · rw [if_neg h12, if_neg h12]
    show at8 (lw 20 fun x => at8 (sha256 (lw 12 (rcH q a t r))) (0 + x)) (x - 12) = _
    rw [at8_lw _ _ _ (show x - 12 < 20 by omega), Nat.zero_add]
end
section
attribute [local irreducible] at8 be rcF rcH lw hsh rst sha256 press dig isR rgt w4 rdN byt
def C_r22_Bytes : SpecP := fun A K => ∃ q a t r, A [jsA q a t r] ∧ rgt a t r ∧ K (bsf 32 (rcF q a t r))
theorem g_r22_Bytes : Gd 14 (pureP ty C_r22_Bytes) := by
  refine goodP (E := PG [(29, pureP ty C_r1_Num), (15, orC (pureR ty C_r1_Join_c) (pureR ty C_r1_Join_2)), (30, pureP ty C_r1_Sum)]) (pgOK ⟨g_r1_Num, (good_or g_r1_Join_c g_r1_Join_2), g_r1_Sum, trivial⟩) mixes Tryd.func14 (by kernel_rfl) (by kernel_rfl) ?_
  rintro A K ⟨q, a, t, r, hA, h, hK⟩
  refine ⟨_, _, fun _ => none, hA, hK, by kernel_rfl, ⟨rfl, fun _ _ => trivial⟩, ?_⟩
  have h1 : (0 ≤ a ∧ a ≤ 1) ∧ (0 ≤ r ∧ r ≤ 3) ∧ (-1 ≤ t ∧ t ≤ 1) := by unfold rgt at h; omega
  obtain ⟨⟨ha0, ha1⟩, ⟨hr0, hr1⟩, ht0, ht1⟩ := h1
  repeat ((conv => whnf); first | refine sdO ?_ | refine nlO ?_ | refine goA ?_ | refine goB ?_ | (apply Exists.intro; (repeat apply Exists.intro); refine caO ?_) | (refine Or.inl ?_; (conv => whnf); (repeat apply Exists.intro); refine caO ?_) | (refine Or.inr ?_; (conv => whnf); first | ((repeat apply Exists.intro); refine caO ?_) | (refine Or.inl ?_; (conv => whnf); (repeat apply Exists.intro); refine caO ?_) | (refine Or.inr ?_; (conv => whnf); (repeat apply Exists.intro); refine caO ?_)) | refine And.intro (by assumption) ?_ | refine goT ?_ | refine goF ?_ | refine goL ?_ | refine goR ?_ | refine goRL ?_ | refine goRR ?_)
  all_goals try (conv => whnf)
  ((repeat' ((conv => whnf) <;> first | exact trivial | (with_reducible first | refine And.intro ?_ ?_ | refine rows_lt1 ?_ | refine rows_lt2 ?_ ?_ | refine rows_lt3 ?_ ?_ ?_ | refine rows_lt4 ?_ ?_ ?_ ?_ | refine rows_lt5 ?_ ?_ ?_ ?_ ?_ | refine ints_lt1 ?_ | refine ints_lt2 ?_ ?_ | refine ints_lt3 ?_ ?_ ?_ | refine rows_lt7 ?_ ?_ ?_ ?_ ?_ ?_ ?_ | refine aggs_lt1 ?_ | refine aggs_lt2 ?_ ?_ | refine aggs_lt3 ?_ ?_ ?_ | refine fun (_ : Nat) => ?_) | refine fun (_ : (_ : Nat) < _) => ?_ | exact rfl | exact Nat.le_of_ble_eq_true rfl | (change (_ : Nat) ≤ _; omega) | (change (_ : Nat) = _; omega) | (change (_ : Int) = _; omega))); (all_goals try (conv => whnf)))
  rename_i x hx
  refine rb_at (q := q) (a := a) (t := t) (r := r) _ _ _ x hx ?_ ?_ ?_
  all_goals (intro j hj; obtain rfl | rfl | rfl | rfl : j = 0 ∨ j = 1 ∨ j = 2 ∨ j = 3 := by omega)
  all_goals rfl
def C_r22_Parse : SpecP := fun A K => ∃ l b, A [bsl l b] ∧ ((isR l b ∧ K (tupOf [recA b, .bo true])) ∨ (¬ isR l b ∧ K (tupOf [jsA 0 0 0 0, .bo false])))
theorem g_r22_Parse : Gd 17 (pureP ty C_r22_Parse) := by
  refine goodP (E := PG [(30, pureP ty C_r1_Sum), (33, pureP ty C_r1_Value4), (13, pureP ty C_r1_Same), (11, pureP ty C_jn_Right)]) (pgOK ⟨g_r1_Sum, g_r1_Value4, g_r1_Same, g_r22_Right, trivial⟩) mixes Tryd.func17 (by kernel_rfl) (by kernel_rfl) ?_
  rintro A K ⟨l, b, hA, ⟨h, hK⟩ | ⟨h, hK⟩⟩
  · refine ⟨_, _, fun _ => none, hA, hK, by kernel_rfl, own_res (own_js _ _ _ _) trivial, ?_⟩
    have hl : l = 32 := by unfold isR at h; exact h.1
    subst hl
    have hrf := (isR_iff b).1 h
    unfold rfR at hrf
    obtain ⟨hm, h11, hr, hs⟩ := hrf
    have hm' := (rcS0 b).2 hm
    have e1 : (fun x => b (0 + x)) = b := funext fun i => congrArg b (Nat.zero_add i)
    have hs' : (lw 20 fun x => b (12 + x)) = lw 20 fun x => at8 (sha256 (lw 12 fun x => b (0 + x))) (0 + x) := by
      rw [e1, hs]
      exact lw_eq.2 fun i _ => by rw [Nat.zero_add]
    have hr' : rgt ((b 8).toNat : Int) (((b 9).toNat : Int) - 1) ((b 10).toNat : Int) := hr
    repeat ((conv => whnf); first | refine sdO ?_ | refine nlO ?_ | refine goA ?_ | refine goB ?_ | (apply Exists.intro; (repeat apply Exists.intro); refine caO ?_) | (refine Or.inl ?_; (conv => whnf); (repeat apply Exists.intro); refine caO ?_) | (refine Or.inr ?_; (conv => whnf); first | ((repeat apply Exists.intro); refine caO ?_) | (refine Or.inl ?_; (conv => whnf); (repeat apply Exists.intro); refine caO ?_) | (refine Or.inr ?_; (conv => whnf); (repeat apply Exists.intro); refine caO ?_)) | refine And.intro (by assumption) ?_ | refine goT ?_ | refine goF ?_ | refine goL ?_ | refine goR ?_ | refine goRL ?_ | refine goRR ?_)
    all_goals try (conv => whnf)
    ((repeat' ((conv => whnf) <;> first | exact trivial | (with_reducible first | refine And.intro ?_ ?_ | refine rows_lt1 ?_ | refine rows_lt2 ?_ ?_ | refine rows_lt3 ?_ ?_ ?_ | refine rows_lt4 ?_ ?_ ?_ ?_ | refine rows_lt5 ?_ ?_ ?_ ?_ ?_ | refine ints_lt1 ?_ | refine ints_lt2 ?_ ?_ | refine ints_lt3 ?_ ?_ ?_ | refine rows_lt7 ?_ ?_ ?_ ?_ ?_ ?_ ?_ | refine aggs_lt1 ?_ | refine aggs_lt2 ?_ ?_ | refine aggs_lt3 ?_ ?_ ?_ | refine fun (_ : Nat) => ?_) | refine fun (_ : (_ : Nat) < _) => ?_ | exact rfl | exact Nat.le_of_ble_eq_true rfl | (change (_ : Nat) ≤ _; omega) | (change (_ : Nat) = _; omega) | (change (_ : Int) = _; omega))); (all_goals try (conv => whnf)))
    all_goals exact tk32 _
  · refine ⟨_, _, fun _ => none, hA, hK, by kernel_rfl, own_res (own_js _ _ _ _) trivial, ?_⟩
    rcases Decidable.em (l = 32) with hl | hl
    · subst hl
      have hrf : ¬ rfR b := fun q => h ((isR_iff b).2 q)
      unfold rfR at hrf
      have e1 : (fun x => b (0 + x)) = b := funext fun i => congrArg b (Nat.zero_add i)
      rcases Decidable.em (lw 4 b = [66, 67, 84, 76]) with hm | hm
      · have hm' := (rcS0 b).2 hm
        rcases Decidable.em (b 11 = 0) with h11 | h11
        · rcases Decidable.em ((lw 20 fun x => b (12 + x)) = lw 20 (at8 (sha256 (lw 12 b)))) with hs | hs
          · have hr : ¬ rgt (bA b) (bT b) (bR b) := fun q => hrf ⟨hm, h11, q, hs⟩
            have hr' : ¬ rgt ((b 8).toNat : Int) (((b 9).toNat : Int) - 1) ((b 10).toNat : Int) := hr
            have hs' : (lw 20 fun x => b (12 + x)) = lw 20 fun x => at8 (sha256 (lw 12 fun x => b (0 + x))) (0 + x) := by
              rw [e1, hs]
              exact lw_eq.2 fun i _ => by rw [Nat.zero_add]
            repeat ((conv => whnf); first | refine sdO ?_ | refine nlO ?_ | refine goA ?_ | refine goB ?_ | (apply Exists.intro; (repeat apply Exists.intro); refine caO ?_) | (refine Or.inl ?_; (conv => whnf); (repeat apply Exists.intro); refine caO ?_) | (refine Or.inr ?_; (conv => whnf); first | ((repeat apply Exists.intro); refine caO ?_) | (refine Or.inl ?_; (conv => whnf); (repeat apply Exists.intro); refine caO ?_) | (refine Or.inr ?_; (conv => whnf); (repeat apply Exists.intro); refine caO ?_)) | refine And.intro (by assumption) ?_ | refine goT ?_ | refine goF ?_ | refine goL ?_ | refine goR ?_ | refine goRL ?_ | refine goRR ?_)
            all_goals try (conv => whnf)
            ((repeat' ((conv => whnf) <;> first | exact trivial | (with_reducible first | refine And.intro ?_ ?_ | refine rows_lt1 ?_ | refine rows_lt2 ?_ ?_ | refine rows_lt3 ?_ ?_ ?_ | refine rows_lt4 ?_ ?_ ?_ ?_ | refine rows_lt5 ?_ ?_ ?_ ?_ ?_ | refine ints_lt1 ?_ | refine ints_lt2 ?_ ?_ | refine ints_lt3 ?_ ?_ ?_ | refine rows_lt7 ?_ ?_ ?_ ?_ ?_ ?_ ?_ | refine aggs_lt1 ?_ | refine aggs_lt2 ?_ ?_ | refine aggs_lt3 ?_ ?_ ?_ | refine fun (_ : Nat) => ?_) | refine fun (_ : (_ : Nat) < _) => ?_ | exact rfl | exact Nat.le_of_ble_eq_true rfl | (change (_ : Nat) ≤ _; omega) | (change (_ : Nat) = _; omega) | (change (_ : Int) = _; omega))); (all_goals try (conv => whnf)))
          · have hs' : ¬ (lw 20 fun x => b (12 + x)) = lw 20 fun x => at8 (sha256 (lw 12 fun x => b (0 + x))) (0 + x) := fun q => hs (by
              rw [e1] at q
              exact q.trans (lw_eq.2 fun i _ => by rw [Nat.zero_add]))
            repeat ((conv => whnf); first | refine sdO ?_ | refine nlO ?_ | refine goA ?_ | refine goB ?_ | (apply Exists.intro; (repeat apply Exists.intro); refine caO ?_) | (refine Or.inl ?_; (conv => whnf); (repeat apply Exists.intro); refine caO ?_) | (refine Or.inr ?_; (conv => whnf); first | ((repeat apply Exists.intro); refine caO ?_) | (refine Or.inl ?_; (conv => whnf); (repeat apply Exists.intro); refine caO ?_) | (refine Or.inr ?_; (conv => whnf); (repeat apply Exists.intro); refine caO ?_)) | refine And.intro (by assumption) ?_ | refine goT ?_ | refine goF ?_ | refine goL ?_ | refine goR ?_ | refine goRL ?_ | refine goRR ?_)
            all_goals try (conv => whnf)
            ((repeat' ((conv => whnf) <;> first | exact trivial | (with_reducible first | refine And.intro ?_ ?_ | refine rows_lt1 ?_ | refine rows_lt2 ?_ ?_ | refine rows_lt3 ?_ ?_ ?_ | refine rows_lt4 ?_ ?_ ?_ ?_ | refine rows_lt5 ?_ ?_ ?_ ?_ ?_ | refine ints_lt1 ?_ | refine ints_lt2 ?_ ?_ | refine ints_lt3 ?_ ?_ ?_ | refine rows_lt7 ?_ ?_ ?_ ?_ ?_ ?_ ?_ | refine aggs_lt1 ?_ | refine aggs_lt2 ?_ ?_ | refine aggs_lt3 ?_ ?_ ?_ | refine fun (_ : Nat) => ?_) | refine fun (_ : (_ : Nat) < _) => ?_ | exact rfl | exact Nat.le_of_ble_eq_true rfl | (change (_ : Nat) ≤ _; omega) | (change (_ : Nat) = _; omega) | (change (_ : Int) = _; omega))); (all_goals try (conv => whnf)))
        · skip
          repeat ((conv => whnf); first | refine sdO ?_ | refine nlO ?_ | refine goA ?_ | refine goB ?_ | (apply Exists.intro; (repeat apply Exists.intro); refine caO ?_) | (refine Or.inl ?_; (conv => whnf); (repeat apply Exists.intro); refine caO ?_) | (refine Or.inr ?_; (conv => whnf); first | ((repeat apply Exists.intro); refine caO ?_) | (refine Or.inl ?_; (conv => whnf); (repeat apply Exists.intro); refine caO ?_) | (refine Or.inr ?_; (conv => whnf); (repeat apply Exists.intro); refine caO ?_)) | refine And.intro (by assumption) ?_ | refine goT ?_ | refine goF ?_ | refine goL ?_ | refine goR ?_ | refine goRL ?_ | refine goRR ?_)
          all_goals try (conv => whnf)
          ((repeat' ((conv => whnf) <;> first | exact trivial | (with_reducible first | refine And.intro ?_ ?_ | refine rows_lt1 ?_ | refine rows_lt2 ?_ ?_ | refine rows_lt3 ?_ ?_ ?_ | refine rows_lt4 ?_ ?_ ?_ ?_ | refine rows_lt5 ?_ ?_ ?_ ?_ ?_ | refine ints_lt1 ?_ | refine ints_lt2 ?_ ?_ | refine ints_lt3 ?_ ?_ ?_ | refine rows_lt7 ?_ ?_ ?_ ?_ ?_ ?_ ?_ | refine aggs_lt1 ?_ | refine aggs_lt2 ?_ ?_ | refine aggs_lt3 ?_ ?_ ?_ | refine fun (_ : Nat) => ?_) | refine fun (_ : (_ : Nat) < _) => ?_ | exact rfl | exact Nat.le_of_ble_eq_true rfl | (change (_ : Nat) ≤ _; omega) | (change (_ : Nat) = _; omega) | (change (_ : Int) = _; omega))); (all_goals try (conv => whnf)))
      · have hm' : ¬ (strOf 4 fun i => bys b (0 + i)) = [66, 67, 84, 76] := fun q => hm ((rcS0 b).1 q)
        repeat ((conv => whnf); first | refine sdO ?_ | refine nlO ?_ | refine goA ?_ | refine goB ?_ | (apply Exists.intro; (repeat apply Exists.intro); refine caO ?_) | (refine Or.inl ?_; (conv => whnf); (repeat apply Exists.intro); refine caO ?_) | (refine Or.inr ?_; (conv => whnf); first | ((repeat apply Exists.intro); refine caO ?_) | (refine Or.inl ?_; (conv => whnf); (repeat apply Exists.intro); refine caO ?_) | (refine Or.inr ?_; (conv => whnf); (repeat apply Exists.intro); refine caO ?_)) | refine And.intro (by assumption) ?_ | refine goT ?_ | refine goF ?_ | refine goL ?_ | refine goR ?_ | refine goRL ?_ | refine goRR ?_)
        all_goals try (conv => whnf)
        ((repeat' ((conv => whnf) <;> first | exact trivial | (with_reducible first | refine And.intro ?_ ?_ | refine rows_lt1 ?_ | refine rows_lt2 ?_ ?_ | refine rows_lt3 ?_ ?_ ?_ | refine rows_lt4 ?_ ?_ ?_ ?_ | refine rows_lt5 ?_ ?_ ?_ ?_ ?_ | refine ints_lt1 ?_ | refine ints_lt2 ?_ ?_ | refine ints_lt3 ?_ ?_ ?_ | refine rows_lt7 ?_ ?_ ?_ ?_ ?_ ?_ ?_ | refine aggs_lt1 ?_ | refine aggs_lt2 ?_ ?_ | refine aggs_lt3 ?_ ?_ ?_ | refine fun (_ : Nat) => ?_) | refine fun (_ : (_ : Nat) < _) => ?_ | exact rfl | exact Nat.le_of_ble_eq_true rfl | (change (_ : Nat) ≤ _; omega) | (change (_ : Nat) = _; omega) | (change (_ : Int) = _; omega))); (all_goals try (conv => whnf)))
    · skip
      repeat ((conv => whnf); first | refine sdO ?_ | refine nlO ?_ | refine goA ?_ | refine goB ?_ | (apply Exists.intro; (repeat apply Exists.intro); refine caO ?_) | (refine Or.inl ?_; (conv => whnf); (repeat apply Exists.intro); refine caO ?_) | (refine Or.inr ?_; (conv => whnf); first | ((repeat apply Exists.intro); refine caO ?_) | (refine Or.inl ?_; (conv => whnf); (repeat apply Exists.intro); refine caO ?_) | (refine Or.inr ?_; (conv => whnf); (repeat apply Exists.intro); refine caO ?_)) | refine And.intro (by assumption) ?_ | refine goT ?_ | refine goF ?_ | refine goL ?_ | refine goR ?_ | refine goRL ?_ | refine goRR ?_)
      all_goals try (conv => whnf)
      ((repeat' ((conv => whnf) <;> first | exact trivial | (with_reducible first | refine And.intro ?_ ?_ | refine rows_lt1 ?_ | refine rows_lt2 ?_ ?_ | refine rows_lt3 ?_ ?_ ?_ | refine rows_lt4 ?_ ?_ ?_ ?_ | refine rows_lt5 ?_ ?_ ?_ ?_ ?_ | refine ints_lt1 ?_ | refine ints_lt2 ?_ ?_ | refine ints_lt3 ?_ ?_ ?_ | refine rows_lt7 ?_ ?_ ?_ ?_ ?_ ?_ ?_ | refine aggs_lt1 ?_ | refine aggs_lt2 ?_ ?_ | refine aggs_lt3 ?_ ?_ ?_ | refine fun (_ : Nat) => ?_) | refine fun (_ : (_ : Nat) < _) => ?_ | exact rfl | exact Nat.le_of_ble_eq_true rfl | (change (_ : Nat) ≤ _; omega) | (change (_ : Nat) = _; omega) | (change (_ : Int) = _; omega))); (all_goals try (conv => whnf)))
end
end Go.Proofs.YtldlleoabbcpdaaDoor
