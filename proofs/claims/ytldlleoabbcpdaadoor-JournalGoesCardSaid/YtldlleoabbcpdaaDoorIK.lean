/- The journal: records. -/
import Derived.Test.YtldlleoabbcpdaaDoorIA
namespace Go.Proofs.YtldlleoabbcpdaaDoor
open Go.RowKit
set_option maxRecDepth 100000
set_option maxHeartbeats 20000000
/-! ### Records -/
/-- The record's first twelve bytes, and the whole. -/
def rcH (q : BitVec 32) (a t r : Int) (j : Nat) : BitVec 8 :=
  if j < 4 then at8 [66, 67, 84, 76] j else if j < 8 then byt (q.setWidth 64) (7 - j) else if j = 8 then BitVec.ofInt 8 a else if j = 9 then BitVec.ofInt 8 (t + 1) else if j = 10 then BitVec.ofInt 8 r else 0
def rcF (q : BitVec 32) (a t r : Int) (j : Nat) : BitVec 8 := if j < 12 then rcH q a t r j else at8 (sha256 (lw 12 (rcH q a t r))) (j - 12)
theorem rcH_c {q : BitVec 32} {a t r : Int} (f : Nat → BitVec 8) (h0 : f 0 = 66) (h1 : f 1 = 67) (h2 : f 2 = 84) (h3 : f 3 = 76) (h4 : f 4 = (q >>> 24).setWidth 8) (h5 : f 5 = (q >>> 16).setWidth 8) (h6 : f 6 = (q >>> 8).setWidth 8) (h7 : f 7 = q.setWidth 8) (h8 : f 8 = BitVec.ofInt 8 a) (h9 : f 9 = BitVec.ofInt 8 (t + 1)) (h10 : f 10 = BitVec.ofInt 8 r) (h11 : f 11 = 0) (j : Nat) (hj : j < 12) : f j = rcH q a t r j := by
  obtain rfl | rfl | rfl | rfl | rfl | rfl | rfl | rfl | rfl | rfl | rfl | rfl : j = 0 ∨ j = 1 ∨ j = 2 ∨ j = 3 ∨ j = 4 ∨ j = 5 ∨ j = 6 ∨ j = 7 ∨ j = 8 ∨ j = 9 ∨ j = 10 ∨ j = 11 := by omega
  · exact h0
  · exact h1
  · exact h2
  · exact h3
  · exact h4.trans (byt_q q 3).symm
  · exact h5.trans (byt_q q 2).symm
  · exact h6.trans (byt_q q 1).symm
  · exact h7.trans (byt_q q 0).symm
  · exact h8
  · exact h9
  · exact h10
  · exact h11
def rcV (q : BitVec 32) (a t r : Int) (j : Nat) : BitVec 8 := ([66, 67, 84, 76, (q >>> 24).setWidth 8, (q >>> 16).setWidth 8, (q >>> 8).setWidth 8, q.setWidth 8, BitVec.ofInt 8 a, BitVec.ofInt 8 (t + 1), BitVec.ofInt 8 r, 0] : List (BitVec 8)).getD j 0
theorem rcV_eq {q : BitVec 32} {a t r : Int} {j : Nat} (hj : j < 12) : rcV q a t r j = rcH q a t r j := rcH_c _ rfl rfl rfl rfl rfl rfl rfl rfl rfl rfl rfl rfl j hj
theorem rc_lo {q : BitVec 32} {a t r : Int} {x : Nat} (h : x < 12) : rcH q a t r x = rcF q a t r x := (if_pos h).symm
theorem rc_no {q : BitVec 32} {a t r : Int} {x : Nat} (h : ¬ x < 12) : at8 (sha256 (lw 12 (rcH q a t r))) (x - 12) = rcF q a t r x := (if_neg h).symm
theorem rc_hi {q : BitVec 32} {a t r : Int} (G : Nat → BitVec 8) (hG : ∀ j, j < 12 → G j = rcH q a t r j) (u v : Nat) (h : u = v) : at8 (sha256 (lw (4 + 4 + 4) G)) u = at8 (sha256 (lw 12 (rcH q a t r))) v := by
  rw [h, show lw (4 + 4 + 4) G = lw 12 (rcH q a t r) from lw_eq.2 hG]
section
attribute [local irreducible] at8 be rcH lw hsh rst sha256 press dig
def C_jn_BytesE : SpecP := fun A K => ∃ q a t r, A [jsA q a t r] ∧ ¬ rgt a t r ∧ K .nils
theorem g_jn_BytesE : Gd 10 (pureP ty C_jn_BytesE) := by
  refine goodP (E := PG [(12, pureP ty C_jn_Right)]) (pgOK ⟨g_jn_Right, trivial⟩) mixes Tryd.func10 (by kernel_rfl) (by kernel_rfl) ?_
  rintro A K ⟨q, a, t, r, hA, h, hK⟩
  refine ⟨_, _, fun _ => none, hA, hK, by kernel_rfl, trivial, ?_⟩
  repeat ((conv => whnf); first | refine sdO ?_ | refine nlO ?_ | refine goA ?_ | refine goB ?_ | (apply Exists.intro; (repeat apply Exists.intro); refine caO ?_) | (refine Or.inl ?_; (conv => whnf); (repeat apply Exists.intro); refine caO ?_) | (refine Or.inr ?_; (conv => whnf); first | ((repeat apply Exists.intro); refine caO ?_) | (refine Or.inl ?_; (conv => whnf); (repeat apply Exists.intro); refine caO ?_) | (refine Or.inr ?_; (conv => whnf); (repeat apply Exists.intro); refine caO ?_)) | refine And.intro (by assumption) ?_ | refine goT ?_ | refine goF ?_ | refine goL ?_ | refine goR ?_ | refine goRL ?_ | refine goRR ?_)
  all_goals try (conv => whnf)
  ((repeat' ((conv => whnf) <;> first | exact trivial | (with_reducible first | refine And.intro ?_ ?_ | refine rows_lt1 ?_ | refine rows_lt2 ?_ ?_ | refine rows_lt3 ?_ ?_ ?_ | refine rows_lt4 ?_ ?_ ?_ ?_ | refine rows_lt5 ?_ ?_ ?_ ?_ ?_ | refine ints_lt1 ?_ | refine ints_lt2 ?_ ?_ | refine ints_lt3 ?_ ?_ ?_ | refine rows_lt7 ?_ ?_ ?_ ?_ ?_ ?_ ?_ | refine aggs_lt1 ?_ | refine aggs_lt2 ?_ ?_ | refine aggs_lt3 ?_ ?_ ?_ | refine fun (_ : Nat) => ?_) | refine fun (_ : (_ : Nat) < _) => ?_ | exact rfl | exact Nat.le_of_ble_eq_true rfl | (change (_ : Nat) ≤ _; omega) | (change (_ : Nat) = _; omega) | (change (_ : Int) = _; omega))); (all_goals try (conv => whnf)))
def C_jn_Bytes : SpecR := fun A K => ∃ q a t r, A [jsA q a t r] ∧ rgt a t r ∧ K (.gsl 5 8 32) [(8, .grow 5 32 (bys (rcF q a t r)))]
abbrev PL (l : List (FuncId × Ctr)) : Pg := { ty := ty, gl := gl, ctr := ctrOf l, lit := true }
theorem pgOKL {l : List (FuncId × Ctr)} (h : AllP (fun q => Gd q.1 q.2) l) : PgOK Tryd.prog (PL l) := ⟨gl_flat, tysOK, mxOK, ctrOK_of h, fun _ _ h => by cases h⟩
theorem g_jn_Bytes : Gd 10 (pureR ty C_jn_Bytes) := by
  refine goodR (E := PL [(12, pureP ty C_jn_Right), (28, pureP ty C_sha_Sum_a)]) (pgOKL ⟨g_jn_Right, g_sha_Sum_a, trivial⟩) mixes Tryd.func10 (by kernel_rfl) (by kernel_rfl) ?_
  rintro A K ⟨q, a, t, r, hA, h, hK⟩
  refine ⟨_, _, _, fun _ => none, hA, hK, by kernel_rfl, by kernel_rfl, ⟨fun _ _ => trivial, trivial⟩, trivial, ?_⟩
  have h1 := h.1
  have h2 := h.2.1
  have h3 : -1 ≤ t ∧ t ≤ 1 := by have := h.2.2; omega
  repeat ((conv => whnf); first | refine sdO ?_ | refine nlO ?_ | refine goA ?_ | refine goB ?_ | (apply Exists.intro; (repeat apply Exists.intro); refine caO ?_) | (refine Or.inl ?_; (conv => whnf); (repeat apply Exists.intro); refine caO ?_) | (refine Or.inr ?_; (conv => whnf); first | ((repeat apply Exists.intro); refine caO ?_) | (refine Or.inl ?_; (conv => whnf); (repeat apply Exists.intro); refine caO ?_) | (refine Or.inr ?_; (conv => whnf); (repeat apply Exists.intro); refine caO ?_)) | refine And.intro (by assumption) ?_ | refine goT ?_ | refine goF ?_ | refine goL ?_ | refine goR ?_ | refine goRL ?_ | refine goRR ?_)
  all_goals try (conv => whnf)
  (refine out_fnd ?_; (repeat' ((conv => whnf) <;> first | exact trivial | (with_reducible first | refine And.intro ?_ ?_ | refine rows_lt1 ?_ | refine rows_lt2 ?_ ?_ | refine rows_lt3 ?_ ?_ ?_ | refine rows_lt4 ?_ ?_ ?_ ?_ | refine rows_lt5 ?_ ?_ ?_ ?_ ?_ | refine ints_lt1 ?_ | refine ints_lt2 ?_ ?_ | refine ints_lt3 ?_ ?_ ?_ | refine rows_lt7 ?_ ?_ ?_ ?_ ?_ ?_ ?_ | refine aggs_lt1 ?_ | refine aggs_lt2 ?_ ?_ | refine aggs_lt3 ?_ ?_ ?_ | refine fun (_ : Nat) => ?_) | refine fun (_ : (_ : Nat) < _) => ?_ | exact rfl | exact Nat.le_of_ble_eq_true rfl | (change (_ : Nat) ≤ _; omega) | (change (_ : Nat) = _; omega) | (change (_ : Int) = _; omega))); (all_goals try (conv => whnf)))
  rename_i x hx
  by_cases h12 : x < 4 + 4 + 4
  · rw [if_pos h12]
    refine Eq.trans ?_ ((rcV_eq h12).trans (rc_lo h12))
    have h12 : x < 12 := h12
    obtain rfl | rfl | rfl | rfl | rfl | rfl | rfl | rfl | rfl | rfl | rfl | rfl : x = 0 ∨ x = 1 ∨ x = 2 ∨ x = 3 ∨ x = 4 ∨ x = 5 ∨ x = 6 ∨ x = 7 ∨ x = 8 ∨ x = 9 ∨ x = 10 ∨ x = 11 := by omega
    all_goals rfl
  · rw [if_neg h12]
    conv => lhs; whnf
    refine Eq.trans (rc_hi (q := q) (a := a) (t := t) (r := r) _ ?_ _ (x - 12) (Nat.zero_add _)) (rc_no h12)
    intro j hj
    refine Eq.trans ?_ (rcV_eq hj)
    obtain rfl | rfl | rfl | rfl | rfl | rfl | rfl | rfl | rfl | rfl | rfl | rfl : j = 0 ∨ j = 1 ∨ j = 2 ∨ j = 3 ∨ j = 4 ∨ j = 5 ∨ j = 6 ∨ j = 7 ∨ j = 8 ∨ j = 9 ∨ j = 10 ∨ j = 11 := by omega
    all_goals rfl
theorem good_imp2 {P : Program} {ty : TypeId → Ty} {gl : Nat → AV} {f : FuncId} {C1 C2 D C10 C20 D0 : Ctr} [h1 : Told C1 C10] [h2 : Told C2 C20] [hD : Told D D0] (g1 : Good P ty gl f C1) (g2 : Good P ty gl f C2) (h : ∀ args m key K, D0 args m key K → C10 args m key K ∨ C20 args m key K) : Good P ty gl f D := fun args m key K hd => by
  rw [hD.eq] at hd
  rcases h args m key K hd with h | h
  · exact g1 args m key K (by rw [h1.eq]; exact h)
  · exact g2 args m key K (by rw [h2.eq]; exact h)
def C_jn_BytesX : SpecR := fun A K => ∃ q a t r, A [jsA q a t r] ∧ ((rgt a t r ∧ K (.gsl 5 8 32) [(8, .grow 5 32 (bys (rcF q a t r)))]) ∨ (¬ rgt a t r ∧ K .nils []))
theorem g_jn_BytesX : Gd 10 (pureR ty C_jn_BytesX) := good_imp2 g_jn_BytesE g_jn_Bytes fun args m key K ⟨q, a, t, r, hA, h⟩ => by
  rcases h with ⟨h, hK⟩ | ⟨h, hK⟩
  · exact Or.inr ⟨q, a, t, r, hA, h, hK⟩
  · exact Or.inl ⟨q, a, t, r, hA, h, hK⟩
end
end Go.Proofs.YtldlleoabbcpdaaDoor
