/- The journal: records as values, a page as a value, and what a torn page may tell. -/
import Derived.Test.YtldlleoabbcpdaaDoorIJ
namespace Go.Proofs.YtldlleoabbcpdaaDoor
open Go.RowKit
set_option maxRecDepth 100000
set_option maxHeartbeats 20000000
theorem lenq_of {c : Cx} {fr : Bool} {et : Ty} {l : Nat} {f : Nat → AV} {v : Value} (h : RV c (.imm fr et l f) v) : l ≤ maxLen := by
  obtain ⟨A, q, _, h1, h2, _⟩ := (show R c _ _ from h)
  exact Nat.le_trans h1 h2
theorem inn1 {c : Cx} {fr fr' : Bool} {et et' : Ty} {l l' : Nat} {f f' : Nat → AV} {v : Value} (h : RV c (.imm fr et l f) v) {k : Nat} (hk : k < l) (e : f k = .imm fr' et' l' f') : l' ≤ maxLen := by
  obtain ⟨A, q, _, h1, h2, h3⟩ := (show R c _ _ from h)
  obtain ⟨b, o, _, _, _, _, hi⟩ := h3 (by omega)
  obtain ⟨_, ds, hr, _⟩ := hi k hk
  rw [e] at hr
  obtain ⟨A, q, _, h1, h2, _⟩ := hr
  exact Nat.le_trans h1 h2
section
attribute [local irreducible] at8 be rcF rcH lw hsh rst sha256 press dig isR rgt w4 rdN
theorem opm_out {m : Nat → BitVec 8} {kd : BitVec 8} {pg : Int} {l : Nat} {b : Nat → BitVec 8} {n : Nat} {k : Nat → BitVec 8} {j : Nat} (hj : ¬ (pg.toNat * 256 ≤ j ∧ j < pg.toNat * 256 + 256)) : opM m kd pg l b n k j = m j := by
  unfold opM tearF
  rw [if_neg (by omega)]
/-- Where the next page alone has changed: the state is the one that was, or that page's record. -/
theorem torn {M T : Nat → BitVec 8} (h : ∀ x, x < 32 → pgF T (65 - (nxP M).toNat) x = pgF M (65 - (nxP M).toNat) x) :
    (rdN T 2).1 = (rdN M 2).1 ∨ (isR 32 (pgF T (nxP M).toNat) ∧ recJ (pgF T (nxP M).toNat) = (rdN T 2).1 ∧ nxP M ≠ (rdN M 2).2) := by
  obtain ⟨o1, o2, _⟩ := rec_old h
  rcases rd_cases M with ⟨⟨h0, h1⟩, e⟩ | ⟨⟨h0, h1⟩, e⟩ | ⟨⟨h0, h1⟩, e⟩
  · have ep : nxP M = 33 := by unfold nxP; rw [e]; exact if_pos rfl
    rw [ep] at o1 o2 ⊢
    have o1 : isR 32 (pgF T 32) ↔ isR 32 (pgF M 32) := o1
    have o2 : recJ (pgF T 32) = recJ (pgF M 32) := o2
    rcases rd_cases T with ⟨_, e'⟩ | ⟨⟨t0, _⟩, e'⟩ | ⟨⟨t0, _⟩, _⟩
    · exact Or.inl (by rw [e', e]; exact o2)
    · exact Or.inr ⟨t0, by rw [e']; rfl, by rw [e]; exact (show ¬ ((33 : Int) = 32) by decide)⟩
    · exact absurd (o1.2 h0) t0
  · have ep : nxP M = 32 := by unfold nxP; rw [e]; exact if_neg (show ¬ ((33 : Int) = 32) by decide)
    rw [ep] at o1 o2 ⊢
    have o1 : isR 32 (pgF T 33) ↔ isR 32 (pgF M 33) := o1
    have o2 : recJ (pgF T 33) = recJ (pgF M 33) := o2
    rcases rd_cases T with ⟨⟨t0, _⟩, e'⟩ | ⟨_, e'⟩ | ⟨⟨_, t0⟩, _⟩
    · exact Or.inr ⟨t0, by rw [e']; rfl, by rw [e]; exact (show ¬ ((32 : Int) = 33) by decide)⟩
    · exact Or.inl (by rw [e', e]; exact o2)
    · exact absurd (o1.2 h0) t0
  · have ep : nxP M = 32 := by unfold nxP; rw [e]; exact if_neg (show ¬ ((-1 : Int) = 32) by decide)
    rw [ep] at o1 o2 ⊢
    have o1 : isR 32 (pgF T 33) ↔ isR 32 (pgF M 33) := o1
    rcases rd_cases T with ⟨⟨t0, _⟩, e'⟩ | ⟨⟨t0, _⟩, _⟩ | ⟨_, e'⟩
    · exact Or.inr ⟨t0, by rw [e']; rfl, by rw [e]; exact (show ¬ ((32 : Int) = -1) by decide)⟩
    · exact absurd (o1.1 t0) h1
    · exact Or.inl (by rw [e', e])
theorem js_ext {s u : JS} (h0 : s.q = u.q) (h1 : s.a = u.a) (h2 : s.t = u.t) (h3 : s.r = u.r) : s = u := by
  obtain ⟨a, b, c, d⟩ := s
  obtain ⟨a', b', c', d'⟩ := u
  replace h0 : a = a' := h0
  replace h1 : b = b' := h1
  replace h2 : c = c' := h2
  replace h3 : d = d' := h3
  subst h0 h1 h2 h3
  rfl
instance (s u : JS) : Decidable (s = u) := if h : s.q = u.q ∧ s.a = u.a ∧ s.t = u.t ∧ s.r = u.r then .isTrue (js_ext h.1 h.2.1 h.2.2.1 h.2.2.2) else .isFalse fun e => h (by subst e; exact ⟨rfl, rfl, rfl, rfl⟩)
end
attribute [local irreducible] at8 be rcF rcH lw hsh rst sha256 press dig isR rgt w4 rdN bQ bA bT bR setF badB opW opM doM opK nxM nxP lyM
/-- A state's record, or nothing, as bytes. -/
def byL (a t r : Int) : Nat := if rgt a t r then 32 else 0
def byF (q : BitVec 32) (a t r : Int) : Nat → BitVec 8 := if rgt a t r then rcF q a t r else fun _ => 0
theorem byL_le (a t r : Int) : byL a t r ≤ maxLen := by unfold byL; split <;> decide
def C_jn_BytesV : SpecP := fun A K => ∃ q a t r, A [jsA q a t r] ∧ K (bsf (byL a t r) (byF q a t r))
section
theorem g_jn_BytesV : Gd 10 (pureP ty C_jn_BytesV) := by
  refine goodP (E := PL [(12, pureP ty C_jn_Right), (28, pureP ty C_sha_Sum_a)]) (pgOKL ⟨g_jn_Right, g_sha_Sum_a, trivial⟩) mixes Tryd.func10 (by kernel_rfl) (by kernel_rfl) ?_
  rintro A K ⟨q, a, t, r, hA, hK⟩
  refine ⟨_, _, fun _ => none, hA, hK, by kernel_rfl, ⟨rfl, fun _ _ => trivial⟩, ?_⟩
  by_cases h : rgt a t r
  · have h1 : (0 ≤ a ∧ a ≤ 1) ∧ (0 ≤ r ∧ r ≤ 3) ∧ (-1 ≤ t ∧ t ≤ 1) := by unfold rgt at h; omega
    obtain ⟨⟨ha0, ha1⟩, ⟨hr0, hr1⟩, ht0, ht1⟩ := h1
    have eL : byL a t r = 32 := if_pos h
    have eF : byF q a t r = rcF q a t r := if_pos h
    rw [eL, eF]
    repeat ((conv => whnf); first | refine sdO ?_ | refine nlO ?_ | refine goA ?_ | refine goB ?_ | (apply Exists.intro; (repeat apply Exists.intro); refine caO ?_) | (refine Or.inl ?_; (conv => whnf); (repeat apply Exists.intro); refine caO ?_) | (refine Or.inr ?_; (conv => whnf); first | ((repeat apply Exists.intro); refine caO ?_) | (refine Or.inl ?_; (conv => whnf); (repeat apply Exists.intro); refine caO ?_) | (refine Or.inr ?_; (conv => whnf); (repeat apply Exists.intro); refine caO ?_)) | refine And.intro (by assumption) ?_ | refine goT ?_ | refine goF ?_ | refine goL ?_ | refine goR ?_ | refine goRL ?_ | refine goRR ?_)
    all_goals try (conv => whnf)
    ((repeat' ((conv => whnf) <;> first | exact trivial | (with_reducible first | refine And.intro ?_ ?_ | refine rows_lt1 ?_ | refine rows_lt2 ?_ ?_ | refine rows_lt3 ?_ ?_ ?_ | refine rows_lt4 ?_ ?_ ?_ ?_ | refine rows_lt5 ?_ ?_ ?_ ?_ ?_ | refine ints_lt1 ?_ | refine ints_lt2 ?_ ?_ | refine ints_lt3 ?_ ?_ ?_ | refine rows_lt7 ?_ ?_ ?_ ?_ ?_ ?_ ?_ | refine aggs_lt1 ?_ | refine aggs_lt2 ?_ ?_ | refine aggs_lt3 ?_ ?_ ?_ | refine fun (_ : Nat) => ?_) | refine fun (_ : (_ : Nat) < _) => ?_ | exact rfl | exact Nat.le_of_ble_eq_true rfl | (change (_ : Nat) ≤ _; omega) | (change (_ : Nat) = _; omega) | (change (_ : Int) = _; omega))); (all_goals try (conv => whnf)))
    rename_i x hx
    by_cases h12 : x < 4 + 4 + 4
    · rw [if_pos h12]
      refine Eq.trans ?_ ((rcV_eq h12).trans (rc_lo h12))
      have h12 : x < 12 := h12
      obtain rfl | rfl | rfl | rfl | rfl | rfl | rfl | rfl | rfl | rfl | rfl | rfl : x = 0 ∨ x = 1 ∨ x = 2 ∨ x = 3 ∨ x = 4 ∨ x = 5 ∨ x = 6 ∨ x = 7 ∨ x = 8 ∨ x = 9 ∨ x = 10 ∨ x = 11 := by omega
      all_goals rfl
    · rw [if_neg h12]
      conv => lhs; whnf
      refine Eq.trans (rc_hi (q := q) (a := a) (t := t) (r := r) _ ?_ _ (x - 12) (Nat.zero_add _)) (rc_no h12)
      intro j hj
      refine Eq.trans ?_ (rcV_eq hj)
      obtain rfl | rfl | rfl | rfl | rfl | rfl | rfl | rfl | rfl | rfl | rfl | rfl : j = 0 ∨ j = 1 ∨ j = 2 ∨ j = 3 ∨ j = 4 ∨ j = 5 ∨ j = 6 ∨ j = 7 ∨ j = 8 ∨ j = 9 ∨ j = 10 ∨ j = 11 := by omega
      all_goals rfl
  · have eL : byL a t r = 0 := if_neg h
    rw [eL]
    repeat ((conv => whnf); first | refine sdO ?_ | refine nlO ?_ | refine goA ?_ | refine goB ?_ | (apply Exists.intro; (repeat apply Exists.intro); refine caO ?_) | (refine Or.inl ?_; (conv => whnf); (repeat apply Exists.intro); refine caO ?_) | (refine Or.inr ?_; (conv => whnf); first | ((repeat apply Exists.intro); refine caO ?_) | (refine Or.inl ?_; (conv => whnf); (repeat apply Exists.intro); refine caO ?_) | (refine Or.inr ?_; (conv => whnf); (repeat apply Exists.intro); refine caO ?_)) | refine And.intro (by assumption) ?_ | refine goT ?_ | refine goF ?_ | refine goL ?_ | refine goR ?_ | refine goRL ?_ | refine goRR ?_)
    all_goals try (conv => whnf)
    ((repeat' ((conv => whnf) <;> first | exact trivial | (with_reducible first | refine And.intro ?_ ?_ | refine rows_lt1 ?_ | refine rows_lt2 ?_ ?_ | refine rows_lt3 ?_ ?_ ?_ | refine rows_lt4 ?_ ?_ ?_ ?_ | refine rows_lt5 ?_ ?_ ?_ ?_ ?_ | refine ints_lt1 ?_ | refine ints_lt2 ?_ ?_ | refine ints_lt3 ?_ ?_ ?_ | refine rows_lt7 ?_ ?_ ?_ ?_ ?_ ?_ ?_ | refine aggs_lt1 ?_ | refine aggs_lt2 ?_ ?_ | refine aggs_lt3 ?_ ?_ ?_ | refine fun (_ : Nat) => ?_) | refine fun (_ : (_ : Nat) < _) => ?_ | exact rfl | exact Nat.le_of_ble_eq_true rfl | (change (_ : Nat) ≤ _; omega) | (change (_ : Nat) = _; omega) | (change (_ : Int) = _; omega))); (all_goals try (conv => whnf)))
end
theorem pgN_one {P : Nat} {z : Int} (h : 0 ≤ z ∧ z < P) : pgN P (fun _ => z) 1 * 256 = 256 := by
  rw [pgN_in (k := 0) h, pgN0]
theorem pgC_one {P : Nat} {m : Nat → BitVec 8} {z : Int} (h : 0 ≤ z ∧ z < P) : pgC P m (fun _ => z) 1 = fun j => m (z.toNat * 256 + j) := by
  funext j
  rw [pgC_in (k := 0) h, pgN0, if_neg (by omega)]
  show m (z.toNat * 256 + (j - 0 * 256)) = _
  rw [Nat.zero_mul, Nat.sub_zero]
def C_fl_Page1 : SpecR := fun A K => ∃ (P : Nat) (m : Nat → BitVec 8) (z : Int), A [flI P m, zsl 1 fun _ => z] ∧ (P ≤ 1024 ∧ 0 ≤ z ∧ z < P) ∧ K (.gsl 5 8 256) [(8, .grow 5 256 (bys fun j => m (z.toNat * 256 + j)))]
theorem g_fl_Page1 : Gd 26 (pureR ty C_fl_Page1) := good_imp g_fl_Pages fun args mm key K ⟨P, m, z, hA, ⟨hP, h0, h1⟩, hK⟩ => ⟨P, 1, m, fun _ => z, hA, ⟨hP, by decide, fun i _ => (show i64' z from ⟨by omega, by omega⟩)⟩, by
  rw [pgN_one ⟨h0, h1⟩, pgC_one ⟨h0, h1⟩]
  exact hK⟩
end Go.Proofs.YtldlleoabbcpdaaDoor
