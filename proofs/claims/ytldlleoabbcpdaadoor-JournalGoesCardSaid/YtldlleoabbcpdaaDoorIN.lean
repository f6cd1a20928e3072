/- The journal: JournalNext. -/
import Derived.Test.YtldlleoabbcpdaaDoorIJ
namespace Go.Proofs.YtldlleoabbcpdaaDoor
open Go.RowKit
set_option maxRecDepth 100000
set_option maxHeartbeats 20000000
attribute [local irreducible] at8 be rcF rcH lw hsh rst sha256 press dig isR rgt w4 rdN bQ bA bT bR setF badB opW opM doM opK nxM nxP lyM
def C_jn_NextX : SpecR := fun A K => ∃ m q a t r, A [flI 40 m, jsA q a t r] ∧ (((¬ rgt a t r ∨ (rdN m 2).1.q = qL) ∧ K .nils []) ∨ ((rgt a t r ∧ ¬ (rdN m 2).1.q = qL) ∧ K (.gsl 56 8 2) (nxR 8 9 (nxP m) ((rdN m 2).1.q + BitVec.ofInt 32 1) a t r)))
theorem g_jn_NextX : Gd 23 (pureR ty C_jn_NextX) := good_imp2 g_jn_NextE g_jn_Next fun args m' key K ⟨m, q, a, t, r, hA, h⟩ => by
  rcases h with ⟨h, hK⟩ | ⟨h, hK⟩
  · exact Or.inl ⟨m, q, a, t, r, hA, h, hK⟩
  · exact Or.inr ⟨m, q, a, t, r, hA, h, hK⟩
/-- What the two operations leave is the same outside the page. -/
theorem nx_same (M : Nat → BitVec 8) (f : Nat → BitVec 8) (j : Nat) (h : j < 8192 ∨ 8704 ≤ j) : nxM M (nxP M) f 2 j = M j :=
  nx_out (by rcases nxP_in M with e | e <;> rw [e] <;> simp only [Int.reduceToNat] <;> omega)
theorem nx_oth {M : Nat → BitVec 8} (f : Nat → BitVec 8) {p : Nat} (hp : (nxP M).toNat + p = 65) (j : Nat) (hj : j < 256) : nxM M (nxP M) f 2 (p * 256 + j) = M (p * 256 + j) :=
  nx_out (by rcases nxP_in M with e | e <;> rw [e] at hp ⊢ <;> simp only [Int.reduceToNat] at hp ⊢ <;> omega)
def L_N6 (h : BitVec 8) (s u : JS) : LI := ⟨Nat × (Nat → BitVec 8), fun g => g.1 ≤ maxLen, fun g => [(0, bsl g.1 g.2), (4, .u8 h), (7, .ptr TJs 16 []), (8, .ptr TJs 24 []), (11, .nils)], fun _ => [(16, .var TJs (jsJ u)), (24, .var TJs (jsJ s))], fun _ => 0, some, some⟩
def L_N8 (s : JS) : LI := ⟨(Nat × (Nat → BitVec 8)) × (Nat × (Nat → BitVec 8)), fun g => g.1.1 ≤ maxLen ∧ g.2.1 ≤ maxLen, fun g => [(0, bsl g.1.1 g.1.2), (8, .ptr TJs 24 []), (11, bsl g.2.1 g.2.2)], fun _ => [(24, .var TJs (jsJ s))], fun _ => 0, some, some⟩
def C_l22_JournalNext : SpecP := fun A K => ∃ l x o u s h, A [bsl l x, jsJ o, jsJ u, jsJ s, .u8 h] ∧ l ≤ maxLen ∧ K (.bo true)
theorem g_l22_JournalNext : Gd 5 (pureP ty C_l22_JournalNext) := by
  refine goodP (E := PG [(8, pureP ty C_l22_awake), (10, pureR ty C_jn_BytesX), (18, pureR ty C_l22_lay), (21, pureP ty C_l22_all), (20, pureP ty C_r22_Read), (23, pureR ty C_jn_NextX), (11, pureP ty C_jn_Right), (24, mutD ty [true, false, false] C_jn_Do), (13, pureP ty C_r1_Same)]) (pgOK ⟨g_l22_awake, g_jn_BytesX, g_l22_lay, g_l22_all, g_r22_Read, g_jn_NextX, g_r22_Right, g_jn_Do, g_r1_Same, trivial⟩) mixes Tryd.func5 (by kernel_rfl) (by kernel_rfl) ?_
  rintro A K ⟨l, x, o, u, s, h, hA, hl, hK⟩
  refine ⟨_, _, loops [(100006, L_N6 h s u), (100008, L_N8 s)], hA, hK, by kernel_rfl, trivial, ?_⟩
  have h32 : (32 : Nat) ≤ maxLen := by decide
  repeat ((conv => whnf); first | refine sdO ?_ | refine nlO ?_ | refine goA ?_ | refine goB ?_ | (apply Exists.intro; (repeat apply Exists.intro); refine caO ?_) | (refine Or.inl ?_; (conv => whnf); (repeat apply Exists.intro); refine caO ?_) | (refine Or.inr ?_; (conv => whnf); first | ((repeat apply Exists.intro); refine caO ?_) | (refine Or.inl ?_; (conv => whnf); (repeat apply Exists.intro); refine caO ?_) | (refine Or.inr ?_; (conv => whnf); (repeat apply Exists.intro); refine caO ?_)) | refine And.intro (by assumption) ?_ | refine goT ?_ | refine goF ?_ | refine goL ?_ | refine goR ?_ | refine goRL ?_ | refine goRR ?_)
  all_goals try (conv => whnf)
  refine Exists.intro (fun _ => True) (And.intro ?_ (fun (g : Nat × (Nat → BitVec 8)) (hg : g.1 ≤ maxLen) _ => ?_))
  · by_cases h1 : h % BitVec.ofInt 8 2 = BitVec.ofInt 8 1
    · rcases Decidable.em (rgt o.a o.t o.r) with hr | hr
      · skip
        repeat ((conv => whnf); first | refine sdO ?_ | refine nlO ?_ | refine goA ?_ | refine goB ?_ | (apply Exists.intro; (repeat apply Exists.intro); refine caO ?_) | (refine Or.inl ?_; (conv => whnf); (repeat apply Exists.intro); refine caO ?_) | (refine Or.inr ?_; (conv => whnf); first | ((repeat apply Exists.intro); refine caO ?_) | (refine Or.inl ?_; (conv => whnf); (repeat apply Exists.intro); refine caO ?_) | (refine Or.inr ?_; (conv => whnf); (repeat apply Exists.intro); refine caO ?_)) | refine And.intro (by assumption) ?_ | refine goT ?_ | refine goF ?_ | refine goL ?_ | refine goR ?_ | refine goRL ?_ | refine goRR ?_)
        all_goals try (conv => whnf)
        refine Enter.mk ((32, rcF o.q o.a o.t o.r) : Nat × (Nat → BitVec 8)) h32 trivial ?_
        ((repeat' ((conv => whnf) <;> first | exact trivial | (with_reducible first | refine And.intro ?_ ?_ | refine rows_lt1 ?_ | refine rows_lt2 ?_ ?_ | refine rows_lt3 ?_ ?_ ?_ | refine rows_lt4 ?_ ?_ ?_ ?_ | refine rows_lt5 ?_ ?_ ?_ ?_ ?_ | refine ints_lt1 ?_ | refine ints_lt2 ?_ ?_ | refine ints_lt3 ?_ ?_ ?_ | refine rows_lt7 ?_ ?_ ?_ ?_ ?_ ?_ ?_ | refine aggs_lt1 ?_ | refine aggs_lt2 ?_ ?_ | refine aggs_lt3 ?_ ?_ ?_ | refine fun (_ : Nat) => ?_) | refine fun (_ : (_ : Nat) < _) => ?_ | exact rfl | exact Nat.le_of_ble_eq_true rfl | (change (_ : Nat) ≤ _; omega) | (change (_ : Nat) = _; omega) | (change (_ : Int) = _; omega))); (all_goals try (conv => whnf)))
      · skip
        repeat ((conv => whnf); first | refine sdO ?_ | refine nlO ?_ | refine goA ?_ | refine goB ?_ | (apply Exists.intro; (repeat apply Exists.intro); refine caO ?_) | (refine Or.inl ?_; (conv => whnf); (repeat apply Exists.intro); refine caO ?_) | (refine Or.inr ?_; (conv => whnf); first | ((repeat apply Exists.intro); refine caO ?_) | (refine Or.inl ?_; (conv => whnf); (repeat apply Exists.intro); refine caO ?_) | (refine Or.inr ?_; (conv => whnf); (repeat apply Exists.intro); refine caO ?_)) | refine And.intro (by assumption) ?_ | refine goT ?_ | refine goF ?_ | refine goL ?_ | refine goR ?_ | refine goRL ?_ | refine goRR ?_)
        all_goals try (conv => whnf)
        refine Enter.mk ((0, fun _ => 0) : Nat × (Nat → BitVec 8)) (Nat.zero_le _) trivial ?_
        ((repeat' ((conv => whnf) <;> first | exact trivial | (with_reducible first | refine And.intro ?_ ?_ | refine rows_lt1 ?_ | refine rows_lt2 ?_ ?_ | refine rows_lt3 ?_ ?_ ?_ | refine rows_lt4 ?_ ?_ ?_ ?_ | refine rows_lt5 ?_ ?_ ?_ ?_ ?_ | refine ints_lt1 ?_ | refine ints_lt2 ?_ ?_ | refine ints_lt3 ?_ ?_ ?_ | refine rows_lt7 ?_ ?_ ?_ ?_ ?_ ?_ ?_ | refine aggs_lt1 ?_ | refine aggs_lt2 ?_ ?_ | refine aggs_lt3 ?_ ?_ ?_ | refine fun (_ : Nat) => ?_) | refine fun (_ : (_ : Nat) < _) => ?_ | exact rfl | exact Nat.le_of_ble_eq_true rfl | (change (_ : Nat) ≤ _; omega) | (change (_ : Nat) = _; omega) | (change (_ : Int) = _; omega))); (all_goals try (conv => whnf)))
    · skip
      repeat ((conv => whnf); first | refine sdO ?_ | refine nlO ?_ | refine goA ?_ | refine goB ?_ | (apply Exists.intro; (repeat apply Exists.intro); refine caO ?_) | (refine Or.inl ?_; (conv => whnf); (repeat apply Exists.intro); refine caO ?_) | (refine Or.inr ?_; (conv => whnf); first | ((repeat apply Exists.intro); refine caO ?_) | (refine Or.inl ?_; (conv => whnf); (repeat apply Exists.intro); refine caO ?_) | (refine Or.inr ?_; (conv => whnf); (repeat apply Exists.intro); refine caO ?_)) | refine And.intro (by assumption) ?_ | refine goT ?_ | refine goF ?_ | refine goL ?_ | refine goR ?_ | refine goRL ?_ | refine goRR ?_)
      all_goals try (conv => whnf)
      refine Enter.mk ((l, x) : Nat × (Nat → BitVec 8)) hl trivial ?_
      ((repeat' ((conv => whnf) <;> first | exact trivial | (with_reducible first | refine And.intro ?_ ?_ | refine rows_lt1 ?_ | refine rows_lt2 ?_ ?_ | refine rows_lt3 ?_ ?_ ?_ | refine rows_lt4 ?_ ?_ ?_ ?_ | refine rows_lt5 ?_ ?_ ?_ ?_ ?_ | refine ints_lt1 ?_ | refine ints_lt2 ?_ ?_ | refine ints_lt3 ?_ ?_ ?_ | refine rows_lt7 ?_ ?_ ?_ ?_ ?_ ?_ ?_ | refine aggs_lt1 ?_ | refine aggs_lt2 ?_ ?_ | refine aggs_lt3 ?_ ?_ ?_ | refine fun (_ : Nat) => ?_) | refine fun (_ : (_ : Nat) < _) => ?_ | exact rfl | exact Nat.le_of_ble_eq_true rfl | (change (_ : Nat) ≤ _; omega) | (change (_ : Nat) = _; omega) | (change (_ : Int) = _; omega))); (all_goals try (conv => whnf)))
  obtain ⟨l', x'⟩ := g
  have hg : l' ≤ maxLen := hg
  repeat ((conv => whnf); first | refine sdO ?_ | refine nlO ?_ | refine goA ?_ | refine goB ?_ | (apply Exists.intro; (repeat apply Exists.intro); refine caO ?_) | (refine Or.inl ?_; (conv => whnf); (repeat apply Exists.intro); refine caO ?_) | (refine Or.inr ?_; (conv => whnf); first | ((repeat apply Exists.intro); refine caO ?_) | (refine Or.inl ?_; (conv => whnf); (repeat apply Exists.intro); refine caO ?_) | (refine Or.inr ?_; (conv => whnf); (repeat apply Exists.intro); refine caO ?_)) | refine And.intro (by assumption) ?_ | refine goT ?_ | refine goF ?_ | refine goL ?_ | refine goR ?_ | refine goRL ?_ | refine goRR ?_)
  all_goals try (conv => whnf)
  refine Exists.intro (fun _ => True) (And.intro ?_ (fun (g : (Nat × (Nat → BitVec 8)) × (Nat × (Nat → BitVec 8))) (hg : g.1.1 ≤ maxLen ∧ g.2.1 ≤ maxLen) _ => ?_))
  · by_cases h1 : h / BitVec.ofInt 8 2 % BitVec.ofInt 8 2 = BitVec.ofInt 8 1
    · rcases Decidable.em (rgt u.a u.t u.r) with hr | hr
      · skip
        repeat ((conv => whnf); first | refine sdO ?_ | refine nlO ?_ | refine goA ?_ | refine goB ?_ | (apply Exists.intro; (repeat apply Exists.intro); refine caO ?_) | (refine Or.inl ?_; (conv => whnf); (repeat apply Exists.intro); refine caO ?_) | (refine Or.inr ?_; (conv => whnf); first | ((repeat apply Exists.intro); refine caO ?_) | (refine Or.inl ?_; (conv => whnf); (repeat apply Exists.intro); refine caO ?_) | (refine Or.inr ?_; (conv => whnf); (repeat apply Exists.intro); refine caO ?_)) | refine And.intro (by assumption) ?_ | refine goT ?_ | refine goF ?_ | refine goL ?_ | refine goR ?_ | refine goRL ?_ | refine goRR ?_)
        all_goals try (conv => whnf)
        refine Enter.mk (((l', x'), (32, rcF u.q u.a u.t u.r)) : (Nat × (Nat → BitVec 8)) × (Nat × (Nat → BitVec 8))) ⟨hg, h32⟩ trivial ?_
        ((repeat' ((conv => whnf) <;> first | exact trivial | (with_reducible first | refine And.intro ?_ ?_ | refine rows_lt1 ?_ | refine rows_lt2 ?_ ?_ | refine rows_lt3 ?_ ?_ ?_ | refine rows_lt4 ?_ ?_ ?_ ?_ | refine rows_lt5 ?_ ?_ ?_ ?_ ?_ | refine ints_lt1 ?_ | refine ints_lt2 ?_ ?_ | refine ints_lt3 ?_ ?_ ?_ | refine rows_lt7 ?_ ?_ ?_ ?_ ?_ ?_ ?_ | refine aggs_lt1 ?_ | refine aggs_lt2 ?_ ?_ | refine aggs_lt3 ?_ ?_ ?_ | refine fun (_ : Nat) => ?_) | refine fun (_ : (_ : Nat) < _) => ?_ | exact rfl | exact Nat.le_of_ble_eq_true rfl | (change (_ : Nat) ≤ _; omega) | (change (_ : Nat) = _; omega) | (change (_ : Int) = _; omega))); (all_goals try (conv => whnf)))
      · skip
        repeat ((conv => whnf); first | refine sdO ?_ | refine nlO ?_ | refine goA ?_ | refine goB ?_ | (apply Exists.intro; (repeat apply Exists.intro); refine caO ?_) | (refine Or.inl ?_; (conv => whnf); (repeat apply Exists.intro); refine caO ?_) | (refine Or.inr ?_; (conv => whnf); first | ((repeat apply Exists.intro); refine caO ?_) | (refine Or.inl ?_; (conv => whnf); (repeat apply Exists.intro); refine caO ?_) | (refine Or.inr ?_; (conv => whnf); (repeat apply Exists.intro); refine caO ?_)) | refine And.intro (by assumption) ?_ | refine goT ?_ | refine goF ?_ | refine goL ?_ | refine goR ?_ | refine goRL ?_ | refine goRR ?_)
        all_goals try (conv => whnf)
        refine Enter.mk (((l', x'), (0, fun _ => 0)) : (Nat × (Nat → BitVec 8)) × (Nat × (Nat → BitVec 8))) ⟨hg, Nat.zero_le _⟩ trivial ?_
        ((repeat' ((conv => whnf) <;> first | exact trivial | (with_reducible first | refine And.intro ?_ ?_ | refine rows_lt1 ?_ | refine rows_lt2 ?_ ?_ | refine rows_lt3 ?_ ?_ ?_ | refine rows_lt4 ?_ ?_ ?_ ?_ | refine rows_lt5 ?_ ?_ ?_ ?_ ?_ | refine ints_lt1 ?_ | refine ints_lt2 ?_ ?_ | refine ints_lt3 ?_ ?_ ?_ | refine rows_lt7 ?_ ?_ ?_ ?_ ?_ ?_ ?_ | refine aggs_lt1 ?_ | refine aggs_lt2 ?_ ?_ | refine aggs_lt3 ?_ ?_ ?_ | refine fun (_ : Nat) => ?_) | refine fun (_ : (_ : Nat) < _) => ?_ | exact rfl | exact Nat.le_of_ble_eq_true rfl | (change (_ : Nat) ≤ _; omega) | (change (_ : Nat) = _; omega) | (change (_ : Int) = _; omega))); (all_goals try (conv => whnf)))
    · skip
      repeat ((conv => whnf); first | refine sdO ?_ | refine nlO ?_ | refine goA ?_ | refine goB ?_ | (apply Exists.intro; (repeat apply Exists.intro); refine caO ?_) | (refine Or.inl ?_; (conv => whnf); (repeat apply Exists.intro); refine caO ?_) | (refine Or.inr ?_; (conv => whnf); first | ((repeat apply Exists.intro); refine caO ?_) | (refine Or.inl ?_; (conv => whnf); (repeat apply Exists.intro); refine caO ?_) | (refine Or.inr ?_; (conv => whnf); (repeat apply Exists.intro); refine caO ?_)) | refine And.intro (by assumption) ?_ | refine goT ?_ | refine goF ?_ | refine goL ?_ | refine goR ?_ | refine goRL ?_ | refine goRR ?_)
      all_goals try (conv => whnf)
      refine Enter.mk (((l', x'), (0, fun _ => 0)) : (Nat × (Nat → BitVec 8)) × (Nat × (Nat → BitVec 8))) ⟨hg, Nat.zero_le _⟩ trivial ?_
      ((repeat' ((conv => whnf) <;> first | exact trivial | (with_reducible first | refine And.intro ?_ ?_ | refine rows_lt1 ?_ | refine rows_lt2 ?_ ?_ | refine rows_lt3 ?_ ?_ ?_ | refine rows_lt4 ?_ ?_ ?_ ?_ | refine rows_lt5 ?_ ?_ ?_ ?_ ?_ | refine ints_lt1 ?_ | refine ints_lt2 ?_ ?_ | refine ints_lt3 ?_ ?_ ?_ | refine rows_lt7 ?_ ?_ ?_ ?_ ?_ ?_ ?_ | refine aggs_lt1 ?_ | refine aggs_lt2 ?_ ?_ | refine aggs_lt3 ?_ ?_ ?_ | refine fun (_ : Nat) => ?_) | refine fun (_ : (_ : Nat) < _) => ?_ | exact rfl | exact Nat.le_of_ble_eq_true rfl | (change (_ : Nat) ≤ _; omega) | (change (_ : Nat) = _; omega) | (change (_ : Int) = _; omega))); (all_goals try (conv => whnf)))
  obtain ⟨⟨a, p⟩, ⟨b, q⟩⟩ := g
  obtain ⟨ha, hb⟩ := hg
  have ha : a ≤ maxLen := ha
  have hb : b ≤ maxLen := hb
  obtain ⟨M, hM⟩ : ∃ M, M = lyM a p b q := ⟨_, rfl⟩
  have hz0 : (fun x => lyM a p b q (0 + x)) = M := by rw [hM]; exact funext fun x => congrArg _ (Nat.zero_add x)
  rcases Decidable.em (rgt s.a s.t s.r) with hr | hr
  · rcases Decidable.em ((rdN M 2).1.q = qL) with hq | hq
    · have hq0 : (rdN (fun x => lyM a p b q (0 + x)) 2).1.q = qL := by rw [hz0]; exact hq
      have hq' : ¬ rgt s.a s.t s.r ∨ (rdN (fun x => lyM a p b q (0 + x)) 2).1.q = qL := Or.inr hq0
      repeat ((conv => whnf); first | refine sdO ?_ | refine nlO ?_ | refine goA ?_ | refine goB ?_ | (apply Exists.intro; (repeat apply Exists.intro); refine caO ?_) | (refine Or.inl ?_; (conv => whnf); (repeat apply Exists.intro); refine caO ?_) | (refine Or.inr ?_; (conv => whnf); first | ((repeat apply Exists.intro); refine caO ?_) | (refine Or.inl ?_; (conv => whnf); (repeat apply Exists.intro); refine caO ?_) | (refine Or.inr ?_; (conv => whnf); (repeat apply Exists.intro); refine caO ?_)) | refine And.intro (by assumption) ?_ | refine goT ?_ | refine goF ?_ | refine goL ?_ | refine goR ?_ | refine goRL ?_ | refine goRR ?_)
      all_goals try (conv => whnf)
      exact decide_eq_true rfl
    · have hq0 : ¬ (rdN (fun x => lyM a p b q (0 + x)) 2).1.q = qL := by rw [hz0]; exact hq
      have hq' : rgt s.a s.t s.r ∧ ¬ (rdN (fun x => lyM a p b q (0 + x)) 2).1.q = qL := ⟨hr, hq0⟩
      repeat ((conv => whnf); first | refine sdO ?_ | refine nlO ?_ | refine goA ?_ | refine goB ?_ | (apply Exists.intro; (repeat apply Exists.intro); refine caO ?_) | (refine Or.inl ?_; (conv => whnf); (repeat apply Exists.intro); refine caO ?_) | (refine Or.inr ?_; (conv => whnf); first | ((repeat apply Exists.intro); refine caO ?_) | (refine Or.inl ?_; (conv => whnf); (repeat apply Exists.intro); refine caO ?_) | (refine Or.inr ?_; (conv => whnf); (repeat apply Exists.intro); refine caO ?_)) | refine And.intro (by assumption) ?_ | refine goT ?_ | refine goF ?_ | refine goL ?_ | refine goR ?_ | refine goRL ?_ | refine goRR ?_)
      all_goals try (conv => whnf)
      rw [hz0]
      refine ⟨2, nxK, fun _ => nxP M, nxL, nxB (rcF ((rdN M 2).1.q + BitVec.ofInt 32 1) s.a s.t s.r), M, ?_, by decide, nxo_ok _ (by rcases nxP_in M with e | e <;> rw [e] <;> decide) _, ?_⟩
      · ((repeat' ((conv => whnf) <;> first | exact trivial | (with_reducible first | refine And.intro ?_ ?_ | refine rows_lt1 ?_ | refine rows_lt2 ?_ ?_ | refine rows_lt3 ?_ ?_ ?_ | refine rows_lt4 ?_ ?_ ?_ ?_ | refine rows_lt5 ?_ ?_ ?_ ?_ ?_ | refine ints_lt1 ?_ | refine ints_lt2 ?_ ?_ | refine ints_lt3 ?_ ?_ ?_ | refine rows_lt7 ?_ ?_ ?_ ?_ ?_ ?_ ?_ | refine aggs_lt1 ?_ | refine aggs_lt2 ?_ ?_ | refine aggs_lt3 ?_ ?_ ?_ | refine fun (_ : Nat) => ?_) | refine fun (_ : (_ : Nat) < _) => ?_ | exact rfl | exact Nat.le_of_ble_eq_true rfl | (change (_ : Nat) ≤ _; omega) | (change (_ : Nat) = _; omega) | (change (_ : Int) = _; omega))); (all_goals try (conv => whnf)))
        all_goals first | exact congrFun hM.symm _ | (rename_i x hx; rcases x with _ | _ | x <;> first | (exfalso; omega) | ((repeat' ((conv => whnf) <;> first | exact trivial | (with_reducible first | refine And.intro ?_ ?_ | refine rows_lt1 ?_ | refine rows_lt2 ?_ ?_ | refine rows_lt3 ?_ ?_ ?_ | refine rows_lt4 ?_ ?_ ?_ ?_ | refine rows_lt5 ?_ ?_ ?_ ?_ ?_ | refine ints_lt1 ?_ | refine ints_lt2 ?_ ?_ | refine ints_lt3 ?_ ?_ ?_ | refine rows_lt7 ?_ ?_ ?_ ?_ ?_ ?_ ?_ | refine aggs_lt1 ?_ | refine aggs_lt2 ?_ ?_ | refine aggs_lt3 ?_ ?_ ?_ | refine fun (_ : Nat) => ?_) | refine fun (_ : (_ : Nat) < _) => ?_ | exact rfl | exact Nat.le_of_ble_eq_true rfl | (change (_ : Nat) ≤ _; omega) | (change (_ : Nat) = _; omega) | (change (_ : Int) = _; omega))); (all_goals try (conv => whnf))))
        all_goals first | exact congrFun hM.symm _ | rfl
      have hrd := nx_read hr hq
      have hsm := nx_same M (rcF ((rdN M 2).1.q + BitVec.ofInt 32 1) s.a s.t s.r)
      have hot := fun p (hp : (nxP M).toNat + p = 65) => nx_oth (M := M) (rcF ((rdN M 2).1.q + BitVec.ofInt 32 1) s.a s.t s.r) hp
      obtain ⟨N, hN⟩ : ∃ N, N = nxM M (nxP M) (rcF ((rdN M 2).1.q + BitVec.ofInt 32 1) s.a s.t s.r) 2 := ⟨_, rfl⟩
      have hN' : doM nxK (fun _ => nxP M) nxL (nxB (rcF ((rdN M 2).1.q + BitVec.ofInt 32 1) s.a s.t s.r)) M 2 = N := by rw [hN]; unfold nxM; rfl
      rw [hN']
      rw [← hN] at hrd hsm hot
      have hzN : (fun x => N (0 + x)) = N := funext fun x => congrArg _ (Nat.zero_add x)
      have hzM : (fun x => M (0 + x)) = M := funext fun x => congrArg _ (Nat.zero_add x)
      have s1 : (lw 8192 fun x => M (0 + x)) = lw 8192 fun x => N (0 + (0 + x)) := lw_eq.2 fun j hj => by
        rw [Nat.zero_add, Nat.zero_add]
        exact (hsm j (Or.inl hj)).symm
      have s2 : (lw (10240 - 8704) fun x => M (8704 + x)) = lw (10240 - 8704) fun x => N (0 + (8704 + x)) := lw_eq.2 fun j hj => by
        rw [Nat.zero_add]
        exact (hsm (8704 + j) (Or.inr (by omega))).symm
      have hc : (rdN (fun x => N (0 + x)) 2).1 = ⟨(rdN M 2).1.q + BitVec.ofInt 32 1, s.a, s.t, s.r⟩ := by rw [hzN, hrd]
      by_cases hp : (rdN M 2).2 = 32
      · have ep : nxP M = 33 := by unfold nxP; exact if_pos hp
        have s3 : (lw 256 fun x => M (8192 + x)) = lw 256 fun x => N (0 + (8192 + x)) := lw_eq.2 fun j hj => by
          rw [Nat.zero_add]
          exact (hot 32 (by rw [ep]; rfl) j hj).symm
        have e2 : (rdN (fun x => N (0 + x)) 2).2 = 33 := by rw [hzN, hrd, ep]
        repeat ((conv => whnf); first | refine sdO ?_ | refine nlO ?_ | refine goA ?_ | refine goB ?_ | (apply Exists.intro; (repeat apply Exists.intro); refine caO ?_) | (refine Or.inl ?_; (conv => whnf); (repeat apply Exists.intro); refine caO ?_) | (refine Or.inr ?_; (conv => whnf); first | ((repeat apply Exists.intro); refine caO ?_) | (refine Or.inl ?_; (conv => whnf); (repeat apply Exists.intro); refine caO ?_) | (refine Or.inr ?_; (conv => whnf); (repeat apply Exists.intro); refine caO ?_)) | refine And.intro (by assumption) ?_ | refine goT ?_ | refine goF ?_ | refine goL ?_ | refine goR ?_ | refine goRL ?_ | refine goRR ?_)
        all_goals try (conv => whnf)
        refine And.intro (fun _ => ?_) (bad (eqB_agg fun i hi => ?_))
        · skip
          repeat ((conv => whnf); first | refine sdO ?_ | refine nlO ?_ | refine goA ?_ | refine goB ?_ | (apply Exists.intro; (repeat apply Exists.intro); refine caO ?_) | (refine Or.inl ?_; (conv => whnf); (repeat apply Exists.intro); refine caO ?_) | (refine Or.inr ?_; (conv => whnf); first | ((repeat apply Exists.intro); refine caO ?_) | (refine Or.inl ?_; (conv => whnf); (repeat apply Exists.intro); refine caO ?_) | (refine Or.inr ?_; (conv => whnf); (repeat apply Exists.intro); refine caO ?_)) | refine And.intro (by assumption) ?_ | refine goT ?_ | refine goF ?_ | refine goL ?_ | refine goR ?_ | refine goRL ?_ | refine goRR ?_)
          all_goals try (conv => whnf)
          exact decide_eq_true s3
        · rcases i with _ | _ | _ | _ | i
          · exact congrArg JS.q hc
          · show (rdN (fun x => N (0 + x)) 2).1.a = s.a
            rw [hc]
          · show (rdN (fun x => N (0 + x)) 2).1.t = s.t
            rw [hc]
          · show (rdN (fun x => N (0 + x)) 2).1.r = s.r
            rw [hc]
          · exfalso; omega
      · have ep : nxP M = 32 := by unfold nxP; exact if_neg hp
        have s3 : (lw 256 fun x => M (8448 + x)) = lw 256 fun x => N (0 + (8448 + x)) := lw_eq.2 fun j hj => by
          rw [Nat.zero_add]
          exact (hot 33 (by rw [ep]; rfl) j hj).symm
        have e2 : (rdN (fun x => N (0 + x)) 2).2 = 32 := by rw [hzN, hrd, ep]
        repeat ((conv => whnf); first | refine sdO ?_ | refine nlO ?_ | refine goA ?_ | refine goB ?_ | (apply Exists.intro; (repeat apply Exists.intro); refine caO ?_) | (refine Or.inl ?_; (conv => whnf); (repeat apply Exists.intro); refine caO ?_) | (refine Or.inr ?_; (conv => whnf); first | ((repeat apply Exists.intro); refine caO ?_) | (refine Or.inl ?_; (conv => whnf); (repeat apply Exists.intro); refine caO ?_) | (refine Or.inr ?_; (conv => whnf); (repeat apply Exists.intro); refine caO ?_)) | refine And.intro (by assumption) ?_ | refine goT ?_ | refine goF ?_ | refine goL ?_ | refine goR ?_ | refine goRL ?_ | refine goRR ?_)
        all_goals try (conv => whnf)
        refine And.intro (fun _ => ?_) (bad (eqB_agg fun i hi => ?_))
        · skip
          repeat ((conv => whnf); first | refine sdO ?_ | refine nlO ?_ | refine goA ?_ | refine goB ?_ | (apply Exists.intro; (repeat apply Exists.intro); refine caO ?_) | (refine Or.inl ?_; (conv => whnf); (repeat apply Exists.intro); refine caO ?_) | (refine Or.inr ?_; (conv => whnf); first | ((repeat apply Exists.intro); refine caO ?_) | (refine Or.inl ?_; (conv => whnf); (repeat apply Exists.intro); refine caO ?_) | (refine Or.inr ?_; (conv => whnf); (repeat apply Exists.intro); refine caO ?_)) | refine And.intro (by assumption) ?_ | refine goT ?_ | refine goF ?_ | refine goL ?_ | refine goR ?_ | refine goRL ?_ | refine goRR ?_)
          all_goals try (conv => whnf)
          exact decide_eq_true s3
        · rcases i with _ | _ | _ | _ | i
          · exact congrArg JS.q hc
          · show (rdN (fun x => N (0 + x)) 2).1.a = s.a
            rw [hc]
          · show (rdN (fun x => N (0 + x)) 2).1.t = s.t
            rw [hc]
          · show (rdN (fun x => N (0 + x)) 2).1.r = s.r
            rw [hc]
          · exfalso; omega
  · have hq' : ¬ rgt s.a s.t s.r ∨ (rdN (fun x => lyM a p b q (0 + x)) 2).1.q = qL := Or.inl hr
    repeat ((conv => whnf); first | refine sdO ?_ | refine nlO ?_ | refine goA ?_ | refine goB ?_ | (apply Exists.intro; (repeat apply Exists.intro); refine caO ?_) | (refine Or.inl ?_; (conv => whnf); (repeat apply Exists.intro); refine caO ?_) | (refine Or.inr ?_; (conv => whnf); first | ((repeat apply Exists.intro); refine caO ?_) | (refine Or.inl ?_; (conv => whnf); (repeat apply Exists.intro); refine caO ?_) | (refine Or.inr ?_; (conv => whnf); (repeat apply Exists.intro); refine caO ?_)) | refine And.intro (by assumption) ?_ | refine goT ?_ | refine goF ?_ | refine goL ?_ | refine goR ?_ | refine goRL ?_ | refine goRR ?_)
    all_goals try (conv => whnf)
    exact decide_eq_true rfl
end Go.Proofs.YtldlleoabbcpdaaDoor
