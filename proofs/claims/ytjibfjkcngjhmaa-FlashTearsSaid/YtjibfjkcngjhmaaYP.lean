/- Flash: a page that is torn. -/
import Derived.Test.YtjibfjkcngjhmaaYO
namespace Go.Proofs.Ytjibfjkcngjhmaa
open Go.RowKit
set_option maxRecDepth 100000
set_option maxHeartbeats 20000000
abbrev bss (M : Nat) (L : Nat → Nat) (B : Nat → Nat → BitVec 8) : AV := .imm false (.sl 5) M fun i => bsl (L i) (B i)
def F3 (m : Nat → BitVec 8) : Prop := (∀ j, j < 3 → m j = BitVec.ofNat 8 (j + 1)) ∧ ∀ j, 512 ≤ j → j < 768 → m j = 255
structure TearA where
  lq : Nat
  q : Nat → BitVec 8
  a : BitVec 8
  M : Nat
  L : Nat → Nat
  B : Nat → Nat → BitVec 8
  e : Bool
def L_FT_a (X : TearA) : LI := ⟨Nat → BitVec 8, F3, fun _ => [(1, bsl X.lq X.q), (2, .u8 X.a), (3, bss X.M X.L X.B), (4, .bo X.e), (11, .ptr TFl 2056 [])], fun m => flR 2056 2057 3 m, fun _ => 0, some, some⟩
def TearA.lc (X : TearA) : Nat := min X.lq (256 - (X.a.toNat : Int)).toNat
abbrev pg1 (m : Nat → BitVec 8) : Nat → BitVec 8 := fun j => m (256 + j)
def qF (m : Nat → BitVec 8) (X : TearA) (k j : Nat) : BitVec 8 := if j < k then X.q j &&& m (256 + (X.a.toNat + j)) else X.q j
theorem qF_zero (m : Nat → BitVec 8) (X : TearA) (j : Nat) : X.q j = qF m X 0 j := by unfold qF; rw [if_neg (by omega)]
theorem qF_step (m : Nat → BitVec 8) (X : TearA) (k j : Nat) : (if j = k then qF m X k k &&& m (256 + (X.a.toNat + k)) else qF m X k j) = qF m X (k + 1) j := by
  unfold qF
  by_cases e : j = k
  · subst e
    rw [if_pos rfl, if_neg (by omega), if_pos (by omega)]
  · rw [if_neg e]
    by_cases h : j < k
    · rw [if_pos h, if_pos (by omega)]
    · rw [if_neg h, if_neg (by omega)]
theorem qF_ok (m : Nat → BitVec 8) (X : TearA) (n : Nat) : ∀ x, x < n → ¬ badB (pgF m 1) X.a.toNat (qF m X n) x := fun x hx h => h (by
  show qF m X n x &&& ~~~ m (1 * 256 + (X.a.toNat + x)) = 0
  unfold qF
  rw [if_pos hx, Nat.one_mul]
  apply BitVec.eq_of_getLsbD_eq
  intro i hi
  rw [BitVec.getLsbD_and, BitVec.getLsbD_and, BitVec.getLsbD_not]
  cases (m (256 + (X.a.toNat + x))).getLsbD i <;> simp)
attribute [irreducible] qF TearA.lc
theorem lc_eq (X : TearA) : min X.lq (256 - (X.a.toNat : Int)).toNat = X.lc := by unfold TearA.lc; rfl
theorem lc_le (X : TearA) : X.lc + X.a.toNat ≤ 256 := by
  have := X.a.isLt
  rw [← lc_eq]; omega
def L_FT_q (X : TearA) (m : Nat → BitVec 8) : LI := ⟨(Nat → BitVec 8) × Nat, fun g => g.2 ≤ X.lc ∧ F3 g.1, fun g => [(1, .gsl 5 3114 X.lc), (2, .u8 X.a), (3, bss X.M X.L X.B), (4, .bo X.e), (11, .ptr TFl 2056 []), (13, .gsl 5 2074 256), (45, .gsl 5 3114 X.lc), (46, .nat X.lc), (47, .nat g.2)],
  fun g => flR 2056 2057 3 g.1 ++ [(2074, .grow 5 256 (bys (pg1 g.1))), (3114, .grow 5 X.lc (bys (qF g.1 X g.2)))], fun g => X.lc - g.2, some, some⟩
structure FTc where
  m : Nat → BitVec 8
  n : Nat
  q : Nat → BitVec 8
def L_FT_c (X : TearA) : LI := ⟨FTc, fun g => F3 g.m ∧ g.n + X.a.toNat ≤ 256 ∧ ∀ x, x < g.n → ¬ badB (pgF g.m 1) X.a.toNat g.q x, fun g => [(1, .gsl 5 3114 g.n), (2, .u8 X.a), (3, bss X.M X.L X.B), (11, .ptr TFl 2056 []), (13, .gsl 5 2074 256)],
  fun g => flR 2056 2057 3 g.m ++ [(2074, .grow 5 256 (bys (pg1 g.m))), (3114, .grow 5 g.n (bys g.q))], fun _ => 0, some, some⟩
def L_FT_b (X : TearA) : LI := ⟨(Nat → BitVec 8) × (Nat → BitVec 8), fun g => F3 g.1, fun _ => [(3, bss X.M X.L X.B), (11, .ptr TFl 2056 []), (13, .gsl 5 2074 256), (15, .gsub 5 3147 256 0 256), (16, .nat 0)],
  fun g => flR 2056 2057 3 g.1 ++ [(2074, .grow 5 256 (bys (pg1 g.1))), (3147, .grow 5 256 (bys g.2))], fun _ => 0, some, some⟩
structure FTd where
  k : Nat
  m : Nat → BitVec 8
  w : Nat → BitVec 8
def L_FT_d (X : TearA) : LI := ⟨FTd, fun g => g.k ≤ X.M ∧ F3 g.m, fun g => [(11, .ptr TFl 2056 []), (15, .gsub 5 3147 256 0 256), (17, .gsl 5 2074 256), (81, bss X.M X.L X.B), (82, .nat X.M), (83, .nat g.k)],
  fun g => flR 2056 2057 3 g.m ++ [(2074, .grow 5 256 (bys (pg1 g.m))), (3147, .grow 5 256 (bys g.w))], fun g => X.M - g.k, some, some⟩
structure FTe where
  k : Nat
  m : Nat → BitVec 8
  w : Nat → BitVec 8
  o : Nat → BitVec 8
  j : Nat
def betw (m o w : Nat → BitVec 8) : Prop := ∀ x, x < 256 → (pg1 m x ^^^ pg1 o x) &&& (pg1 m x ^^^ w x) = BitVec.ofInt 8 0
def L_FT_e (X : TearA) : LI := ⟨FTe, fun g => g.k < X.M ∧ F3 g.m ∧ betw g.m g.o g.w ∧ g.j ≤ 256, fun g => [(11, .ptr TFl 2056 []), (15, .gsub 5 3147 256 0 256), (17, .gsl 5 2074 256), (20, .gsl 5 7260 256), (81, bss X.M X.L X.B), (82, .nat X.M), (83, .nat g.k), (99, .gsl 5 7260 256), (100, .nat 256), (101, .nat g.j)],
  fun g => flR 2056 2057 3 g.m ++ [(2074, .grow 5 256 (bys (pg1 g.o))), (7260, .grow 5 256 (bys (pg1 g.m))), (3147, .grow 5 256 (bys g.w))], fun g => 256 - g.j, some, some⟩
def L_FT_z : LI := ⟨(Nat → BitVec 8) × (Nat → BitVec 8), fun g => F3 g.1, fun _ => [(11, .ptr TFl 2056 []), (15, .gsub 5 3147 256 0 256)],
  fun g => flR 2056 2057 3 g.1 ++ [(3147, .grow 5 256 (bys g.2))], fun _ => 0, some, some⟩
theorem F3_tear {m : Nat → BitVec 8} (h : F3 m) (c : Nat) (hc : c ≤ 256) (w k : Nat → BitVec 8) : F3 (tearF m 256 c w k) := by
  constructor
  · intro j hj
    rw [tearF_out _ _ _ _ _ _ (.inl (by omega))]; exact h.1 j hj
  · intro j h1 h2
    rw [tearF_out _ _ _ _ _ _ (.inr (by omega))]; exact h.2 j h1 h2
theorem betw_tear (m : Nat → BitVec 8) (c : Nat) (w k : Nat → BitVec 8) : betw (tearF m 256 c w k) m w := by
  intro x hx
  show (tearF m 256 c w k (256 + x) ^^^ m (256 + x)) &&& (tearF m 256 c w k (256 + x) ^^^ w x) = 0
  by_cases h : x < c
  · rw [tearF_in _ _ _ _ _ _ h]
    apply BitVec.eq_of_getLsbD_eq
    intro i hi
    simp only [BitVec.getLsbD_and, BitVec.getLsbD_or, BitVec.getLsbD_xor, BitVec.getLsbD_not]
    cases (m (256 + x)).getLsbD i <;> cases (w x).getLsbD i <;> cases (k x).getLsbD i <;> simp [hi]
  · rw [tearF_out _ _ _ _ _ _ (.inr (by omega))]
    simp
def mK (X : TearA) (k : Nat) (m w : Nat → BitVec 8) : Nat → BitVec 8 := tearF m 256 (min 256 (min (X.L k) 300)) w (X.B k)
theorem mK_eq (X : TearA) (k : Nat) (m w : Nat → BitVec 8) : tearF m 256 (min 256 (min (X.L k) 300)) (fun x => w (0 + x)) (X.B k) = mK X k m w := by unfold mK; rw [z_add]
theorem mK_F3 (X : TearA) (k : Nat) {m : Nat → BitVec 8} (w : Nat → BitVec 8) (h : F3 m) : F3 (mK X k m w) := F3_tear h _ (by omega) _ _
theorem mK_betw (X : TearA) (k : Nat) (m w : Nat → BitVec 8) : betw (mK X k m w) m w := betw_tear _ _ _ _
def mZ (m w : Nat → BitVec 8) : Nat → BitVec 8 := tearF m 256 256 w fun _ => 255
theorem mZ_eq (m w : Nat → BitVec 8) : tearF m 256 256 (fun x => w (0 + x)) (fun _ => 255) = mZ m w := by unfold mZ; rw [z_add]
theorem mZ_F3 {m : Nat → BitVec 8} (w : Nat → BitVec 8) (h : F3 m) : F3 (mZ m w) := F3_tear h _ (by omega) _ _
theorem mZ_pg (m w : Nat → BitVec 8) (x : Nat) (hx : x < 256) : mZ m w (256 + x) = w x := by
  unfold mZ
  rw [tearF_in _ _ _ _ _ _ hx]
  apply BitVec.eq_of_getLsbD_eq
  intro i hi
  have h1 : (255 : BitVec 8).getLsbD i = true := by
    have : ∀ i, i < 8 → (255 : BitVec 8).getLsbD i = true := by decide
    exact this i hi
  simp only [BitVec.getLsbD_and, BitVec.getLsbD_or, BitVec.getLsbD_not, h1]
  simp
attribute [irreducible] mK mZ
def tm0 (lp : Nat) (p : Nat → BitVec 8) : Nat → BitVec 8 := tearF (fun _ => 255) 256 (min (min 256 (min lp 256)) 256) p fun _ => 255
theorem tm0_ok (lp : Nat) (p v : Nat → BitVec 8) : ∀ i, i < 3 → ¬ badB (tm0 lp p) 0 v i := fun i hi h => h (by
  show v i &&& ~~~ tm0 lp p (0 + i) = 0
  unfold tm0
  rw [tearF_out _ _ _ _ _ _ (.inl (by omega))]
  simp)
theorem tm0_F3 (lp : Nat) (p : Nat → BitVec 8) : F3 (setF (tm0 lp p) 0 3 fun j => BitVec.ofNat 8 (j + 1)) := by
  constructor
  · intro j hj
    unfold setF; rw [if_pos (by omega), Nat.sub_zero]
  · intro j h1 h2
    unfold setF; rw [if_neg (by omega)]
    unfold tm0
    rw [tearF_out _ _ _ _ _ _ (.inr (by omega))]
theorem setF_congr {m : Nat → BitVec 8} {o q : Nat} {v v' : Nat → BitVec 8} (h : ∀ j, j < q → v j = v' j) (x : Nat) : setF m o q v x = setF m o q v' x := by
  unfold setF
  by_cases e : o ≤ x ∧ x < o + q
  · rw [if_pos e, if_pos e, h _ (by omega)]
  · rw [if_neg e, if_neg e]
def C_l12_FlashTears : SpecP := fun A K => ∃ (lp : Nat) (p : Nat → BitVec 8) (X : TearA), A [bsl lp p, bsl X.lq X.q, .u8 X.a, bss X.M X.L X.B, .bo X.e] ∧ lp ≤ maxLen ∧ X.lq ≤ maxLen ∧ X.M ≤ maxLen ∧ (∀ k, k < X.M → X.L k ≤ maxLen) ∧ K (.bo true)
theorem g_l12_FlashTears : Gd 4 (pureP ty C_l12_FlashTears) := by
  refine goodP (E := PG [(8, pureP ty C_l12_awake), (9, pureR ty C_fl_New), (17, pureR ty C_r1_CutY), (10, pureR ty C_r12_New), (16, mutD ty [true, false, false, false] C_fl_TearK), (18, mutD ty [true, false, false] C_fl_WriteK), (19, pureR ty C_fl_Page1), (20, orC (pureR ty C_fl_After0) (pureR ty C_fl_After)), (15, pureP ty C_same_eq), (21, pureP ty C_fl_Blank)]) (pgOK ⟨g_l12_awake, g_fl_New, g_r1_CutY, g_r12_New, g_fl_TearK, g_fl_WriteK, g_fl_Page1, (good_or g_fl_After0 g_fl_After), g_same_eq, g_fl_Blank, trivial⟩) mixes Try.func4 (by kernel_rfl) (by kernel_rfl) ?_
  rintro A K ⟨lp, p, X, hA, hlp, hlq, hM, hL, hK⟩
  have hM' : X.M ≤ 9223372036854775807 := hM
  have hlp' : lp ≤ 9223372036854775807 := hlp
  have hq' : X.lq ≤ 9223372036854775807 := hlq
  refine ⟨_, _, loops [(100006, L_FT_a X), (9, L_FT_q X fun _ => 0), (100015, L_FT_c X), (100016, L_FT_b X), (20, L_FT_d X), (27, L_FT_e X), (100034, L_FT_z)], hA, hK, by kernel_rfl, trivial, ?_⟩
  repeat (first | ((conv => whnf); refine And.intro ?_ ?_; exact sideOf) | ((conv => whnf); refine NilE.some ?_ ?_; exact sideOf) | ((conv => whnf); refine And.intro (fun _ => ?_) (fun h => nomatch (show true = false from h))) | ((conv => whnf); refine And.intro (fun h => nomatch (show false = true from h)) (fun _ => ?_)) | ((conv => whnf); first | (apply Exists.intro; (repeat apply Exists.intro); refine And.intro ?_ ?_; exact leOf) | (refine Or.inl ?_; (conv => whnf); (repeat apply Exists.intro); refine And.intro ?_ ?_; exact leOf) | (refine Or.inr ?_; (conv => whnf); first | ((repeat apply Exists.intro); refine And.intro ?_ ?_; exact leOf) | (refine Or.inl ?_; (conv => whnf); (repeat apply Exists.intro); refine And.intro ?_ ?_; exact leOf) | (refine Or.inr ?_; (conv => whnf); (repeat apply Exists.intro); refine And.intro ?_ ?_; exact leOf))) | ((conv => whnf); first | refine And.intro (by assumption) ?_ | refine goT ?_ | refine goF ?_ | refine goL ?_ | refine goR ?_ | refine goRL ?_ | refine goRR ?_))
  all_goals try (conv => whnf)
  refine Exists.intro (fun _ => True) (And.intro ?_ (fun (m : Nat → BitVec 8) (hm : F3 m) _ => ?_))
  · skip
    repeat (first | ((conv => whnf); refine And.intro ?_ ?_; exact sideOf) | ((conv => whnf); refine NilE.some ?_ ?_; exact sideOf) | ((conv => whnf); refine And.intro (fun _ => ?_) (fun h => nomatch (show true = false from h))) | ((conv => whnf); refine And.intro (fun h => nomatch (show false = true from h)) (fun _ => ?_)) | ((conv => whnf); first | (apply Exists.intro; (repeat apply Exists.intro); refine And.intro ?_ ?_; exact leOf) | (refine Or.inl ?_; (conv => whnf); (repeat apply Exists.intro); refine And.intro ?_ ?_; exact leOf) | (refine Or.inr ?_; (conv => whnf); first | ((repeat apply Exists.intro); refine And.intro ?_ ?_; exact leOf) | (refine Or.inl ?_; (conv => whnf); (repeat apply Exists.intro); refine And.intro ?_ ?_; exact leOf) | (refine Or.inr ?_; (conv => whnf); (repeat apply Exists.intro); refine And.intro ?_ ?_; exact leOf))) | ((conv => whnf); first | refine And.intro (by assumption) ?_ | refine goT ?_ | refine goF ?_ | refine goL ?_ | refine goR ?_ | refine goRL ?_ | refine goRR ?_))
    all_goals try (conv => whnf)
    refine And.intro (tm0_ok lp p _) ?_
    repeat (first | ((conv => whnf); refine And.intro ?_ ?_; exact sideOf) | ((conv => whnf); refine NilE.some ?_ ?_; exact sideOf) | ((conv => whnf); refine And.intro (fun _ => ?_) (fun h => nomatch (show true = false from h))) | ((conv => whnf); refine And.intro (fun h => nomatch (show false = true from h)) (fun _ => ?_)) | ((conv => whnf); first | (apply Exists.intro; (repeat apply Exists.intro); refine And.intro ?_ ?_; exact leOf) | (refine Or.inl ?_; (conv => whnf); (repeat apply Exists.intro); refine And.intro ?_ ?_; exact leOf) | (refine Or.inr ?_; (conv => whnf); first | ((repeat apply Exists.intro); refine And.intro ?_ ?_; exact leOf) | (refine Or.inl ?_; (conv => whnf); (repeat apply Exists.intro); refine And.intro ?_ ?_; exact leOf) | (refine Or.inr ?_; (conv => whnf); (repeat apply Exists.intro); refine And.intro ?_ ?_; exact leOf))) | ((conv => whnf); first | refine And.intro (by assumption) ?_ | refine goT ?_ | refine goF ?_ | refine goL ?_ | refine goR ?_ | refine goRL ?_ | refine goRR ?_))
    all_goals try (conv => whnf)
    refine Enter.mk (setF (tm0 lp p) 0 3 fun j => BitVec.ofNat 8 (j + 1)) (tm0_F3 lp p) trivial ?_
    ((repeat' ((conv => whnf) <;> first | exact trivial | (with_reducible first | refine And.intro ?_ ?_ | refine rows_lt1 ?_ | refine rows_lt2 ?_ ?_ | refine rows_lt3 ?_ ?_ ?_ | refine rows_lt4 ?_ ?_ ?_ ?_ | refine rows_lt5 ?_ ?_ ?_ ?_ ?_ | refine aggs_lt1 ?_ | refine aggs_lt2 ?_ ?_ | refine aggs_lt3 ?_ ?_ ?_ | refine fun (_ : Nat) => ?_) | refine fun (_ : (_ : Nat) < _) => ?_ | exact rfl | exact Nat.le_of_ble_eq_true rfl | (change (_ : Nat) ≤ _; omega) | (change (_ : Nat) = _; omega) | (change (_ : Int) = _; omega))); (all_goals try (conv => whnf)))
    rename_i x hx
    exact setF_congr (m := tm0 lp p) (o := 0) (q := 3) (fun j hj => by
      rcases j with _ | _ | _ | j
      · rfl
      · rfl
      · rfl
      · omega) x
  · skip
    repeat (first | ((conv => whnf); refine And.intro ?_ ?_; exact sideOf) | ((conv => whnf); refine NilE.some ?_ ?_; exact sideOf) | ((conv => whnf); refine And.intro (fun _ => ?_) (fun h => nomatch (show true = false from h))) | ((conv => whnf); refine And.intro (fun h => nomatch (show false = true from h)) (fun _ => ?_)) | ((conv => whnf); first | (apply Exists.intro; (repeat apply Exists.intro); refine And.intro ?_ ?_; exact leOf) | (refine Or.inl ?_; (conv => whnf); (repeat apply Exists.intro); refine And.intro ?_ ?_; exact leOf) | (refine Or.inr ?_; (conv => whnf); first | ((repeat apply Exists.intro); refine And.intro ?_ ?_; exact leOf) | (refine Or.inl ?_; (conv => whnf); (repeat apply Exists.intro); refine And.intro ?_ ?_; exact leOf) | (refine Or.inr ?_; (conv => whnf); (repeat apply Exists.intro); refine And.intro ?_ ?_; exact leOf))) | ((conv => whnf); first | refine And.intro (by assumption) ?_ | refine goT ?_ | refine goF ?_ | refine goL ?_ | refine goR ?_ | refine goRL ?_ | refine goRR ?_))
    all_goals try (conv => whnf)
    refine ⟨3, m, 1, ?_, ⟨by omega, by omega, by omega⟩, ?_⟩
    · ((repeat' ((conv => whnf) <;> first | exact trivial | (with_reducible first | refine And.intro ?_ ?_ | refine rows_lt1 ?_ | refine rows_lt2 ?_ ?_ | refine rows_lt3 ?_ ?_ ?_ | refine rows_lt4 ?_ ?_ ?_ ?_ | refine rows_lt5 ?_ ?_ ?_ ?_ ?_ | refine aggs_lt1 ?_ | refine aggs_lt2 ?_ ?_ | refine aggs_lt3 ?_ ?_ ?_ | refine fun (_ : Nat) => ?_) | refine fun (_ : (_ : Nat) < _) => ?_ | exact rfl | exact Nat.le_of_ble_eq_true rfl | (change (_ : Nat) ≤ _; omega) | (change (_ : Nat) = _; omega) | (change (_ : Int) = _; omega))); (all_goals try (conv => whnf)))
      · rw [Nat.zero_add]
      · rename_i x hx
        obtain rfl : x = 0 := by omega
        exact rfl
    have ha := X.a.isLt
    have hle := lc_le X
    have hlc : min X.lq (((Int.toNat 256 : Nat) : Int) - (X.a.toNat : Int)).toNat = X.lc := lc_eq X
    repeat (first | ((conv => whnf); refine And.intro ?_ ?_; exact sideOf) | ((conv => whnf); refine NilE.some ?_ ?_; exact sideOf) | ((conv => whnf); refine And.intro (fun _ => ?_) (fun h => nomatch (show true = false from h))) | ((conv => whnf); refine And.intro (fun h => nomatch (show false = true from h)) (fun _ => ?_)) | ((conv => whnf); first | (apply Exists.intro; (repeat apply Exists.intro); refine And.intro ?_ ?_; exact leOf) | (refine Or.inl ?_; (conv => whnf); (repeat apply Exists.intro); refine And.intro ?_ ?_; exact leOf) | (refine Or.inr ?_; (conv => whnf); first | ((repeat apply Exists.intro); refine And.intro ?_ ?_; exact leOf) | (refine Or.inl ?_; (conv => whnf); (repeat apply Exists.intro); refine And.intro ?_ ?_; exact leOf) | (refine Or.inr ?_; (conv => whnf); (repeat apply Exists.intro); refine And.intro ?_ ?_; exact leOf))) | ((conv => whnf); first | refine And.intro (by assumption) ?_ | refine goT ?_ | refine goF ?_ | refine goL ?_ | refine goR ?_ | refine goRL ?_ | refine goRR ?_))
    all_goals try (conv => whnf)
    rw [hlc]
    refine Exists.intro (fun _ => True) (And.intro (Enter.mk ((m, 0) : (Nat → BitVec 8) × Nat) ⟨Nat.zero_le _, hm⟩ trivial ?_) (fun (g : (Nat → BitVec 8) × Nat) (hg : g.2 ≤ X.lc ∧ F3 g.1) _ => ?_))
    · ((repeat' ((conv => whnf) <;> first | exact trivial | (with_reducible first | refine And.intro ?_ ?_ | refine rows_lt1 ?_ | refine rows_lt2 ?_ ?_ | refine rows_lt3 ?_ ?_ ?_ | refine rows_lt4 ?_ ?_ ?_ ?_ | refine rows_lt5 ?_ ?_ ?_ ?_ ?_ | refine aggs_lt1 ?_ | refine aggs_lt2 ?_ ?_ | refine aggs_lt3 ?_ ?_ ?_ | refine fun (_ : Nat) => ?_) | refine fun (_ : (_ : Nat) < _) => ?_ | exact rfl | exact Nat.le_of_ble_eq_true rfl | (change (_ : Nat) ≤ _; omega) | (change (_ : Nat) = _; omega) | (change (_ : Int) = _; omega))); (all_goals try (conv => whnf)))
      exact qF_zero m X _
    obtain ⟨m, k⟩ := g
    have hk : k ≤ X.lc := hg.1
    have hm : F3 m := hg.2
    rcases Nat.lt_or_ge k X.lc with h | h
    · skip
      repeat (first | ((conv => whnf); refine And.intro ?_ ?_; exact sideOf) | ((conv => whnf); refine NilE.some ?_ ?_; exact sideOf) | ((conv => whnf); refine And.intro (fun _ => ?_) (fun h => nomatch (show true = false from h))) | ((conv => whnf); refine And.intro (fun h => nomatch (show false = true from h)) (fun _ => ?_)) | ((conv => whnf); first | (apply Exists.intro; (repeat apply Exists.intro); refine And.intro ?_ ?_; exact leOf) | (refine Or.inl ?_; (conv => whnf); (repeat apply Exists.intro); refine And.intro ?_ ?_; exact leOf) | (refine Or.inr ?_; (conv => whnf); first | ((repeat apply Exists.intro); refine And.intro ?_ ?_; exact leOf) | (refine Or.inl ?_; (conv => whnf); (repeat apply Exists.intro); refine And.intro ?_ ?_; exact leOf) | (refine Or.inr ?_; (conv => whnf); (repeat apply Exists.intro); refine And.intro ?_ ?_; exact leOf))) | ((conv => whnf); first | refine And.intro (by assumption) ?_ | refine goT ?_ | refine goF ?_ | refine goL ?_ | refine goR ?_ | refine goRL ?_ | refine goRR ?_))
      all_goals try (conv => whnf)
      refine Again.mk ((m, k + 1) : (Nat → BitVec 8) × Nat) ⟨show k + 1 ≤ X.lc by omega, hm⟩ trivial (show X.lc - (k + 1) < X.lc - k by omega) ?_
      ((repeat' ((conv => whnf) <;> first | exact trivial | (with_reducible first | refine And.intro ?_ ?_ | refine rows_lt1 ?_ | refine rows_lt2 ?_ ?_ | refine rows_lt3 ?_ ?_ ?_ | refine rows_lt4 ?_ ?_ ?_ ?_ | refine rows_lt5 ?_ ?_ ?_ ?_ ?_ | refine aggs_lt1 ?_ | refine aggs_lt2 ?_ ?_ | refine aggs_lt3 ?_ ?_ ?_ | refine fun (_ : Nat) => ?_) | refine fun (_ : (_ : Nat) < _) => ?_ | exact rfl | exact Nat.le_of_ble_eq_true rfl | (change (_ : Nat) ≤ _; omega) | (change (_ : Nat) = _; omega) | (change (_ : Int) = _; omega))); (all_goals try (conv => whnf)))
      exact qF_step m X k _
    · obtain rfl : k = X.lc := by omega
      repeat (first | ((conv => whnf); refine And.intro ?_ ?_; exact sideOf) | ((conv => whnf); refine NilE.some ?_ ?_; exact sideOf) | ((conv => whnf); refine And.intro (fun _ => ?_) (fun h => nomatch (show true = false from h))) | ((conv => whnf); refine And.intro (fun h => nomatch (show false = true from h)) (fun _ => ?_)) | ((conv => whnf); first | (apply Exists.intro; (repeat apply Exists.intro); refine And.intro ?_ ?_; exact leOf) | (refine Or.inl ?_; (conv => whnf); (repeat apply Exists.intro); refine And.intro ?_ ?_; exact leOf) | (refine Or.inr ?_; (conv => whnf); first | ((repeat apply Exists.intro); refine And.intro ?_ ?_; exact leOf) | (refine Or.inl ?_; (conv => whnf); (repeat apply Exists.intro); refine And.intro ?_ ?_; exact leOf) | (refine Or.inr ?_; (conv => whnf); (repeat apply Exists.intro); refine And.intro ?_ ?_; exact leOf))) | ((conv => whnf); first | refine And.intro (by assumption) ?_ | refine goT ?_ | refine goF ?_ | refine goL ?_ | refine goR ?_ | refine goRL ?_ | refine goRR ?_))
      all_goals try (conv => whnf)
      refine Exists.intro (fun _ => True) (And.intro ?_ (fun (g : FTc) (hg : F3 g.m ∧ g.n + X.a.toNat ≤ 256 ∧ ∀ x, x < g.n → ¬ badB (pgF g.m 1) X.a.toNat g.q x) _ => ?_))
      · cases he : X.e with
        | true =>
          repeat (first | ((conv => whnf); refine And.intro ?_ ?_; exact sideOf) | ((conv => whnf); refine NilE.some ?_ ?_; exact sideOf) | ((conv => whnf); refine And.intro (fun _ => ?_) (fun h => nomatch (show true = false from h))) | ((conv => whnf); refine And.intro (fun h => nomatch (show false = true from h)) (fun _ => ?_)) | ((conv => whnf); first | (apply Exists.intro; (repeat apply Exists.intro); refine And.intro ?_ ?_; exact leOf) | (refine Or.inl ?_; (conv => whnf); (repeat apply Exists.intro); refine And.intro ?_ ?_; exact leOf) | (refine Or.inr ?_; (conv => whnf); first | ((repeat apply Exists.intro); refine And.intro ?_ ?_; exact leOf) | (refine Or.inl ?_; (conv => whnf); (repeat apply Exists.intro); refine And.intro ?_ ?_; exact leOf) | (refine Or.inr ?_; (conv => whnf); (repeat apply Exists.intro); refine And.intro ?_ ?_; exact leOf))) | ((conv => whnf); first | refine And.intro (by assumption) ?_ | refine goT ?_ | refine goF ?_ | refine goL ?_ | refine goR ?_ | refine goRL ?_ | refine goRR ?_))
          all_goals try (conv => whnf)
          refine Enter.via (fun x => bif Nat.beq x 3114 then none else some x) (⟨m, 0, fun _ => 0⟩ : FTc) ⟨hm, show 0 + X.a.toNat ≤ 256 by omega, fun x hx => absurd hx (Nat.not_lt_zero x)⟩ trivial ?_
          ((repeat' ((conv => whnf) <;> first | exact trivial | (with_reducible first | refine And.intro ?_ ?_ | refine rows_lt1 ?_ | refine rows_lt2 ?_ ?_ | refine rows_lt3 ?_ ?_ ?_ | refine rows_lt4 ?_ ?_ ?_ ?_ | refine rows_lt5 ?_ ?_ ?_ ?_ ?_ | refine aggs_lt1 ?_ | refine aggs_lt2 ?_ ?_ | refine aggs_lt3 ?_ ?_ ?_ | refine fun (_ : Nat) => ?_) | refine fun (_ : (_ : Nat) < _) => ?_ | exact rfl | exact Nat.le_of_ble_eq_true rfl | (change (_ : Nat) ≤ _; omega) | (change (_ : Nat) = _; omega) | (change (_ : Int) = _; omega))); (all_goals try (conv => whnf)))
        | false =>
          repeat (first | ((conv => whnf); refine And.intro ?_ ?_; exact sideOf) | ((conv => whnf); refine NilE.some ?_ ?_; exact sideOf) | ((conv => whnf); refine And.intro (fun _ => ?_) (fun h => nomatch (show true = false from h))) | ((conv => whnf); refine And.intro (fun h => nomatch (show false = true from h)) (fun _ => ?_)) | ((conv => whnf); first | (apply Exists.intro; (repeat apply Exists.intro); refine And.intro ?_ ?_; exact leOf) | (refine Or.inl ?_; (conv => whnf); (repeat apply Exists.intro); refine And.intro ?_ ?_; exact leOf) | (refine Or.inr ?_; (conv => whnf); first | ((repeat apply Exists.intro); refine And.intro ?_ ?_; exact leOf) | (refine Or.inl ?_; (conv => whnf); (repeat apply Exists.intro); refine And.intro ?_ ?_; exact leOf) | (refine Or.inr ?_; (conv => whnf); (repeat apply Exists.intro); refine And.intro ?_ ?_; exact leOf))) | ((conv => whnf); first | refine And.intro (by assumption) ?_ | refine goT ?_ | refine goF ?_ | refine goL ?_ | refine goR ?_ | refine goRL ?_ | refine goRR ?_))
          all_goals try (conv => whnf)
          refine Enter.mk (⟨m, X.lc, qF m X X.lc⟩ : FTc) ⟨hm, hle, qF_ok m X X.lc⟩ trivial ?_
          ((repeat' ((conv => whnf) <;> first | exact trivial | (with_reducible first | refine And.intro ?_ ?_ | refine rows_lt1 ?_ | refine rows_lt2 ?_ ?_ | refine rows_lt3 ?_ ?_ ?_ | refine rows_lt4 ?_ ?_ ?_ ?_ | refine rows_lt5 ?_ ?_ ?_ ?_ ?_ | refine aggs_lt1 ?_ | refine aggs_lt2 ?_ ?_ | refine aggs_lt3 ?_ ?_ ?_ | refine fun (_ : Nat) => ?_) | refine fun (_ : (_ : Nat) < _) => ?_ | exact rfl | exact Nat.le_of_ble_eq_true rfl | (change (_ : Nat) ≤ _; omega) | (change (_ : Nat) = _; omega) | (change (_ : Int) = _; omega))); (all_goals try (conv => whnf)))
      · obtain ⟨m, n, q⟩ := g
        have hm : F3 m := hg.1
        have hn : n + X.a.toNat ≤ 256 := hg.2.1
        have hq : ∀ x, x < n → ¬ badB (pgF m 1) X.a.toNat q x := hg.2.2
        clear hg
        repeat (first | ((conv => whnf); refine And.intro ?_ ?_; exact sideOf) | ((conv => whnf); refine NilE.some ?_ ?_; exact sideOf) | ((conv => whnf); refine And.intro (fun _ => ?_) (fun h => nomatch (show true = false from h))) | ((conv => whnf); refine And.intro (fun h => nomatch (show false = true from h)) (fun _ => ?_)) | ((conv => whnf); first | (apply Exists.intro; (repeat apply Exists.intro); refine And.intro ?_ ?_; exact leOf) | (refine Or.inl ?_; (conv => whnf); (repeat apply Exists.intro); refine And.intro ?_ ?_; exact leOf) | (refine Or.inr ?_; (conv => whnf); first | ((repeat apply Exists.intro); refine And.intro ?_ ?_; exact leOf) | (refine Or.inl ?_; (conv => whnf); (repeat apply Exists.intro); refine And.intro ?_ ?_; exact leOf) | (refine Or.inr ?_; (conv => whnf); (repeat apply Exists.intro); refine And.intro ?_ ?_; exact leOf))) | ((conv => whnf); first | refine And.intro (by assumption) ?_ | refine goT ?_ | refine goF ?_ | refine goL ?_ | refine goR ?_ | refine goRL ?_ | refine goRR ?_))
        all_goals try (conv => whnf)
        refine Exists.intro (fun _ => True) (And.intro ?_ (fun (g : (Nat → BitVec 8) × (Nat → BitVec 8)) (hm : F3 g.1) _ => ?_))
        · rcases Nat.eq_zero_or_pos n with h0 | h0
          · subst h0
            repeat (first | ((conv => whnf); refine And.intro ?_ ?_; exact sideOf) | ((conv => whnf); refine NilE.some ?_ ?_; exact sideOf) | ((conv => whnf); refine And.intro (fun _ => ?_) (fun h => nomatch (show true = false from h))) | ((conv => whnf); refine And.intro (fun h => nomatch (show false = true from h)) (fun _ => ?_)) | ((conv => whnf); first | (apply Exists.intro; (repeat apply Exists.intro); refine And.intro ?_ ?_; exact leOf) | (refine Or.inl ?_; (conv => whnf); (repeat apply Exists.intro); refine And.intro ?_ ?_; exact leOf) | (refine Or.inr ?_; (conv => whnf); first | ((repeat apply Exists.intro); refine And.intro ?_ ?_; exact leOf) | (refine Or.inl ?_; (conv => whnf); (repeat apply Exists.intro); refine And.intro ?_ ?_; exact leOf) | (refine Or.inr ?_; (conv => whnf); (repeat apply Exists.intro); refine And.intro ?_ ?_; exact leOf))) | ((conv => whnf); first | refine And.intro (by assumption) ?_ | refine goT ?_ | refine goF ?_ | refine goL ?_ | refine goR ?_ | refine goRL ?_ | refine goRR ?_))
            all_goals try (conv => whnf)
            refine Enter.mk ((m, fun _ => 255) : (Nat → BitVec 8) × (Nat → BitVec 8)) hm trivial ?_
            ((repeat' ((conv => whnf) <;> first | exact trivial | (with_reducible first | refine And.intro ?_ ?_ | refine rows_lt1 ?_ | refine rows_lt2 ?_ ?_ | refine rows_lt3 ?_ ?_ ?_ | refine rows_lt4 ?_ ?_ ?_ ?_ | refine rows_lt5 ?_ ?_ ?_ ?_ ?_ | refine aggs_lt1 ?_ | refine aggs_lt2 ?_ ?_ | refine aggs_lt3 ?_ ?_ ?_ | refine fun (_ : Nat) => ?_) | refine fun (_ : (_ : Nat) < _) => ?_ | exact rfl | exact Nat.le_of_ble_eq_true rfl | (change (_ : Nat) ≤ _; omega) | (change (_ : Nat) = _; omega) | (change (_ : Int) = _; omega))); (all_goals try (conv => whnf)))
          · skip
            repeat (first | ((conv => whnf); refine And.intro ?_ ?_; exact sideOf) | ((conv => whnf); refine NilE.some ?_ ?_; exact sideOf) | ((conv => whnf); refine And.intro (fun _ => ?_) (fun h => nomatch (show true = false from h))) | ((conv => whnf); refine And.intro (fun h => nomatch (show false = true from h)) (fun _ => ?_)) | ((conv => whnf); first | (apply Exists.intro; (repeat apply Exists.intro); refine And.intro ?_ ?_; exact leOf) | (refine Or.inl ?_; (conv => whnf); (repeat apply Exists.intro); refine And.intro ?_ ?_; exact leOf) | (refine Or.inr ?_; (conv => whnf); first | ((repeat apply Exists.intro); refine And.intro ?_ ?_; exact leOf) | (refine Or.inl ?_; (conv => whnf); (repeat apply Exists.intro); refine And.intro ?_ ?_; exact leOf) | (refine Or.inr ?_; (conv => whnf); (repeat apply Exists.intro); refine And.intro ?_ ?_; exact leOf))) | ((conv => whnf); first | refine And.intro (by assumption) ?_ | refine goT ?_ | refine goF ?_ | refine goL ?_ | refine goR ?_ | refine goRL ?_ | refine goRR ?_))
            all_goals try (conv => whnf)
            refine And.intro ⟨by decide, ⟨by decide, by decide⟩, ⟨by omega, by omega⟩, by decide, h0, (show (0 : Int) ≤ (X.a.toNat : Int) ∧ (X.a.toNat : Int) + (n : Int) ≤ 256 from ⟨by omega, by omega⟩), ?_⟩ ?_
            · rw [z_add]; exact hq
            repeat (first | ((conv => whnf); refine And.intro ?_ ?_; exact sideOf) | ((conv => whnf); refine NilE.some ?_ ?_; exact sideOf) | ((conv => whnf); refine And.intro (fun _ => ?_) (fun h => nomatch (show true = false from h))) | ((conv => whnf); refine And.intro (fun h => nomatch (show false = true from h)) (fun _ => ?_)) | ((conv => whnf); first | (apply Exists.intro; (repeat apply Exists.intro); refine And.intro ?_ ?_; exact leOf) | (refine Or.inl ?_; (conv => whnf); (repeat apply Exists.intro); refine And.intro ?_ ?_; exact leOf) | (refine Or.inr ?_; (conv => whnf); first | ((repeat apply Exists.intro); refine And.intro ?_ ?_; exact leOf) | (refine Or.inl ?_; (conv => whnf); (repeat apply Exists.intro); refine And.intro ?_ ?_; exact leOf) | (refine Or.inr ?_; (conv => whnf); (repeat apply Exists.intro); refine And.intro ?_ ?_; exact leOf))) | ((conv => whnf); first | refine And.intro (by assumption) ?_ | refine goT ?_ | refine goF ?_ | refine goL ?_ | refine goR ?_ | refine goRL ?_ | refine goRR ?_))
            all_goals try (conv => whnf)
            refine Enter.mk ((m, setF (pgF (fun x => m (0 + x)) 1) X.a.toNat n q) : (Nat → BitVec 8) × (Nat → BitVec 8)) hm trivial ?_
            ((repeat' ((conv => whnf) <;> first | exact trivial | (with_reducible first | refine And.intro ?_ ?_ | refine rows_lt1 ?_ | refine rows_lt2 ?_ ?_ | refine rows_lt3 ?_ ?_ ?_ | refine rows_lt4 ?_ ?_ ?_ ?_ | refine rows_lt5 ?_ ?_ ?_ ?_ ?_ | refine aggs_lt1 ?_ | refine aggs_lt2 ?_ ?_ | refine aggs_lt3 ?_ ?_ ?_ | refine fun (_ : Nat) => ?_) | refine fun (_ : (_ : Nat) < _) => ?_ | exact rfl | exact Nat.le_of_ble_eq_true rfl | (change (_ : Nat) ≤ _; omega) | (change (_ : Nat) = _; omega) | (change (_ : Int) = _; omega))); (all_goals try (conv => whnf)))
        · obtain ⟨m, w⟩ := g
          have hm : F3 m := hm
          clear hg hq hn
          repeat (first | ((conv => whnf); refine And.intro ?_ ?_; exact sideOf) | ((conv => whnf); refine NilE.some ?_ ?_; exact sideOf) | ((conv => whnf); refine And.intro (fun _ => ?_) (fun h => nomatch (show true = false from h))) | ((conv => whnf); refine And.intro (fun h => nomatch (show false = true from h)) (fun _ => ?_)) | ((conv => whnf); first | (apply Exists.intro; (repeat apply Exists.intro); refine And.intro ?_ ?_; exact leOf) | (refine Or.inl ?_; (conv => whnf); (repeat apply Exists.intro); refine And.intro ?_ ?_; exact leOf) | (refine Or.inr ?_; (conv => whnf); first | ((repeat apply Exists.intro); refine And.intro ?_ ?_; exact leOf) | (refine Or.inl ?_; (conv => whnf); (repeat apply Exists.intro); refine And.intro ?_ ?_; exact leOf) | (refine Or.inr ?_; (conv => whnf); (repeat apply Exists.intro); refine And.intro ?_ ?_; exact leOf))) | ((conv => whnf); first | refine And.intro (by assumption) ?_ | refine goT ?_ | refine goF ?_ | refine goL ?_ | refine goR ?_ | refine goRL ?_ | refine goRR ?_))
          all_goals try (conv => whnf)
          refine Exists.intro (fun _ => True) (And.intro ?_ (fun (g : (Nat → BitVec 8) × (Nat → BitVec 8)) (hm : F3 g.1) _ => ?_))
          · skip
            repeat (first | ((conv => whnf); refine And.intro ?_ ?_; exact sideOf) | ((conv => whnf); refine NilE.some ?_ ?_; exact sideOf) | ((conv => whnf); refine And.intro (fun _ => ?_) (fun h => nomatch (show true = false from h))) | ((conv => whnf); refine And.intro (fun h => nomatch (show false = true from h)) (fun _ => ?_)) | ((conv => whnf); first | (apply Exists.intro; (repeat apply Exists.intro); refine And.intro ?_ ?_; exact leOf) | (refine Or.inl ?_; (conv => whnf); (repeat apply Exists.intro); refine And.intro ?_ ?_; exact leOf) | (refine Or.inr ?_; (conv => whnf); first | ((repeat apply Exists.intro); refine And.intro ?_ ?_; exact leOf) | (refine Or.inl ?_; (conv => whnf); (repeat apply Exists.intro); refine And.intro ?_ ?_; exact leOf) | (refine Or.inr ?_; (conv => whnf); (repeat apply Exists.intro); refine And.intro ?_ ?_; exact leOf))) | ((conv => whnf); first | refine And.intro (by assumption) ?_ | refine goT ?_ | refine goF ?_ | refine goL ?_ | refine goR ?_ | refine goRL ?_ | refine goRR ?_))
            all_goals try (conv => whnf)
            refine Exists.intro (fun _ => True) (And.intro (Enter.mk (⟨0, m, w⟩ : FTd) ⟨Nat.zero_le _, hm⟩ trivial ?_) (fun (g : FTd) (hg : g.k ≤ X.M ∧ F3 g.m) _ => ?_))
            · ((repeat' ((conv => whnf) <;> first | exact trivial | (with_reducible first | refine And.intro ?_ ?_ | refine rows_lt1 ?_ | refine rows_lt2 ?_ ?_ | refine rows_lt3 ?_ ?_ ?_ | refine rows_lt4 ?_ ?_ ?_ ?_ | refine rows_lt5 ?_ ?_ ?_ ?_ ?_ | refine aggs_lt1 ?_ | refine aggs_lt2 ?_ ?_ | refine aggs_lt3 ?_ ?_ ?_ | refine fun (_ : Nat) => ?_) | refine fun (_ : (_ : Nat) < _) => ?_ | exact rfl | exact Nat.le_of_ble_eq_true rfl | (change (_ : Nat) ≤ _; omega) | (change (_ : Nat) = _; omega) | (change (_ : Int) = _; omega))); (all_goals try (conv => whnf)))
            obtain ⟨k, m, w⟩ := g
            have hk : k ≤ X.M := hg.1
            have hm : F3 m := hg.2
            clear hg
            rcases Nat.lt_or_ge k X.M with h | h
            · rcases Nat.lt_or_ge k 6 with h6 | h6
              · have hLk : X.L k ≤ 9223372036854775807 := hL k h
                repeat (first | ((conv => whnf); refine And.intro ?_ ?_; exact sideOf) | ((conv => whnf); refine NilE.some ?_ ?_; exact sideOf) | ((conv => whnf); refine And.intro (fun _ => ?_) (fun h => nomatch (show true = false from h))) | ((conv => whnf); refine And.intro (fun h => nomatch (show false = true from h)) (fun _ => ?_)) | ((conv => whnf); first | (apply Exists.intro; (repeat apply Exists.intro); refine And.intro ?_ ?_; exact leOf) | (refine Or.inl ?_; (conv => whnf); (repeat apply Exists.intro); refine And.intro ?_ ?_; exact leOf) | (refine Or.inr ?_; (conv => whnf); first | ((repeat apply Exists.intro); refine And.intro ?_ ?_; exact leOf) | (refine Or.inl ?_; (conv => whnf); (repeat apply Exists.intro); refine And.intro ?_ ?_; exact leOf) | (refine Or.inr ?_; (conv => whnf); (repeat apply Exists.intro); refine And.intro ?_ ?_; exact leOf))) | ((conv => whnf); first | refine And.intro (by assumption) ?_ | refine goT ?_ | refine goF ?_ | refine goL ?_ | refine goR ?_ | refine goRL ?_ | refine goRR ?_))
                all_goals try (conv => whnf)
                refine ⟨3, mK X k m w, 1, ?_, ⟨by omega, by omega, by omega⟩, ?_⟩
                · ((repeat' ((conv => whnf) <;> first | exact trivial | (with_reducible first | refine And.intro ?_ ?_ | refine rows_lt1 ?_ | refine rows_lt2 ?_ ?_ | refine rows_lt3 ?_ ?_ ?_ | refine rows_lt4 ?_ ?_ ?_ ?_ | refine rows_lt5 ?_ ?_ ?_ ?_ ?_ | refine aggs_lt1 ?_ | refine aggs_lt2 ?_ ?_ | refine aggs_lt3 ?_ ?_ ?_ | refine fun (_ : Nat) => ?_) | refine fun (_ : (_ : Nat) < _) => ?_ | exact rfl | exact Nat.le_of_ble_eq_true rfl | (change (_ : Nat) ≤ _; omega) | (change (_ : Nat) = _; omega) | (change (_ : Int) = _; omega))); (all_goals try (conv => whnf)))
                  · rw [← mK_eq X k m w, Nat.zero_add]; rfl
                  · rename_i x hx
                    obtain rfl : x = 0 := by omega
                    exact rfl
                repeat (first | ((conv => whnf); refine And.intro ?_ ?_; exact sideOf) | ((conv => whnf); refine NilE.some ?_ ?_; exact sideOf) | ((conv => whnf); refine And.intro (fun _ => ?_) (fun h => nomatch (show true = false from h))) | ((conv => whnf); refine And.intro (fun h => nomatch (show false = true from h)) (fun _ => ?_)) | ((conv => whnf); first | (apply Exists.intro; (repeat apply Exists.intro); refine And.intro ?_ ?_; exact leOf) | (refine Or.inl ?_; (conv => whnf); (repeat apply Exists.intro); refine And.intro ?_ ?_; exact leOf) | (refine Or.inr ?_; (conv => whnf); first | ((repeat apply Exists.intro); refine And.intro ?_ ?_; exact leOf) | (refine Or.inl ?_; (conv => whnf); (repeat apply Exists.intro); refine And.intro ?_ ?_; exact leOf) | (refine Or.inr ?_; (conv => whnf); (repeat apply Exists.intro); refine And.intro ?_ ?_; exact leOf))) | ((conv => whnf); first | refine And.intro (by assumption) ?_ | refine goT ?_ | refine goF ?_ | refine goL ?_ | refine goR ?_ | refine goRL ?_ | refine goRR ?_))
                all_goals try (conv => whnf)
                have hb := mK_betw X k m w
                refine Exists.intro (fun g => g.k = k ∧ g.w = w) (And.intro (Enter.mk (⟨k, mK X k m w, w, m, 0⟩ : FTe) ⟨h, mK_F3 X k w hm, hb, Nat.zero_le _⟩ ⟨rfl, rfl⟩ ?_) (fun (g : FTe) (hg : g.k < X.M ∧ F3 g.m ∧ betw g.m g.o g.w ∧ g.j ≤ 256) (hJ : g.k = k ∧ g.w = w) => ?_))
                · ((repeat' ((conv => whnf) <;> first | exact trivial | (with_reducible first | refine And.intro ?_ ?_ | refine rows_lt1 ?_ | refine rows_lt2 ?_ ?_ | refine rows_lt3 ?_ ?_ ?_ | refine rows_lt4 ?_ ?_ ?_ ?_ | refine rows_lt5 ?_ ?_ ?_ ?_ ?_ | refine aggs_lt1 ?_ | refine aggs_lt2 ?_ ?_ | refine aggs_lt3 ?_ ?_ ?_ | refine fun (_ : Nat) => ?_) | refine fun (_ : (_ : Nat) < _) => ?_ | exact rfl | exact Nat.le_of_ble_eq_true rfl | (change (_ : Nat) ≤ _; omega) | (change (_ : Nat) = _; omega) | (change (_ : Int) = _; omega))); (all_goals try (conv => whnf)))
                  exact congrFun (mK_eq X k m w) _
                obtain ⟨k', m', w', o, j⟩ := g
                have h : k' < X.M := hg.1
                have hm : F3 m' := hg.2.1
                have hb : betw m' o w' := hg.2.2.1
                have hj : j ≤ 256 := hg.2.2.2
                clear hg
                rcases Nat.lt_or_ge j 256 with h2 | h2
                · have hbj : ¬ (m' (256 + j) ^^^ o (256 + j)) &&& (m' (256 + j) ^^^ w' (0 + j)) ≠ BitVec.ofInt 8 0 := fun q => q (by rw [Nat.zero_add]; exact hb j h2)
                  repeat (first | ((conv => whnf); refine And.intro ?_ ?_; exact sideOf) | ((conv => whnf); refine NilE.some ?_ ?_; exact sideOf) | ((conv => whnf); refine And.intro (fun _ => ?_) (fun h => nomatch (show true = false from h))) | ((conv => whnf); refine And.intro (fun h => nomatch (show false = true from h)) (fun _ => ?_)) | ((conv => whnf); first | (apply Exists.intro; (repeat apply Exists.intro); refine And.intro ?_ ?_; exact leOf) | (refine Or.inl ?_; (conv => whnf); (repeat apply Exists.intro); refine And.intro ?_ ?_; exact leOf) | (refine Or.inr ?_; (conv => whnf); first | ((repeat apply Exists.intro); refine And.intro ?_ ?_; exact leOf) | (refine Or.inl ?_; (conv => whnf); (repeat apply Exists.intro); refine And.intro ?_ ?_; exact leOf) | (refine Or.inr ?_; (conv => whnf); (repeat apply Exists.intro); refine And.intro ?_ ?_; exact leOf))) | ((conv => whnf); first | refine And.intro (by assumption) ?_ | refine goT ?_ | refine goF ?_ | refine goL ?_ | refine goR ?_ | refine goRL ?_ | refine goRR ?_))
                  all_goals try (conv => whnf)
                  refine Again.mk (⟨k', m', w', o, j + 1⟩ : FTe) ⟨h, hm, hb, show j + 1 ≤ 256 by omega⟩ hJ (show 256 - (j + 1) < 256 - j by omega) ?_
                  ((repeat' ((conv => whnf) <;> first | exact trivial | (with_reducible first | refine And.intro ?_ ?_ | refine rows_lt1 ?_ | refine rows_lt2 ?_ ?_ | refine rows_lt3 ?_ ?_ ?_ | refine rows_lt4 ?_ ?_ ?_ ?_ | refine rows_lt5 ?_ ?_ ?_ ?_ ?_ | refine aggs_lt1 ?_ | refine aggs_lt2 ?_ ?_ | refine aggs_lt3 ?_ ?_ ?_ | refine fun (_ : Nat) => ?_) | refine fun (_ : (_ : Nat) < _) => ?_ | exact rfl | exact Nat.le_of_ble_eq_true rfl | (change (_ : Nat) ≤ _; omega) | (change (_ : Nat) = _; omega) | (change (_ : Int) = _; omega))); (all_goals try (conv => whnf)))
                · skip
                  repeat (first | ((conv => whnf); refine And.intro ?_ ?_; exact sideOf) | ((conv => whnf); refine NilE.some ?_ ?_; exact sideOf) | ((conv => whnf); refine And.intro (fun _ => ?_) (fun h => nomatch (show true = false from h))) | ((conv => whnf); refine And.intro (fun h => nomatch (show false = true from h)) (fun _ => ?_)) | ((conv => whnf); first | (apply Exists.intro; (repeat apply Exists.intro); refine And.intro ?_ ?_; exact leOf) | (refine Or.inl ?_; (conv => whnf); (repeat apply Exists.intro); refine And.intro ?_ ?_; exact leOf) | (refine Or.inr ?_; (conv => whnf); first | ((repeat apply Exists.intro); refine And.intro ?_ ?_; exact leOf) | (refine Or.inl ?_; (conv => whnf); (repeat apply Exists.intro); refine And.intro ?_ ?_; exact leOf) | (refine Or.inr ?_; (conv => whnf); (repeat apply Exists.intro); refine And.intro ?_ ?_; exact leOf))) | ((conv => whnf); first | refine And.intro (by assumption) ?_ | refine goT ?_ | refine goF ?_ | refine goL ?_ | refine goR ?_ | refine goRL ?_ | refine goRR ?_))
                  all_goals try (conv => whnf)
                  refine Again.via (fun x => bif Nat.beq x 2074 then some 7260 else some x) (⟨k' + 1, m', w'⟩ : FTd) ⟨show k' + 1 ≤ X.M by omega, hm⟩ trivial ?_ ?_
                  · have e : k' = k := hJ.1
                    show X.M - (k' + 1) < X.M - k
                    omega
                  ((repeat' ((conv => whnf) <;> first | exact trivial | (with_reducible first | refine And.intro ?_ ?_ | refine rows_lt1 ?_ | refine rows_lt2 ?_ ?_ | refine rows_lt3 ?_ ?_ ?_ | refine rows_lt4 ?_ ?_ ?_ ?_ | refine rows_lt5 ?_ ?_ ?_ ?_ ?_ | refine aggs_lt1 ?_ | refine aggs_lt2 ?_ ?_ | refine aggs_lt3 ?_ ?_ ?_ | refine fun (_ : Nat) => ?_) | refine fun (_ : (_ : Nat) < _) => ?_ | exact rfl | exact Nat.le_of_ble_eq_true rfl | (change (_ : Nat) ≤ _; omega) | (change (_ : Nat) = _; omega) | (change (_ : Int) = _; omega))); (all_goals try (conv => whnf)))
              · skip
                repeat (first | ((conv => whnf); refine And.intro ?_ ?_; exact sideOf) | ((conv => whnf); refine NilE.some ?_ ?_; exact sideOf) | ((conv => whnf); refine And.intro (fun _ => ?_) (fun h => nomatch (show true = false from h))) | ((conv => whnf); refine And.intro (fun h => nomatch (show false = true from h)) (fun _ => ?_)) | ((conv => whnf); first | (apply Exists.intro; (repeat apply Exists.intro); refine And.intro ?_ ?_; exact leOf) | (refine Or.inl ?_; (conv => whnf); (repeat apply Exists.intro); refine And.intro ?_ ?_; exact leOf) | (refine Or.inr ?_; (conv => whnf); first | ((repeat apply Exists.intro); refine And.intro ?_ ?_; exact leOf) | (refine Or.inl ?_; (conv => whnf); (repeat apply Exists.intro); refine And.intro ?_ ?_; exact leOf) | (refine Or.inr ?_; (conv => whnf); (repeat apply Exists.intro); refine And.intro ?_ ?_; exact leOf))) | ((conv => whnf); first | refine And.intro (by assumption) ?_ | refine goT ?_ | refine goF ?_ | refine goL ?_ | refine goR ?_ | refine goRL ?_ | refine goRR ?_))
                all_goals try (conv => whnf)
                refine Enter.mk ((m, w) : (Nat → BitVec 8) × (Nat → BitVec 8)) hm trivial ?_
                ((repeat' ((conv => whnf) <;> first | exact trivial | (with_reducible first | refine And.intro ?_ ?_ | refine rows_lt1 ?_ | refine rows_lt2 ?_ ?_ | refine rows_lt3 ?_ ?_ ?_ | refine rows_lt4 ?_ ?_ ?_ ?_ | refine rows_lt5 ?_ ?_ ?_ ?_ ?_ | refine aggs_lt1 ?_ | refine aggs_lt2 ?_ ?_ | refine aggs_lt3 ?_ ?_ ?_ | refine fun (_ : Nat) => ?_) | refine fun (_ : (_ : Nat) < _) => ?_ | exact rfl | exact Nat.le_of_ble_eq_true rfl | (change (_ : Nat) ≤ _; omega) | (change (_ : Nat) = _; omega) | (change (_ : Int) = _; omega))); (all_goals try (conv => whnf)))
            · skip
              repeat (first | ((conv => whnf); refine And.intro ?_ ?_; exact sideOf) | ((conv => whnf); refine NilE.some ?_ ?_; exact sideOf) | ((conv => whnf); refine And.intro (fun _ => ?_) (fun h => nomatch (show true = false from h))) | ((conv => whnf); refine And.intro (fun h => nomatch (show false = true from h)) (fun _ => ?_)) | ((conv => whnf); first | (apply Exists.intro; (repeat apply Exists.intro); refine And.intro ?_ ?_; exact leOf) | (refine Or.inl ?_; (conv => whnf); (repeat apply Exists.intro); refine And.intro ?_ ?_; exact leOf) | (refine Or.inr ?_; (conv => whnf); first | ((repeat apply Exists.intro); refine And.intro ?_ ?_; exact leOf) | (refine Or.inl ?_; (conv => whnf); (repeat apply Exists.intro); refine And.intro ?_ ?_; exact leOf) | (refine Or.inr ?_; (conv => whnf); (repeat apply Exists.intro); refine And.intro ?_ ?_; exact leOf))) | ((conv => whnf); first | refine And.intro (by assumption) ?_ | refine goT ?_ | refine goF ?_ | refine goL ?_ | refine goR ?_ | refine goRL ?_ | refine goRR ?_))
              all_goals try (conv => whnf)
              refine Enter.mk ((m, w) : (Nat → BitVec 8) × (Nat → BitVec 8)) hm trivial ?_
              ((repeat' ((conv => whnf) <;> first | exact trivial | (with_reducible first | refine And.intro ?_ ?_ | refine rows_lt1 ?_ | refine rows_lt2 ?_ ?_ | refine rows_lt3 ?_ ?_ ?_ | refine rows_lt4 ?_ ?_ ?_ ?_ | refine rows_lt5 ?_ ?_ ?_ ?_ ?_ | refine aggs_lt1 ?_ | refine aggs_lt2 ?_ ?_ | refine aggs_lt3 ?_ ?_ ?_ | refine fun (_ : Nat) => ?_) | refine fun (_ : (_ : Nat) < _) => ?_ | exact rfl | exact Nat.le_of_ble_eq_true rfl | (change (_ : Nat) ≤ _; omega) | (change (_ : Nat) = _; omega) | (change (_ : Int) = _; omega))); (all_goals try (conv => whnf)))
          · obtain ⟨m, w⟩ := g
            have hm : F3 m := hm
            have hz := mZ_F3 w hm
            repeat (first | ((conv => whnf); refine And.intro ?_ ?_; exact sideOf) | ((conv => whnf); refine NilE.some ?_ ?_; exact sideOf) | ((conv => whnf); refine And.intro (fun _ => ?_) (fun h => nomatch (show true = false from h))) | ((conv => whnf); refine And.intro (fun h => nomatch (show false = true from h)) (fun _ => ?_)) | ((conv => whnf); first | (apply Exists.intro; (repeat apply Exists.intro); refine And.intro ?_ ?_; exact leOf) | (refine Or.inl ?_; (conv => whnf); (repeat apply Exists.intro); refine And.intro ?_ ?_; exact leOf) | (refine Or.inr ?_; (conv => whnf); first | ((repeat apply Exists.intro); refine And.intro ?_ ?_; exact leOf) | (refine Or.inl ?_; (conv => whnf); (repeat apply Exists.intro); refine And.intro ?_ ?_; exact leOf) | (refine Or.inr ?_; (conv => whnf); (repeat apply Exists.intro); refine And.intro ?_ ?_; exact leOf))) | ((conv => whnf); first | refine And.intro (by assumption) ?_ | refine goT ?_ | refine goF ?_ | refine goL ?_ | refine goR ?_ | refine goRL ?_ | refine goRR ?_))
            all_goals try (conv => whnf)
            refine ⟨3, mZ m w, 1, ?_, ⟨by omega, by omega, by omega⟩, ?_⟩
            · ((repeat' ((conv => whnf) <;> first | exact trivial | (with_reducible first | refine And.intro ?_ ?_ | refine rows_lt1 ?_ | refine rows_lt2 ?_ ?_ | refine rows_lt3 ?_ ?_ ?_ | refine rows_lt4 ?_ ?_ ?_ ?_ | refine rows_lt5 ?_ ?_ ?_ ?_ ?_ | refine aggs_lt1 ?_ | refine aggs_lt2 ?_ ?_ | refine aggs_lt3 ?_ ?_ ?_ | refine fun (_ : Nat) => ?_) | refine fun (_ : (_ : Nat) < _) => ?_ | exact rfl | exact Nat.le_of_ble_eq_true rfl | (change (_ : Nat) ≤ _; omega) | (change (_ : Nat) = _; omega) | (change (_ : Int) = _; omega))); (all_goals try (conv => whnf)))
              · rw [← mZ_eq m w, Nat.zero_add]; rfl
              · rename_i x hx
                obtain rfl : x = 0 := by omega
                exact rfl
            repeat (first | ((conv => whnf); refine And.intro ?_ ?_; exact sideOf) | ((conv => whnf); refine NilE.some ?_ ?_; exact sideOf) | ((conv => whnf); refine And.intro (fun _ => ?_) (fun h => nomatch (show true = false from h))) | ((conv => whnf); refine And.intro (fun h => nomatch (show false = true from h)) (fun _ => ?_)) | ((conv => whnf); first | (apply Exists.intro; (repeat apply Exists.intro); refine And.intro ?_ ?_; exact leOf) | (refine Or.inl ?_; (conv => whnf); (repeat apply Exists.intro); refine And.intro ?_ ?_; exact leOf) | (refine Or.inr ?_; (conv => whnf); first | ((repeat apply Exists.intro); refine And.intro ?_ ?_; exact leOf) | (refine Or.inl ?_; (conv => whnf); (repeat apply Exists.intro); refine And.intro ?_ ?_; exact leOf) | (refine Or.inr ?_; (conv => whnf); (repeat apply Exists.intro); refine And.intro ?_ ?_; exact leOf))) | ((conv => whnf); first | refine And.intro (by assumption) ?_ | refine goT ?_ | refine goF ?_ | refine goL ?_ | refine goR ?_ | refine goRL ?_ | refine goRR ?_))
            all_goals try (conv => whnf)
            refine And.intro (fun i hi => ?_) ?_
            · show mZ m w (1 * 256 + i) = w (0 + i)
              rw [Nat.one_mul, Nat.zero_add]; exact mZ_pg m w i hi
            repeat (first | ((conv => whnf); refine And.intro ?_ ?_; exact sideOf) | ((conv => whnf); refine NilE.some ?_ ?_; exact sideOf) | ((conv => whnf); refine And.intro (fun _ => ?_) (fun h => nomatch (show true = false from h))) | ((conv => whnf); refine And.intro (fun h => nomatch (show false = true from h)) (fun _ => ?_)) | ((conv => whnf); first | (apply Exists.intro; (repeat apply Exists.intro); refine And.intro ?_ ?_; exact leOf) | (refine Or.inl ?_; (conv => whnf); (repeat apply Exists.intro); refine And.intro ?_ ?_; exact leOf) | (refine Or.inr ?_; (conv => whnf); first | ((repeat apply Exists.intro); refine And.intro ?_ ?_; exact leOf) | (refine Or.inl ?_; (conv => whnf); (repeat apply Exists.intro); refine And.intro ?_ ?_; exact leOf) | (refine Or.inr ?_; (conv => whnf); (repeat apply Exists.intro); refine And.intro ?_ ?_; exact leOf))) | ((conv => whnf); first | refine And.intro (by assumption) ?_ | refine goT ?_ | refine goF ?_ | refine goL ?_ | refine goR ?_ | refine goRL ?_ | refine goRR ?_))
            all_goals try (conv => whnf)
            refine ⟨3, mZ m w, 0, ?_, ⟨by omega, by omega, by omega⟩, ?_⟩
            · ((repeat' ((conv => whnf) <;> first | exact trivial | (with_reducible first | refine And.intro ?_ ?_ | refine rows_lt1 ?_ | refine rows_lt2 ?_ ?_ | refine rows_lt3 ?_ ?_ ?_ | refine rows_lt4 ?_ ?_ ?_ ?_ | refine rows_lt5 ?_ ?_ ?_ ?_ ?_ | refine aggs_lt1 ?_ | refine aggs_lt2 ?_ ?_ | refine aggs_lt3 ?_ ?_ ?_ | refine fun (_ : Nat) => ?_) | refine fun (_ : (_ : Nat) < _) => ?_ | exact rfl | exact Nat.le_of_ble_eq_true rfl | (change (_ : Nat) ≤ _; omega) | (change (_ : Nat) = _; omega) | (change (_ : Int) = _; omega))); (all_goals try (conv => whnf)))
              · rw [← mZ_eq m w, Nat.zero_add]; rfl
              · rename_i x hx
                obtain rfl : x = 0 := by omega
                exact rfl
            repeat (first | ((conv => whnf); refine And.intro ?_ ?_; exact sideOf) | ((conv => whnf); refine NilE.some ?_ ?_; exact sideOf) | ((conv => whnf); refine And.intro (fun _ => ?_) (fun h => nomatch (show true = false from h))) | ((conv => whnf); refine And.intro (fun h => nomatch (show false = true from h)) (fun _ => ?_)) | ((conv => whnf); first | (apply Exists.intro; (repeat apply Exists.intro); refine And.intro ?_ ?_; exact leOf) | (refine Or.inl ?_; (conv => whnf); (repeat apply Exists.intro); refine And.intro ?_ ?_; exact leOf) | (refine Or.inr ?_; (conv => whnf); first | ((repeat apply Exists.intro); refine And.intro ?_ ?_; exact leOf) | (refine Or.inl ?_; (conv => whnf); (repeat apply Exists.intro); refine And.intro ?_ ?_; exact leOf) | (refine Or.inr ?_; (conv => whnf); (repeat apply Exists.intro); refine And.intro ?_ ?_; exact leOf))) | ((conv => whnf); first | refine And.intro (by assumption) ?_ | refine goT ?_ | refine goF ?_ | refine goL ?_ | refine goR ?_ | refine goRL ?_ | refine goRR ?_))
            all_goals try (conv => whnf)
            refine And.intro (fun i hi => ?_) ?_
            · have hi : i < 3 := hi
              show mZ m w (0 * 256 + (0 + i)) = _
              rw [Nat.zero_mul, Nat.zero_add, Nat.zero_add, hz.1 i hi]
              rcases i with _ | _ | _ | i
              · rfl
              · rfl
              · rfl
              · omega
            repeat (first | ((conv => whnf); refine And.intro ?_ ?_; exact sideOf) | ((conv => whnf); refine NilE.some ?_ ?_; exact sideOf) | ((conv => whnf); refine And.intro (fun _ => ?_) (fun h => nomatch (show true = false from h))) | ((conv => whnf); refine And.intro (fun h => nomatch (show false = true from h)) (fun _ => ?_)) | ((conv => whnf); first | (apply Exists.intro; (repeat apply Exists.intro); refine And.intro ?_ ?_; exact leOf) | (refine Or.inl ?_; (conv => whnf); (repeat apply Exists.intro); refine And.intro ?_ ?_; exact leOf) | (refine Or.inr ?_; (conv => whnf); first | ((repeat apply Exists.intro); refine And.intro ?_ ?_; exact leOf) | (refine Or.inl ?_; (conv => whnf); (repeat apply Exists.intro); refine And.intro ?_ ?_; exact leOf) | (refine Or.inr ?_; (conv => whnf); (repeat apply Exists.intro); refine And.intro ?_ ?_; exact leOf))) | ((conv => whnf); first | refine And.intro (by assumption) ?_ | refine goT ?_ | refine goF ?_ | refine goL ?_ | refine goR ?_ | refine goRL ?_ | refine goRR ?_))
            all_goals try (conv => whnf)
            refine decide_eq_true ⟨by decide, by decide, by decide, lw_eq.2 fun i hi => ?_⟩
            have hi : i < 256 := hi
            show tearF m 256 256 (fun x => w (0 + x)) (fun _ => 255) (0 + (2 * 256 + i)) = 255
            rw [mZ_eq, Nat.zero_add]
            exact hz.2 _ (by omega) (by omega)
end Go.Proofs.Ytjibfjkcngjhmaa
