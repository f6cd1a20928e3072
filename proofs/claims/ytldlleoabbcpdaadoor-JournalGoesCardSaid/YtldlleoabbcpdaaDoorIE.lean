/- The journal: operations, wholly and torn, one behind the other; what is to be done for a state. -/
import Derived.Test.YtldlleoabbcpdaaDoorID
namespace Go.Proofs.YtldlleoabbcpdaaDoor
open Go.RowKit
set_option maxRecDepth 100000
set_option maxHeartbeats 20000000
attribute [local irreducible] at8 be rcF rcH lw hsh rst sha256 press dig isR rgt w4 rdN bQ bA bT bR setF badB
abbrev TOp : Ty := ty 56
abbrev opA (kd : BitVec 8) (pg : Int) (l : Nat) (b : Nat → BitVec 8) : AV := .agg false 6 (nth .junk [.u8 kd, .int pg, .nat 0, bsl l b, .nat 0, .u32 0])
abbrev k1 : BitVec 8 := BitVec.ofInt 8 1
abbrev k2 : BitVec 8 := BitVec.ofInt 8 2
/-- An operation that may be done: an erasing, or bytes that clear bits alone. -/
def opK (m : Nat → BitVec 8) (kd : BitVec 8) (pg : Int) (l : Nat) (b : Nat → BitVec 8) : Prop := (0 ≤ pg ∧ pg < 40) ∧ (kd = k1 ∨ (kd = k2 ∧ (0 < l ∧ l ≤ 256) ∧ ∀ x, x < l → ¬ badB (pgF m pg.toNat) 0 b x))
/-- The page as it would be. -/
def opW (m : Nat → BitVec 8) (kd : BitVec 8) (pg : Int) (l : Nat) (b : Nat → BitVec 8) : Nat → BitVec 8 := if kd = k1 then fun _ => 255 else setF (pgF m pg.toNat) 0 l b
def C_fl_After0Z : SpecR := fun A K => ∃ (m : Nat → BitVec 8) (i a : Int), A (aftA 40 0 m (fun _ => 0) i a) ∧ (0 ≤ i ∧ i < 40) ∧ K (tupOf [.gsub 5 8 256 0 256, .nat 0]) [(8, .grow 5 256 (bys fun _ => 255))]
theorem g_fl_After0Z : Gd 54 (pureR ty C_fl_After0Z) := good_imp g_fl_After0 fun args mm key K ⟨m, i, a, hA, hi, hK⟩ => ⟨40, m, fun _ => 0, i, a, hA, ⟨by decide, ⟨by omega, by omega⟩, hi⟩, hK⟩
def C_jn_afterE : SpecR := fun A K => ∃ m pg l b, A [opA k1 pg l b, flI 40 m] ∧ (0 ≤ pg ∧ pg < 40) ∧ K (tupOf [.gsub 5 8 256 0 256, .nat 0]) [(8, .grow 5 256 (bys fun _ => 255))]
theorem g_jn_afterE : Gd 39 (pureR ty C_jn_afterE) := by
  refine goodR (E := PG [(54, pureR ty C_fl_After0Z)]) (pgOK ⟨g_fl_After0Z, trivial⟩) mixes Tryd.func39 (by kernel_rfl) (by kernel_rfl) ?_
  rintro A K ⟨m, pg, l, b, hA, ⟨hp0, hp1⟩, hK⟩
  refine ⟨_, _, _, fun _ => none, hA, hK, by kernel_rfl, by kernel_rfl, ⟨fun _ _ => trivial, trivial⟩, own_res trivial trivial, ?_⟩
  repeat ((conv => whnf); first | refine sdO ?_ | refine nlO ?_ | refine goA ?_ | refine goB ?_ | (apply Exists.intro; (repeat apply Exists.intro); refine caO ?_) | (refine Or.inl ?_; (conv => whnf); (repeat apply Exists.intro); refine caO ?_) | (refine Or.inr ?_; (conv => whnf); first | ((repeat apply Exists.intro); refine caO ?_) | (refine Or.inl ?_; (conv => whnf); (repeat apply Exists.intro); refine caO ?_) | (refine Or.inr ?_; (conv => whnf); (repeat apply Exists.intro); refine caO ?_)) | refine And.intro (by assumption) ?_ | refine goT ?_ | refine goF ?_ | refine goL ?_ | refine goR ?_ | refine goRL ?_ | refine goRR ?_)
  all_goals try (conv => whnf)
  (refine out_fnd ?_; (repeat' ((conv => whnf) <;> first | exact trivial | (with_reducible first | refine And.intro ?_ ?_ | refine rows_lt1 ?_ | refine rows_lt2 ?_ ?_ | refine rows_lt3 ?_ ?_ ?_ | refine rows_lt4 ?_ ?_ ?_ ?_ | refine rows_lt5 ?_ ?_ ?_ ?_ ?_ | refine ints_lt1 ?_ | refine ints_lt2 ?_ ?_ | refine ints_lt3 ?_ ?_ ?_ | refine rows_lt7 ?_ ?_ ?_ ?_ ?_ ?_ ?_ | refine aggs_lt1 ?_ | refine aggs_lt2 ?_ ?_ | refine aggs_lt3 ?_ ?_ ?_ | refine fun (_ : Nat) => ?_) | refine fun (_ : (_ : Nat) < _) => ?_ | exact rfl | exact Nat.le_of_ble_eq_true rfl | (change (_ : Nat) ≤ _; omega) | (change (_ : Nat) = _; omega) | (change (_ : Int) = _; omega))); (all_goals try (conv => whnf)))
def C_jn_afterW : SpecR := fun A K => ∃ m pg l b, A [opA k2 pg l b, flI 40 m] ∧ (0 ≤ pg ∧ pg < 40) ∧ ((0 < l ∧ l ≤ 256) ∧ ∀ x, x < l → ¬ badB (pgF m pg.toNat) 0 b x) ∧ K (tupOf [.gsub 5 8 256 0 256, .nat 0]) [(8, .grow 5 256 (bys (setF (pgF m pg.toNat) 0 l b)))]
theorem g_jn_afterW : Gd 39 (pureR ty C_jn_afterW) := by
  refine goodR (E := PG [(54, pureR ty C_fl_After)]) (pgOK ⟨g_fl_After, trivial⟩) mixes Tryd.func39 (by kernel_rfl) (by kernel_rfl) ?_
  rintro A K ⟨m, pg, l, b, hA, ⟨hp0, hp1⟩, ⟨⟨hl0, hl1⟩, hb⟩, hK⟩
  refine ⟨_, _, _, fun _ => none, hA, hK, by kernel_rfl, by kernel_rfl, ⟨fun _ _ => trivial, trivial⟩, own_res trivial trivial, ?_⟩
  have hc : 40 ≤ 1024 ∧ i64' pg ∧ i64' ((0 : Nat) : Int) ∧ (0 ≤ pg ∧ pg < ((40 : Nat) : Int)) ∧ 0 < l ∧ (0 ≤ ((0 : Nat) : Int) ∧ ((0 : Nat) : Int) + (l : Int) ≤ 256) ∧ ∀ x, x < l → ¬ badB (pgF m pg.toNat) (((0 : Nat) : Int)).toNat b x :=
    ⟨by decide, ⟨by omega, by omega⟩, ⟨by decide, by decide⟩, ⟨hp0, hp1⟩, hl0, ⟨by decide, by omega⟩, hb⟩
  repeat ((conv => whnf); first | refine sdO ?_ | refine nlO ?_ | refine goA ?_ | refine goB ?_ | (apply Exists.intro; (repeat apply Exists.intro); refine caO ?_) | (refine Or.inl ?_; (conv => whnf); (repeat apply Exists.intro); refine caO ?_) | (refine Or.inr ?_; (conv => whnf); first | ((repeat apply Exists.intro); refine caO ?_) | (refine Or.inl ?_; (conv => whnf); (repeat apply Exists.intro); refine caO ?_) | (refine Or.inr ?_; (conv => whnf); (repeat apply Exists.intro); refine caO ?_)) | refine And.intro (by assumption) ?_ | refine goT ?_ | refine goF ?_ | refine goL ?_ | refine goR ?_ | refine goRL ?_ | refine goRR ?_)
  all_goals try (conv => whnf)
  (refine out_fnd ?_; (repeat' ((conv => whnf) <;> first | exact trivial | (with_reducible first | refine And.intro ?_ ?_ | refine rows_lt1 ?_ | refine rows_lt2 ?_ ?_ | refine rows_lt3 ?_ ?_ ?_ | refine rows_lt4 ?_ ?_ ?_ ?_ | refine rows_lt5 ?_ ?_ ?_ ?_ ?_ | refine ints_lt1 ?_ | refine ints_lt2 ?_ ?_ | refine ints_lt3 ?_ ?_ ?_ | refine rows_lt7 ?_ ?_ ?_ ?_ ?_ ?_ ?_ | refine aggs_lt1 ?_ | refine aggs_lt2 ?_ ?_ | refine aggs_lt3 ?_ ?_ ?_ | refine fun (_ : Nat) => ?_) | refine fun (_ : (_ : Nat) < _) => ?_ | exact rfl | exact Nat.le_of_ble_eq_true rfl | (change (_ : Nat) ≤ _; omega) | (change (_ : Nat) = _; omega) | (change (_ : Int) = _; omega))); (all_goals try (conv => whnf)))
def C_jn_after : SpecR := fun A K => ∃ m kd pg l b, A [opA kd pg l b, flI 40 m] ∧ opK m kd pg l b ∧ K (tupOf [.gsub 5 8 256 0 256, .nat 0]) [(8, .grow 5 256 (bys (opW m kd pg l b)))]
theorem g_jn_after : Gd 39 (pureR ty C_jn_after) := good_imp2 g_jn_afterE g_jn_afterW fun args m' key K ⟨m, kd, pg, l, b, hA, ⟨hp, hc⟩, hK⟩ => by
  rcases hc with rfl | ⟨rfl, hl, hb⟩
  · rw [show opW m k1 pg l b = fun _ => 255 from if_pos rfl] at hK
    exact Or.inl ⟨m, pg, l, b, hA, hp, hK⟩
  · rw [show opW m k2 pg l b = setF (pgF m pg.toNat) 0 l b from if_neg (by decide)] at hK
    exact Or.inr ⟨m, pg, l, b, hA, hp, ⟨hl, hb⟩, hK⟩
/-- The flash behind an operation that mask lets through in part. -/
noncomputable def opM (m : Nat → BitVec 8) (kd : BitVec 8) (pg : Int) (l : Nat) (b : Nat → BitVec 8) (n : Nat) (k : Nat → BitVec 8) : Nat → BitVec 8 := tearF m (pg.toNat * 256) (min (min 256 256) n) (opW m kd pg l b) k
theorem opM_e (m : Nat → BitVec 8) (kd : BitVec 8) (pg : Int) (l : Nat) (b : Nat → BitVec 8) (n : Nat) (k : Nat → BitVec 8) (x : Nat) : tearF m (pg.toNat * 256) (min (min 256 256) n) (fun x => opW m kd pg l b (0 + x)) k x = opM m kd pg l b n k x := by
  rw [show (fun x => opW m kd pg l b (0 + x)) = opW m kd pg l b from funext fun x => congrArg _ (Nat.zero_add x)]
  rfl
attribute [local irreducible] opW
def C_jn_Tear : SpecM := fun A K => ∃ m kd pg l b n k, A [.ptr TFl 0 [], .nilp, opA kd pg l b, bsl n k] (flR 0 1 40 m) ∧ opK m kd pg l b ∧ n ≤ maxLen ∧ K (.nat 0) (flR 0 1 40 (opM m kd pg l b n k))
theorem g_jn_Tear : Gd 25 (mutD ty [true, false, false, false] C_jn_Tear) := by
  refine goodD (E := PG [(39, pureR ty C_jn_after), (40, mutD ty [true, false, false, false] C_fl_Tear)]) (pgOK ⟨g_jn_after, g_fl_Tear, trivial⟩) mixes Tryd.func25 (by kernel_rfl) (by kernel_rfl) ?_
  rintro A K ⟨m, kd, pg, l, b, n, k, hA, hop, hn, hK⟩
  refine ⟨_, _, _, _, fun _ => none, hA, hK, by kernel_rfl, by kernel_rfl, ⟨trivial, rfl, trivial⟩, own_fl _ _ _ _, trivial, ?_⟩
  have hp0 := hop.1.1
  have hp1 := hop.1.2
  have hz : (fun x => m (0 + x)) = m := funext fun x => congrArg m (Nat.zero_add x)
  have hop' : opK (fun x => m (0 + x)) kd pg l b := by rw [hz]; exact hop
  have hq : 40 ≤ 1024 ∧ i64' pg ∧ 256 ≤ maxLen ∧ n ≤ maxLen := ⟨by decide, ⟨by omega, by omega⟩, by decide, hn⟩
  unfold opM at hK
  rcases hop.2 with rfl | ⟨rfl, _⟩
  · skip
    repeat ((conv => whnf); first | refine sdO ?_ | refine nlO ?_ | refine goA ?_ | refine goB ?_ | (apply Exists.intro; (repeat apply Exists.intro); refine caO ?_) | (refine Or.inl ?_; (conv => whnf); (repeat apply Exists.intro); refine caO ?_) | (refine Or.inr ?_; (conv => whnf); first | ((repeat apply Exists.intro); refine caO ?_) | (refine Or.inl ?_; (conv => whnf); (repeat apply Exists.intro); refine caO ?_) | (refine Or.inr ?_; (conv => whnf); (repeat apply Exists.intro); refine caO ?_)) | refine And.intro (by assumption) ?_ | refine goT ?_ | refine goF ?_ | refine goL ?_ | refine goR ?_ | refine goRL ?_ | refine goRR ?_)
    all_goals try (conv => whnf)
    (refine out_fnd ?_; (repeat' ((conv => whnf) <;> first | exact trivial | (with_reducible first | refine And.intro ?_ ?_ | refine rows_lt1 ?_ | refine rows_lt2 ?_ ?_ | refine rows_lt3 ?_ ?_ ?_ | refine rows_lt4 ?_ ?_ ?_ ?_ | refine rows_lt5 ?_ ?_ ?_ ?_ ?_ | refine ints_lt1 ?_ | refine ints_lt2 ?_ ?_ | refine ints_lt3 ?_ ?_ ?_ | refine rows_lt7 ?_ ?_ ?_ ?_ ?_ ?_ ?_ | refine aggs_lt1 ?_ | refine aggs_lt2 ?_ ?_ | refine aggs_lt3 ?_ ?_ ?_ | refine fun (_ : Nat) => ?_) | refine fun (_ : (_ : Nat) < _) => ?_ | exact rfl | exact Nat.le_of_ble_eq_true rfl | (change (_ : Nat) ≤ _; omega) | (change (_ : Nat) = _; omega) | (change (_ : Int) = _; omega))); (all_goals try (conv => whnf)))
    all_goals (rw [hz])
    all_goals exact opM_e _ _ _ _ _ _ _ _
  · skip
    repeat ((conv => whnf); first | refine sdO ?_ | refine nlO ?_ | refine goA ?_ | refine goB ?_ | (apply Exists.intro; (repeat apply Exists.intro); refine caO ?_) | (refine Or.inl ?_; (conv => whnf); (repeat apply Exists.intro); refine caO ?_) | (refine Or.inr ?_; (conv => whnf); first | ((repeat apply Exists.intro); refine caO ?_) | (refine Or.inl ?_; (conv => whnf); (repeat apply Exists.intro); refine caO ?_) | (refine Or.inr ?_; (conv => whnf); (repeat apply Exists.intro); refine caO ?_)) | refine And.intro (by assumption) ?_ | refine goT ?_ | refine goF ?_ | refine goL ?_ | refine goR ?_ | refine goRL ?_ | refine goRR ?_)
    all_goals try (conv => whnf)
    (refine out_fnd ?_; (repeat' ((conv => whnf) <;> first | exact trivial | (with_reducible first | refine And.intro ?_ ?_ | refine rows_lt1 ?_ | refine rows_lt2 ?_ ?_ | refine rows_lt3 ?_ ?_ ?_ | refine rows_lt4 ?_ ?_ ?_ ?_ | refine rows_lt5 ?_ ?_ ?_ ?_ ?_ | refine ints_lt1 ?_ | refine ints_lt2 ?_ ?_ | refine ints_lt3 ?_ ?_ ?_ | refine rows_lt7 ?_ ?_ ?_ ?_ ?_ ?_ ?_ | refine aggs_lt1 ?_ | refine aggs_lt2 ?_ ?_ | refine aggs_lt3 ?_ ?_ ?_ | refine fun (_ : Nat) => ?_) | refine fun (_ : (_ : Nat) < _) => ?_ | exact rfl | exact Nat.le_of_ble_eq_true rfl | (change (_ : Nat) ≤ _; omega) | (change (_ : Nat) = _; omega) | (change (_ : Int) = _; omega))); (all_goals try (conv => whnf)))
    all_goals (rw [hz])
    all_goals exact opM_e _ _ _ _ _ _ _ _
/-- The flash behind so many operations, done wholly. -/
noncomputable def doM (kd : Nat → BitVec 8) (pg : Nat → Int) (l : Nat → Nat) (b : Nat → Nat → BitVec 8) (m : Nat → BitVec 8) : Nat → Nat → BitVec 8
  | 0 => m
  | j + 1 => opM (doM kd pg l b m j) (kd j) (pg j) (l j) (b j) 256 fun _ => 255
theorem doM_s (kd : Nat → BitVec 8) (pg : Nat → Int) (l : Nat → Nat) (b : Nat → Nat → BitVec 8) (m : Nat → BitVec 8) (j : Nat) : doM kd pg l b m (j + 1) = opM (doM kd pg l b m j) (kd j) (pg j) (l j) (b j) 256 fun _ => 255 := rfl
theorem doM_0 (kd : Nat → BitVec 8) (pg : Nat → Int) (l : Nat → Nat) (b : Nat → Nat → BitVec 8) (m : Nat → BitVec 8) : doM kd pg l b m 0 = m := rfl
attribute [local irreducible] doM opM opK
abbrev opS (n : Nat) (kd : Nat → BitVec 8) (pg : Nat → Int) (l : Nat → Nat) (b : Nat → Nat → BitVec 8) : AV := .imm false TOp n fun i => opA (kd i) (pg i) (l i) (b i)
noncomputable def L_jn_Do (n : Nat) (kd : Nat → BitVec 8) (pg : Nat → Int) (l : Nat → Nat) (b : Nat → Nat → BitVec 8) (m : Nat → BitVec 8) : LI := ⟨Nat, fun j => j ≤ n, fun j => [(0, .ptr TFl 0 []), (1, .nilp), (10, opS n kd pg l b), (11, .nat n), (12, .nat j)], fun j => flR 0 1 40 (doM kd pg l b m j), fun j => n - j, some, some⟩
def C_jn_Do : SpecM := fun A K => ∃ n kd pg l b m, A [.ptr TFl 0 [], .nilp, opS n kd pg l b] (flR 0 1 40 m) ∧ n ≤ 1000 ∧ (∀ j, j < n → l j ≤ 256 ∧ opK (doM kd pg l b m j) (kd j) (pg j) (l j) (b j)) ∧ K (.nat 0) (flR 0 1 40 (doM kd pg l b m n))
theorem g_jn_Do : Gd 24 (mutD ty [true, false, false] C_jn_Do) := by
  refine goodD (E := PG [(38, pureR ty C_Repeat1), (25, mutD ty [true, false, false, false] C_jn_Tear)]) (pgOK ⟨g_Repeat1, g_jn_Tear, trivial⟩) mixes Tryd.func24 (by kernel_rfl) (by kernel_rfl) ?_
  rintro A K ⟨n, kd, pg, l, b, m, hA, hn, hop, hK⟩
  refine ⟨_, _, _, _, loops [(2, L_jn_Do n kd pg l b m)], hA, hK, by kernel_rfl, by kernel_rfl, ⟨trivial, rfl, trivial⟩, own_fl _ _ _ _, trivial, ?_⟩
  repeat ((conv => whnf); first | refine sdO ?_ | refine nlO ?_ | refine goA ?_ | refine goB ?_ | (apply Exists.intro; (repeat apply Exists.intro); refine caO ?_) | (refine Or.inl ?_; (conv => whnf); (repeat apply Exists.intro); refine caO ?_) | (refine Or.inr ?_; (conv => whnf); first | ((repeat apply Exists.intro); refine caO ?_) | (refine Or.inl ?_; (conv => whnf); (repeat apply Exists.intro); refine caO ?_) | (refine Or.inr ?_; (conv => whnf); (repeat apply Exists.intro); refine caO ?_)) | refine And.intro (by assumption) ?_ | refine goT ?_ | refine goF ?_ | refine goL ?_ | refine goR ?_ | refine goRL ?_ | refine goRR ?_)
  all_goals try (conv => whnf)
  refine Exists.intro (fun _ => True) (And.intro (Enter.mk (0 : Nat) (Nat.zero_le _) trivial ?_) (fun (j : Nat) (hj : j ≤ n) _ => ?_))
  · ((repeat' ((conv => whnf) <;> first | exact trivial | (with_reducible first | refine And.intro ?_ ?_ | refine rows_lt1 ?_ | refine rows_lt2 ?_ ?_ | refine rows_lt3 ?_ ?_ ?_ | refine rows_lt4 ?_ ?_ ?_ ?_ | refine rows_lt5 ?_ ?_ ?_ ?_ ?_ | refine ints_lt1 ?_ | refine ints_lt2 ?_ ?_ | refine ints_lt3 ?_ ?_ ?_ | refine rows_lt7 ?_ ?_ ?_ ?_ ?_ ?_ ?_ | refine aggs_lt1 ?_ | refine aggs_lt2 ?_ ?_ | refine aggs_lt3 ?_ ?_ ?_ | refine fun (_ : Nat) => ?_) | refine fun (_ : (_ : Nat) < _) => ?_ | exact rfl | exact Nat.le_of_ble_eq_true rfl | (change (_ : Nat) ≤ _; omega) | (change (_ : Nat) = _; omega) | (change (_ : Int) = _; omega))); (all_goals try (conv => whnf)))
    all_goals (rw [doM_0])
  rcases Nat.lt_or_ge j n with h | h
  · obtain ⟨hl, ho⟩ := hop j h
    repeat ((conv => whnf); first | refine sdO ?_ | refine nlO ?_ | refine goA ?_ | refine goB ?_ | (apply Exists.intro; (repeat apply Exists.intro); refine caO ?_) | (refine Or.inl ?_; (conv => whnf); (repeat apply Exists.intro); refine caO ?_) | (refine Or.inr ?_; (conv => whnf); first | ((repeat apply Exists.intro); refine caO ?_) | (refine Or.inl ?_; (conv => whnf); (repeat apply Exists.intro); refine caO ?_) | (refine Or.inr ?_; (conv => whnf); (repeat apply Exists.intro); refine caO ?_)) | refine And.intro (by assumption) ?_ | refine goT ?_ | refine goF ?_ | refine goL ?_ | refine goR ?_ | refine goRL ?_ | refine goRR ?_)
    all_goals try (conv => whnf)
    refine Again.mk (j + 1 : Nat) h trivial (show n - (j + 1) < n - j by omega) ?_
    ((repeat' ((conv => whnf) <;> first | exact trivial | (with_reducible first | refine And.intro ?_ ?_ | refine rows_lt1 ?_ | refine rows_lt2 ?_ ?_ | refine rows_lt3 ?_ ?_ ?_ | refine rows_lt4 ?_ ?_ ?_ ?_ | refine rows_lt5 ?_ ?_ ?_ ?_ ?_ | refine ints_lt1 ?_ | refine ints_lt2 ?_ ?_ | refine ints_lt3 ?_ ?_ ?_ | refine rows_lt7 ?_ ?_ ?_ ?_ ?_ ?_ ?_ | refine aggs_lt1 ?_ | refine aggs_lt2 ?_ ?_ | refine aggs_lt3 ?_ ?_ ?_ | refine fun (_ : Nat) => ?_) | refine fun (_ : (_ : Nat) < _) => ?_ | exact rfl | exact Nat.le_of_ble_eq_true rfl | (change (_ : Nat) ≤ _; omega) | (change (_ : Nat) = _; omega) | (change (_ : Int) = _; omega))); (all_goals try (conv => whnf)))
    all_goals (rw [doM_s])
    all_goals rfl
  · obtain rfl : j = n := by omega
    repeat ((conv => whnf); first | refine sdO ?_ | refine nlO ?_ | refine goA ?_ | refine goB ?_ | (apply Exists.intro; (repeat apply Exists.intro); refine caO ?_) | (refine Or.inl ?_; (conv => whnf); (repeat apply Exists.intro); refine caO ?_) | (refine Or.inr ?_; (conv => whnf); first | ((repeat apply Exists.intro); refine caO ?_) | (refine Or.inl ?_; (conv => whnf); (repeat apply Exists.intro); refine caO ?_) | (refine Or.inr ?_; (conv => whnf); (repeat apply Exists.intro); refine caO ?_)) | refine And.intro (by assumption) ?_ | refine goT ?_ | refine goF ?_ | refine goL ?_ | refine goR ?_ | refine goRL ?_ | refine goRR ?_)
    all_goals try (conv => whnf)
    (refine out_fnd ?_; (repeat' ((conv => whnf) <;> first | exact trivial | (with_reducible first | refine And.intro ?_ ?_ | refine rows_lt1 ?_ | refine rows_lt2 ?_ ?_ | refine rows_lt3 ?_ ?_ ?_ | refine rows_lt4 ?_ ?_ ?_ ?_ | refine rows_lt5 ?_ ?_ ?_ ?_ ?_ | refine ints_lt1 ?_ | refine ints_lt2 ?_ ?_ | refine ints_lt3 ?_ ?_ ?_ | refine rows_lt7 ?_ ?_ ?_ ?_ ?_ ?_ ?_ | refine aggs_lt1 ?_ | refine aggs_lt2 ?_ ?_ | refine aggs_lt3 ?_ ?_ ?_ | refine fun (_ : Nat) => ?_) | refine fun (_ : (_ : Nat) < _) => ?_ | exact rfl | exact Nat.le_of_ble_eq_true rfl | (change (_ : Nat) ≤ _; omega) | (change (_ : Nat) = _; omega) | (change (_ : Int) = _; omega))); (all_goals try (conv => whnf)))
end Go.Proofs.YtldlleoabbcpdaaDoor
