/- Modes: blocks in parts are as all at once. -/
import Derived.Test.YtaajedeapmphpaaA26
import Derived.Test.YtaajedeapmphpaaR1
namespace Go.Proofs.Ytaajedeapmphpaa
open Go.RowKit
set_option maxRecDepth 100000
set_option maxHeartbeats 20000000
attribute [local irreducible] xt rol8 aff pw lg sbx isx gm sbN isN xtN at32 mkB shB suB miB enc dec inv8 wdB midB eS nxF nxR nxB xorL mstp at8 lw
theorem blk_add (p : Nat → BitVec 8) (s i : Nat) : blk (fun x => p (16 * s + x)) i = blk p (s + i) := by
  funext j
  unfold blk
  exact congrArg p (by omega)
theorem mch_add (how : Nat) (bk : Bool) (nr : Nat) (w : Nat → BitVec 32) (v p : Nat → BitVec 8) (s : Nat) : ∀ i, mch how bk nr w (mch how bk nr w v p s) (fun x => p (16 * s + x)) i = mch how bk nr w v p (s + i)
  | 0 => rfl
  | i + 1 => by
    rw [mch, mch_add how bk nr w v p s i, blk_add, ← Nat.add_assoc, mch]
theorem mout_add (how : Nat) (bk : Bool) (nr : Nat) (w : Nat → BitVec 32) (v p : Nat → BitVec 8) (s x : Nat) : mout how bk nr w (mch how bk nr w v p s) (fun x => p (16 * s + x)) x = mout how bk nr w v p (16 * s + x) := by
  unfold mout mbl
  rw [mch_add, blk_add, show (16 * s + x) / 16 = s + x / 16 by omega, show (16 * s + x) % 16 = x % 16 by omega]
theorem same_two (f : Nat → BitVec 8) (a b n : Nat) (h : a + b = n) : lw (a + b) (at8 (lw a f ++ lw b (fun j => f (a + j)))) = lw n f := by
  subst h
  refine lw_eq.2 fun i hi => ?_
  rw [at8_app, lw_len]
  by_cases q : i < a
  · rw [if_pos q, at8_lw _ _ _ q]
  · rw [if_neg q, at8_lw _ _ _ (by omega)]
    exact congrArg f (by omega)
theorem kz (k : Nat → BitVec 8) : (fun x => k (0 + x)) = k := funext fun x => congrArg k (Nat.zero_add x)
theorem kz_w (k : Nat → BitVec 8) : at32 (ksch 8 fun x => k (0 + x)) = at32 (ksch 8 k) := by rw [kz]
theorem kz_at (j : Nat) (k : Nat → BitVec 8) : at32 (ksch 8 fun x => k (0 + x)) j = at32 (ksch 8 k) j := by rw [kz]
theorem mch_two (how : Nat) (bk : Bool) (nr : Nat) (w w' : Nat → BitVec 32) (v p : Nat → BitVec 8) (hw : w = w') (n s : Nat) (h : s ≤ n) : mch how bk nr w (mch how bk nr w v (fun x => p (0 + x)) ((16 * s - 0) / 16)) (fun x => p (16 * s + x)) ((16 * n - 16 * s) / 16) = mch how bk nr w' v p n := by
  subst hw
  rw [kz, show (16 * s - 0) / 16 = s by omega, show (16 * n - 16 * s) / 16 = n - s by omega, mch_add, show s + (n - s) = n by omega]
theorem mch_one (how : Nat) (bk : Bool) (nr : Nat) (w w' : Nat → BitVec 32) (v p : Nat → BitVec 8) (hw : w = w') (n : Nat) : mch how bk nr w v p (16 * n / 16) = mch how bk nr w' v p n := by
  subst hw
  rw [show 16 * n / 16 = n by omega]
theorem mch_zer (how : Nat) (bk : Bool) (nr : Nat) (w : Nat → BitVec 32) (v p : Nat → BitVec 8) : mch how bk nr w v p 0 = v := by rw [mch]
theorem mout_one (how : Nat) (bk : Bool) (nr : Nat) (w w' : Nat → BitVec 32) (v p : Nat → BitVec 8) (hw : w = w') (x : Nat) : mout how bk nr w v p x = mout how bk nr w' v p x := by rw [hw]
theorem mout_pz (how : Nat) (bk : Bool) (nr : Nat) (w w' : Nat → BitVec 32) (v p : Nat → BitVec 8) (hw : w = w') (x : Nat) : mout how bk nr w v (fun x => p (0 + x)) x = mout how bk nr w' v p x := by rw [hw, kz]
theorem mout_two (how : Nat) (bk : Bool) (nr : Nat) (w w' : Nat → BitVec 32) (v p : Nat → BitVec 8) (hw : w = w') (s x : Nat) : mout how bk nr w (mch how bk nr w v (fun x => p (0 + x)) ((16 * s - 0) / 16)) (fun x => p (16 * s + x)) x = mout how bk nr w' v p (16 * s + x) := by
  subst hw
  rw [kz, show (16 * s - 0) / 16 = s by omega, mout_add]
attribute [local irreducible] mch mout
def mozA : AV := .agg false 4 (nth .junk [.agg false 2 (nth .junk [.agg true 60 (wds fun _ => 0), .nat 0]), .nat 0, .bo false, arr8 16 fun _ => 0])
def rnA (how : Nat) (bk : Bool) (nr : Nat) (w : Nat → BitVec 32) (v : Nat → BitVec 8) (l : Nat) (p : Nat → BitVec 8) (K : AV → Prop) : Prop :=
  (l % 16 = 0 ∧ K (tupOf [moA how bk nr w (mch how bk nr w v p (l / 16)), bsf l (mout how bk nr w v p), .nat 0])) ∨ (¬ l % 16 = 0 ∧ K (tupOf [TM.zero, .nils, .nat 1]))
def C_RunA : SpecP := fun A K => ∃ how bk nr w v l p, A [moA how bk nr w v, bsl l p] ∧ 1 ≤ nr ∧ nr ≤ 14 ∧ l ≤ 1000000 ∧ rnA how bk nr w v l p K
def C_RunE : SpecP := fun A K => ∃ how bk nr w v l p, A [moA how bk nr w v, bsl l p] ∧ ¬ l % 16 = 0 ∧ l ≤ 1000000 ∧ K (tupOf [TM.zero, .nils, .nat 1])
theorem own_moz : Own TM.zero := by
  intro i hi
  rcases i with _ | _ | _ | _ | i
  · intro j hj
    rcases j with _ | _ | j
    · exact trivial
    · exact fun _ _ => trivial
    · exact absurd hj (by show ¬ j + 2 < 2; omega)
  · exact trivial
  · exact trivial
  · exact fun _ _ => trivial
  · exact absurd hi (by show ¬ i + 4 < 4; omega)
theorem g_mode_RunE : Gd 10 (pureP ty C_RunE) := by
  refine goodP (E := PG []) (pgOK trivial) mixes Try.func10 (by kernel_rfl) (by kernel_rfl) ?_
  rintro A K ⟨how, bk, nr, w, v, l, p, hA, h16, hl, hK⟩
  refine ⟨_, _, fun _ => none, hA, hK, by kernel_rfl, own_res3 ?_ trivial trivial, ?_⟩
  · exact own_moz
  repeat (first | ((conv => whnf); refine And.intro ?_ ?_; exact sideOf) | ((conv => whnf); refine And.intro (fun _ => ?_) (fun h => nomatch (show true = false from h))) | ((conv => whnf); refine And.intro (fun h => nomatch (show false = true from h)) (fun _ => ?_)) | ((conv => whnf); first | (apply Exists.intro; (repeat apply Exists.intro); refine And.intro ?_ ?_; exact leOf) | (refine Or.inl ?_; (conv => whnf); (repeat apply Exists.intro); refine And.intro ?_ ?_; exact leOf) | (refine Or.inr ?_; (conv => whnf); first | ((repeat apply Exists.intro); refine And.intro ?_ ?_; exact leOf) | (refine Or.inl ?_; (conv => whnf); (repeat apply Exists.intro); refine And.intro ?_ ?_; exact leOf) | (refine Or.inr ?_; (conv => whnf); (repeat apply Exists.intro); refine And.intro ?_ ?_; exact leOf))))
  all_goals try (conv => whnf)
  refine And.intro (fun _ => ?_) (dyes h16)
  repeat (first | ((conv => whnf); refine And.intro ?_ ?_; exact sideOf) | ((conv => whnf); refine And.intro (fun _ => ?_) (fun h => nomatch (show true = false from h))) | ((conv => whnf); refine And.intro (fun h => nomatch (show false = true from h)) (fun _ => ?_)) | ((conv => whnf); first | (apply Exists.intro; (repeat apply Exists.intro); refine And.intro ?_ ?_; exact leOf) | (refine Or.inl ?_; (conv => whnf); (repeat apply Exists.intro); refine And.intro ?_ ?_; exact leOf) | (refine Or.inr ?_; (conv => whnf); first | ((repeat apply Exists.intro); refine And.intro ?_ ?_; exact leOf) | (refine Or.inl ?_; (conv => whnf); (repeat apply Exists.intro); refine And.intro ?_ ?_; exact leOf) | (refine Or.inr ?_; (conv => whnf); (repeat apply Exists.intro); refine And.intro ?_ ?_; exact leOf))))
  all_goals try (conv => whnf)
  ((repeat' ((conv => whnf) <;> first | exact trivial | (with_reducible first | refine And.intro ?_ ?_ | refine rows_lt1 ?_ | refine rows_lt2 ?_ ?_ | refine rows_lt3 ?_ ?_ ?_ | refine rows_lt4 ?_ ?_ ?_ ?_ | refine rows_lt5 ?_ ?_ ?_ ?_ ?_ | refine aggs_lt1 ?_ | refine aggs_lt2 ?_ ?_ | refine aggs_lt3 ?_ ?_ ?_ | refine fun (_ : Nat) => ?_) | refine fun (_ : (_ : Nat) < _) => ?_ | exact rfl | exact Nat.le_of_ble_eq_true rfl | (change (_ : Nat) ≤ _; omega) | (change (_ : Nat) = _; omega) | (change (_ : Int) = _; omega))); (all_goals try (conv => whnf)))
theorem g_mode_RunA : Gd 10 (pureP ty C_RunA) := fun args m key K ⟨how, bk, nr, w, v, l, p, hA, h1, h14, hl, hK⟩ => by
  rcases hK with ⟨h, hK⟩ | ⟨h, hK⟩
  · exact g_mode_Run args m key K ⟨how, bk, nr, w, v, l / 16, p, (by rw [show 16 * (l / 16) = l by omega]; exact hA), h1, h14, by omega, (by rw [show 16 * (l / 16) = l by omega]; exact hK)⟩
  · exact g_mode_RunE args m key K ⟨how, bk, nr, w, v, l, p, hA, h, hl, hK⟩
def C_l4_ModeParts : SpecP := fun A K => ∃ k v l p x bk c, A [arr8 32 k, arr8 16 v, bsl l p, .u8 x, .bo bk, .u8 c] ∧ l ≤ maxLen ∧ K (.bo true)
def C_l4_ModeParts_y : SpecP := fun A K => ∃ k v l p x bk c, A [arr8 32 k, arr8 16 v, bsl l p, .u8 x, .bo bk, .u8 c] ∧ l ≤ maxLen ∧ min l 70 % 16 = 0 ∧ K (.bo true)
def C_l4_ModeParts_n : SpecP := fun A K => ∃ k v l p x bk c, A [arr8 32 k, arr8 16 v, bsl l p, .u8 x, .bo bk, .u8 c] ∧ l ≤ maxLen ∧ ¬ min l 70 % 16 = 0 ∧ K (.bo true)
/-- Behind so many blocks, one by one. -/
def L_l4_Parts (how : Nat) (bk : Bool) (v p : Nat → BitVec 8) (w : Nat → BitVec 32) (n s : Nat) : LI := ⟨Nat, (· ≤ n), fun i => [(2, bsf (16 * n) p), (7, .ptr TB 16 []), (14, .ptr TM 3144 []), (15, .nat 0), (22, bsf (16 * s) (mout how bk 14 w v p)), (24, .ptr TM 10320 []), (25, bsf (16 * n - 16 * s) (fun j => mout how bk 14 w v p (16 * s + j))), (27, .ptr TM 11328 []), (28, bsf (16 * n) (mout how bk 14 w v p)), (30, .ptr TM 12304 []), (31, .nat (16 * i))],
  fun i => [(16, .var TB (arr8 16 v)), (3144, .var TM (moA how bk 14 w v)), (10320, .var TM (moA how bk 14 w (mch how bk 14 w v p n))), (11328, .var TM (moA how bk 14 w (mch how bk 14 w v p n))), (12304, .var TM (moA how bk 14 w (mch how bk 14 w v p i)))], fun i => n - i, some, some⟩
theorem g_l4_ModeParts_y : Gd 3 (pureP ty C_l4_ModeParts_y) := by
  refine goodP (E := PG [(7, pureP ty C_l4_awake), (11, pureP ty C_l4_whole), (8, pureP ty C_mode_New8), (10, pureP ty C_RunA), (9, pureR ty C_r1_Cut), (13, pureP ty C_r1_Same), (14, pureR ty C_r1_Join_2), (12, pureP ty C_Step), (15, pureP ty C_mode_At)]) (pgOK ⟨g_l4_awake, g_l4_whole, g_mode_New8, g_mode_RunA, g_r1_Cut, g_r1_Same, g_r1_Join_2, g_mode_Step, g_mode_At, trivial⟩) mixes Try.func3 (by kernel_rfl) (by kernel_rfl) ?_
  rintro A K ⟨k, v, l, p, x, bk, c, hA, hl, h70, hK⟩
  have hx := hw3_le x
  have hm : maxLen = 9223372036854775807 := by decide
  refine ⟨_, _, loops [(16, L_l4_Parts (x % BitVec.ofInt 8 3).toNat bk v p (at32 (ksch 8 k)) (min (l / 16) 8) (min c.toNat (16 * min (l / 16) 8 / 16)))], hA, hK, by kernel_rfl, trivial, ?_⟩
  repeat (first | ((conv => whnf); refine And.intro ?_ ?_; exact sideOf) | ((conv => whnf); refine And.intro (fun _ => ?_) (fun h => nomatch (show true = false from h))) | ((conv => whnf); refine And.intro (fun h => nomatch (show false = true from h)) (fun _ => ?_)) | ((conv => whnf); first | (apply Exists.intro; (repeat apply Exists.intro); refine And.intro ?_ ?_; exact leOf) | (refine Or.inl ?_; (conv => whnf); (repeat apply Exists.intro); refine And.intro ?_ ?_; exact leOf) | (refine Or.inr ?_; (conv => whnf); first | ((repeat apply Exists.intro); refine And.intro ?_ ?_; exact leOf) | (refine Or.inl ?_; (conv => whnf); (repeat apply Exists.intro); refine And.intro ?_ ?_; exact leOf) | (refine Or.inr ?_; (conv => whnf); (repeat apply Exists.intro); refine And.intro ?_ ?_; exact leOf))))
  all_goals try (conv => whnf)
  refine And.intro (fun q => nbang q (beq_iff_eq.2 ((decide_eq_true (show (0 : Nat) = Int.toNat 0 from rfl)).trans (decide_eq_true (show min l (Int.toNat 70) % Int.toNat 16 = Int.toNat 0 from h70)).symm))) (fun _ => ?_)
  repeat (first | ((conv => whnf); refine And.intro ?_ ?_; exact sideOf) | ((conv => whnf); refine And.intro (fun _ => ?_) (fun h => nomatch (show true = false from h))) | ((conv => whnf); refine And.intro (fun h => nomatch (show false = true from h)) (fun _ => ?_)) | ((conv => whnf); first | (apply Exists.intro; (repeat apply Exists.intro); refine And.intro ?_ ?_; exact leOf) | (refine Or.inl ?_; (conv => whnf); (repeat apply Exists.intro); refine And.intro ?_ ?_; exact leOf) | (refine Or.inr ?_; (conv => whnf); first | ((repeat apply Exists.intro); refine And.intro ?_ ?_; exact leOf) | (refine Or.inl ?_; (conv => whnf); (repeat apply Exists.intro); refine And.intro ?_ ?_; exact leOf) | (refine Or.inr ?_; (conv => whnf); (repeat apply Exists.intro); refine And.intro ?_ ?_; exact leOf))))
  all_goals try (conv => whnf)
  refine Or.inl ⟨(show (16 * min c.toNat (16 * min (l / 16) 8 / 16) - 0) % 16 = 0 by omega), ?_⟩
  repeat (first | ((conv => whnf); refine And.intro ?_ ?_; exact sideOf) | ((conv => whnf); refine And.intro (fun _ => ?_) (fun h => nomatch (show true = false from h))) | ((conv => whnf); refine And.intro (fun h => nomatch (show false = true from h)) (fun _ => ?_)) | ((conv => whnf); first | (apply Exists.intro; (repeat apply Exists.intro); refine And.intro ?_ ?_; exact leOf) | (refine Or.inl ?_; (conv => whnf); (repeat apply Exists.intro); refine And.intro ?_ ?_; exact leOf) | (refine Or.inr ?_; (conv => whnf); first | ((repeat apply Exists.intro); refine And.intro ?_ ?_; exact leOf) | (refine Or.inl ?_; (conv => whnf); (repeat apply Exists.intro); refine And.intro ?_ ?_; exact leOf) | (refine Or.inr ?_; (conv => whnf); (repeat apply Exists.intro); refine And.intro ?_ ?_; exact leOf))))
  all_goals try (conv => whnf)
  refine Or.inl ⟨(show (16 * min (l / 16) 8 - 16 * min c.toNat (16 * min (l / 16) 8 / 16)) % 16 = 0 by omega), ?_⟩
  repeat (first | ((conv => whnf); refine And.intro ?_ ?_; exact sideOf) | ((conv => whnf); refine And.intro (fun _ => ?_) (fun h => nomatch (show true = false from h))) | ((conv => whnf); refine And.intro (fun h => nomatch (show false = true from h)) (fun _ => ?_)) | ((conv => whnf); first | (apply Exists.intro; (repeat apply Exists.intro); refine And.intro ?_ ?_; exact leOf) | (refine Or.inl ?_; (conv => whnf); (repeat apply Exists.intro); refine And.intro ?_ ?_; exact leOf) | (refine Or.inr ?_; (conv => whnf); first | ((repeat apply Exists.intro); refine And.intro ?_ ?_; exact leOf) | (refine Or.inl ?_; (conv => whnf); (repeat apply Exists.intro); refine And.intro ?_ ?_; exact leOf) | (refine Or.inr ?_; (conv => whnf); (repeat apply Exists.intro); refine And.intro ?_ ?_; exact leOf))))
  all_goals try (conv => whnf)
  refine Exists.intro (fun _ => True) (And.intro (Enter.mk (0 : Nat) (Nat.zero_le _) trivial ?_) (fun (i : Nat) (hi : i ≤ min (l / 16) 8) _ => ?_))
  · ((repeat' ((conv => whnf) <;> first | exact trivial | (with_reducible first | refine And.intro ?_ ?_ | refine rows_lt1 ?_ | refine rows_lt2 ?_ ?_ | refine rows_lt3 ?_ ?_ ?_ | refine rows_lt4 ?_ ?_ ?_ ?_ | refine rows_lt5 ?_ ?_ ?_ ?_ ?_ | refine aggs_lt1 ?_ | refine aggs_lt2 ?_ ?_ | refine aggs_lt3 ?_ ?_ ?_ | refine fun (_ : Nat) => ?_) | refine fun (_ : (_ : Nat) < _) => ?_ | exact rfl | exact Nat.le_of_ble_eq_true rfl | (change (_ : Nat) ≤ _; omega) | (change (_ : Nat) = _; omega) | (change (_ : Int) = _; omega))); (all_goals try (conv => whnf)))
    all_goals first
      | exact kz_at _ k
      | exact congrFun (mch_two _ bk 14 _ _ v p (kz_w k) (min (l / 16) 8) (min c.toNat (16 * min (l / 16) 8 / 16)) (by omega)) _
      | exact congrFun (mch_one _ bk 14 _ _ v p (kz_w k) (min (l / 16) 8)) _
      | exact congrFun (mch_zer _ bk 14 _ v p).symm _
      | exact mout_one _ bk 14 _ _ v p (kz_w k) _
      | exact mout_pz _ bk 14 _ _ v p (kz_w k) _
      | exact mout_two _ bk 14 _ _ v p (kz_w k) (min c.toNat (16 * min (l / 16) 8 / 16)) _
  repeat (first | ((conv => whnf); refine And.intro ?_ ?_; exact sideOf) | ((conv => whnf); refine And.intro (fun _ => ?_) (fun h => nomatch (show true = false from h))) | ((conv => whnf); refine And.intro (fun h => nomatch (show false = true from h)) (fun _ => ?_)) | ((conv => whnf); first | (apply Exists.intro; (repeat apply Exists.intro); refine And.intro ?_ ?_; exact leOf) | (refine Or.inl ?_; (conv => whnf); (repeat apply Exists.intro); refine And.intro ?_ ?_; exact leOf) | (refine Or.inr ?_; (conv => whnf); first | ((repeat apply Exists.intro); refine And.intro ?_ ?_; exact leOf) | (refine Or.inl ?_; (conv => whnf); (repeat apply Exists.intro); refine And.intro ?_ ?_; exact leOf) | (refine Or.inr ?_; (conv => whnf); (repeat apply Exists.intro); refine And.intro ?_ ?_; exact leOf))))
  all_goals try (conv => whnf)
  refine And.intro (fun h => ?_) (fun h => ?_)
  · have h : 16 * i < 16 * min (l / 16) 8 := of_decide_eq_true h
    repeat (first | ((conv => whnf); refine And.intro ?_ ?_; exact sideOf) | ((conv => whnf); refine And.intro (fun _ => ?_) (fun h => nomatch (show true = false from h))) | ((conv => whnf); refine And.intro (fun h => nomatch (show false = true from h)) (fun _ => ?_)) | ((conv => whnf); first | (apply Exists.intro; (repeat apply Exists.intro); refine And.intro ?_ ?_; exact leOf) | (refine Or.inl ?_; (conv => whnf); (repeat apply Exists.intro); refine And.intro ?_ ?_; exact leOf) | (refine Or.inr ?_; (conv => whnf); first | ((repeat apply Exists.intro); refine And.intro ?_ ?_; exact leOf) | (refine Or.inl ?_; (conv => whnf); (repeat apply Exists.intro); refine And.intro ?_ ?_; exact leOf) | (refine Or.inr ?_; (conv => whnf); (repeat apply Exists.intro); refine And.intro ?_ ?_; exact leOf))))
    all_goals try (conv => whnf)
    refine Again.mk (i + 1 : Nat) (show i + 1 ≤ min (l / 16) 8 by omega) trivial (show min (l / 16) 8 - (i + 1) < min (l / 16) 8 - i by omega) ?_
    ((repeat' ((conv => whnf) <;> first | exact trivial | (with_reducible first | refine And.intro ?_ ?_ | refine rows_lt1 ?_ | refine rows_lt2 ?_ ?_ | refine rows_lt3 ?_ ?_ ?_ | refine rows_lt4 ?_ ?_ ?_ ?_ | refine rows_lt5 ?_ ?_ ?_ ?_ ?_ | refine aggs_lt1 ?_ | refine aggs_lt2 ?_ ?_ | refine aggs_lt3 ?_ ?_ ?_ | refine fun (_ : Nat) => ?_) | refine fun (_ : (_ : Nat) < _) => ?_ | exact rfl | exact Nat.le_of_ble_eq_true rfl | (change (_ : Nat) ≤ _; omega) | (change (_ : Nat) = _; omega) | (change (_ : Int) = _; omega))); (all_goals try (conv => whnf)))
    all_goals exact congrFun (mch_step _ bk 14 _ v p i).symm _
  · have h : ¬ 16 * i < 16 * min (l / 16) 8 := of_decide_eq_false h
    obtain rfl : i = min (l / 16) 8 := by omega
    repeat (first | ((conv => whnf); refine And.intro ?_ ?_; exact sideOf) | ((conv => whnf); refine And.intro (fun _ => ?_) (fun h => nomatch (show true = false from h))) | ((conv => whnf); refine And.intro (fun h => nomatch (show false = true from h)) (fun _ => ?_)) | ((conv => whnf); first | (apply Exists.intro; (repeat apply Exists.intro); refine And.intro ?_ ?_; exact leOf) | (refine Or.inl ?_; (conv => whnf); (repeat apply Exists.intro); refine And.intro ?_ ?_; exact leOf) | (refine Or.inr ?_; (conv => whnf); first | ((repeat apply Exists.intro); refine And.intro ?_ ?_; exact leOf) | (refine Or.inl ?_; (conv => whnf); (repeat apply Exists.intro); refine And.intro ?_ ?_; exact leOf) | (refine Or.inr ?_; (conv => whnf); (repeat apply Exists.intro); refine And.intro ?_ ?_; exact leOf))))
    all_goals try (conv => whnf)
    refine And.intro (fun _ => ?_) (dyes (same_two _ (16 * min c.toNat (16 * min (l / 16) 8 / 16)) (16 * min (l / 16) 8 - 16 * min c.toNat (16 * min (l / 16) 8 / 16)) (16 * min (l / 16) 8) (by omega)))
    repeat (first | ((conv => whnf); refine And.intro ?_ ?_; exact sideOf) | ((conv => whnf); refine And.intro (fun _ => ?_) (fun h => nomatch (show true = false from h))) | ((conv => whnf); refine And.intro (fun h => nomatch (show false = true from h)) (fun _ => ?_)) | ((conv => whnf); first | (apply Exists.intro; (repeat apply Exists.intro); refine And.intro ?_ ?_; exact leOf) | (refine Or.inl ?_; (conv => whnf); (repeat apply Exists.intro); refine And.intro ?_ ?_; exact leOf) | (refine Or.inr ?_; (conv => whnf); first | ((repeat apply Exists.intro); refine And.intro ?_ ?_; exact leOf) | (refine Or.inl ?_; (conv => whnf); (repeat apply Exists.intro); refine And.intro ?_ ?_; exact leOf) | (refine Or.inr ?_; (conv => whnf); (repeat apply Exists.intro); refine And.intro ?_ ?_; exact leOf))))
    all_goals try (conv => whnf)
    refine And.intro (fun _ => ?_) (bad (eqB_agg fun _ _ => rfl))
    repeat (first | ((conv => whnf); refine And.intro ?_ ?_; exact sideOf) | ((conv => whnf); refine And.intro (fun _ => ?_) (fun h => nomatch (show true = false from h))) | ((conv => whnf); refine And.intro (fun h => nomatch (show false = true from h)) (fun _ => ?_)) | ((conv => whnf); first | (apply Exists.intro; (repeat apply Exists.intro); refine And.intro ?_ ?_; exact leOf) | (refine Or.inl ?_; (conv => whnf); (repeat apply Exists.intro); refine And.intro ?_ ?_; exact leOf) | (refine Or.inr ?_; (conv => whnf); first | ((repeat apply Exists.intro); refine And.intro ?_ ?_; exact leOf) | (refine Or.inl ?_; (conv => whnf); (repeat apply Exists.intro); refine And.intro ?_ ?_; exact leOf) | (refine Or.inr ?_; (conv => whnf); (repeat apply Exists.intro); refine And.intro ?_ ?_; exact leOf))))
    all_goals try (conv => whnf)
    refine And.intro (fun _ => ?_) (bad (eqB_agg fun _ _ => rfl))
    repeat (first | ((conv => whnf); refine And.intro ?_ ?_; exact sideOf) | ((conv => whnf); refine And.intro (fun _ => ?_) (fun h => nomatch (show true = false from h))) | ((conv => whnf); refine And.intro (fun h => nomatch (show false = true from h)) (fun _ => ?_)) | ((conv => whnf); first | (apply Exists.intro; (repeat apply Exists.intro); refine And.intro ?_ ?_; exact leOf) | (refine Or.inl ?_; (conv => whnf); (repeat apply Exists.intro); refine And.intro ?_ ?_; exact leOf) | (refine Or.inr ?_; (conv => whnf); first | ((repeat apply Exists.intro); refine And.intro ?_ ?_; exact leOf) | (refine Or.inl ?_; (conv => whnf); (repeat apply Exists.intro); refine And.intro ?_ ?_; exact leOf) | (refine Or.inr ?_; (conv => whnf); (repeat apply Exists.intro); refine And.intro ?_ ?_; exact leOf))))
    all_goals try (conv => whnf)
    exact eqB_agg fun _ _ => rfl
theorem g_l4_ModeParts_n : Gd 3 (pureP ty C_l4_ModeParts_n) := by
  refine goodP (E := PG [(7, pureP ty C_l4_awake), (11, pureP ty C_l4_whole), (8, pureP ty C_mode_New8), (10, pureP ty C_RunA), (9, pureR ty C_r1_Cut), (13, pureP ty C_r1_Same), (14, pureR ty C_r1_Join_2), (12, pureP ty C_Step), (15, pureP ty C_mode_At)]) (pgOK ⟨g_l4_awake, g_l4_whole, g_mode_New8, g_mode_RunA, g_r1_Cut, g_r1_Same, g_r1_Join_2, g_mode_Step, g_mode_At, trivial⟩) mixes Try.func3 (by kernel_rfl) (by kernel_rfl) ?_
  rintro A K ⟨k, v, l, p, x, bk, c, hA, hl, h70, hK⟩
  have hx := hw3_le x
  have hm : maxLen = 9223372036854775807 := by decide
  refine ⟨_, _, loops [(16, L_l4_Parts (x % BitVec.ofInt 8 3).toNat bk v p (at32 (ksch 8 k)) (min (l / 16) 8) (min c.toNat (16 * min (l / 16) 8 / 16)))], hA, hK, by kernel_rfl, trivial, ?_⟩
  repeat (first | ((conv => whnf); refine And.intro ?_ ?_; exact sideOf) | ((conv => whnf); refine And.intro (fun _ => ?_) (fun h => nomatch (show true = false from h))) | ((conv => whnf); refine And.intro (fun h => nomatch (show false = true from h)) (fun _ => ?_)) | ((conv => whnf); first | (apply Exists.intro; (repeat apply Exists.intro); refine And.intro ?_ ?_; exact leOf) | (refine Or.inl ?_; (conv => whnf); (repeat apply Exists.intro); refine And.intro ?_ ?_; exact leOf) | (refine Or.inr ?_; (conv => whnf); first | ((repeat apply Exists.intro); refine And.intro ?_ ?_; exact leOf) | (refine Or.inl ?_; (conv => whnf); (repeat apply Exists.intro); refine And.intro ?_ ?_; exact leOf) | (refine Or.inr ?_; (conv => whnf); (repeat apply Exists.intro); refine And.intro ?_ ?_; exact leOf))))
  all_goals try (conv => whnf)
  refine Or.inr ⟨h70, ?_⟩
  repeat (first | ((conv => whnf); refine And.intro ?_ ?_; exact sideOf) | ((conv => whnf); refine And.intro (fun _ => ?_) (fun h => nomatch (show true = false from h))) | ((conv => whnf); refine And.intro (fun h => nomatch (show false = true from h)) (fun _ => ?_)) | ((conv => whnf); first | (apply Exists.intro; (repeat apply Exists.intro); refine And.intro ?_ ?_; exact leOf) | (refine Or.inl ?_; (conv => whnf); (repeat apply Exists.intro); refine And.intro ?_ ?_; exact leOf) | (refine Or.inr ?_; (conv => whnf); first | ((repeat apply Exists.intro); refine And.intro ?_ ?_; exact leOf) | (refine Or.inl ?_; (conv => whnf); (repeat apply Exists.intro); refine And.intro ?_ ?_; exact leOf) | (refine Or.inr ?_; (conv => whnf); (repeat apply Exists.intro); refine And.intro ?_ ?_; exact leOf))))
  all_goals try (conv => whnf)
  refine And.intro (fun q => nbang q (beq_iff_eq.2 ((decide_eq_false (show ¬ (1 : Nat) = Int.toNat 0 by decide)).trans (decide_eq_false (show ¬ min l (Int.toNat 70) % Int.toNat 16 = Int.toNat 0 from h70)).symm))) (fun _ => ?_)
  repeat (first | ((conv => whnf); refine And.intro ?_ ?_; exact sideOf) | ((conv => whnf); refine And.intro (fun _ => ?_) (fun h => nomatch (show true = false from h))) | ((conv => whnf); refine And.intro (fun h => nomatch (show false = true from h)) (fun _ => ?_)) | ((conv => whnf); first | (apply Exists.intro; (repeat apply Exists.intro); refine And.intro ?_ ?_; exact leOf) | (refine Or.inl ?_; (conv => whnf); (repeat apply Exists.intro); refine And.intro ?_ ?_; exact leOf) | (refine Or.inr ?_; (conv => whnf); first | ((repeat apply Exists.intro); refine And.intro ?_ ?_; exact leOf) | (refine Or.inl ?_; (conv => whnf); (repeat apply Exists.intro); refine And.intro ?_ ?_; exact leOf) | (refine Or.inr ?_; (conv => whnf); (repeat apply Exists.intro); refine And.intro ?_ ?_; exact leOf))))
  all_goals try (conv => whnf)
  refine Or.inl ⟨(show (16 * min c.toNat (16 * min (l / 16) 8 / 16) - 0) % 16 = 0 by omega), ?_⟩
  repeat (first | ((conv => whnf); refine And.intro ?_ ?_; exact sideOf) | ((conv => whnf); refine And.intro (fun _ => ?_) (fun h => nomatch (show true = false from h))) | ((conv => whnf); refine And.intro (fun h => nomatch (show false = true from h)) (fun _ => ?_)) | ((conv => whnf); first | (apply Exists.intro; (repeat apply Exists.intro); refine And.intro ?_ ?_; exact leOf) | (refine Or.inl ?_; (conv => whnf); (repeat apply Exists.intro); refine And.intro ?_ ?_; exact leOf) | (refine Or.inr ?_; (conv => whnf); first | ((repeat apply Exists.intro); refine And.intro ?_ ?_; exact leOf) | (refine Or.inl ?_; (conv => whnf); (repeat apply Exists.intro); refine And.intro ?_ ?_; exact leOf) | (refine Or.inr ?_; (conv => whnf); (repeat apply Exists.intro); refine And.intro ?_ ?_; exact leOf))))
  all_goals try (conv => whnf)
  refine Or.inl ⟨(show (16 * min (l / 16) 8 - 16 * min c.toNat (16 * min (l / 16) 8 / 16)) % 16 = 0 by omega), ?_⟩
  repeat (first | ((conv => whnf); refine And.intro ?_ ?_; exact sideOf) | ((conv => whnf); refine And.intro (fun _ => ?_) (fun h => nomatch (show true = false from h))) | ((conv => whnf); refine And.intro (fun h => nomatch (show false = true from h)) (fun _ => ?_)) | ((conv => whnf); first | (apply Exists.intro; (repeat apply Exists.intro); refine And.intro ?_ ?_; exact leOf) | (refine Or.inl ?_; (conv => whnf); (repeat apply Exists.intro); refine And.intro ?_ ?_; exact leOf) | (refine Or.inr ?_; (conv => whnf); first | ((repeat apply Exists.intro); refine And.intro ?_ ?_; exact leOf) | (refine Or.inl ?_; (conv => whnf); (repeat apply Exists.intro); refine And.intro ?_ ?_; exact leOf) | (refine Or.inr ?_; (conv => whnf); (repeat apply Exists.intro); refine And.intro ?_ ?_; exact leOf))))
  all_goals try (conv => whnf)
  refine Exists.intro (fun _ => True) (And.intro (Enter.mk (0 : Nat) (Nat.zero_le _) trivial ?_) (fun (i : Nat) (hi : i ≤ min (l / 16) 8) _ => ?_))
  · ((repeat' ((conv => whnf) <;> first | exact trivial | (with_reducible first | refine And.intro ?_ ?_ | refine rows_lt1 ?_ | refine rows_lt2 ?_ ?_ | refine rows_lt3 ?_ ?_ ?_ | refine rows_lt4 ?_ ?_ ?_ ?_ | refine rows_lt5 ?_ ?_ ?_ ?_ ?_ | refine aggs_lt1 ?_ | refine aggs_lt2 ?_ ?_ | refine aggs_lt3 ?_ ?_ ?_ | refine fun (_ : Nat) => ?_) | refine fun (_ : (_ : Nat) < _) => ?_ | exact rfl | exact Nat.le_of_ble_eq_true rfl | (change (_ : Nat) ≤ _; omega) | (change (_ : Nat) = _; omega) | (change (_ : Int) = _; omega))); (all_goals try (conv => whnf)))
    all_goals first
      | exact kz_at _ k
      | exact congrFun (mch_two _ bk 14 _ _ v p (kz_w k) (min (l / 16) 8) (min c.toNat (16 * min (l / 16) 8 / 16)) (by omega)) _
      | exact congrFun (mch_one _ bk 14 _ _ v p (kz_w k) (min (l / 16) 8)) _
      | exact congrFun (mch_zer _ bk 14 _ v p).symm _
      | exact mout_one _ bk 14 _ _ v p (kz_w k) _
      | exact mout_pz _ bk 14 _ _ v p (kz_w k) _
      | exact mout_two _ bk 14 _ _ v p (kz_w k) (min c.toNat (16 * min (l / 16) 8 / 16)) _
  repeat (first | ((conv => whnf); refine And.intro ?_ ?_; exact sideOf) | ((conv => whnf); refine And.intro (fun _ => ?_) (fun h => nomatch (show true = false from h))) | ((conv => whnf); refine And.intro (fun h => nomatch (show false = true from h)) (fun _ => ?_)) | ((conv => whnf); first | (apply Exists.intro; (repeat apply Exists.intro); refine And.intro ?_ ?_; exact leOf) | (refine Or.inl ?_; (conv => whnf); (repeat apply Exists.intro); refine And.intro ?_ ?_; exact leOf) | (refine Or.inr ?_; (conv => whnf); first | ((repeat apply Exists.intro); refine And.intro ?_ ?_; exact leOf) | (refine Or.inl ?_; (conv => whnf); (repeat apply Exists.intro); refine And.intro ?_ ?_; exact leOf) | (refine Or.inr ?_; (conv => whnf); (repeat apply Exists.intro); refine And.intro ?_ ?_; exact leOf))))
  all_goals try (conv => whnf)
  refine And.intro (fun h => ?_) (fun h => ?_)
  · have h : 16 * i < 16 * min (l / 16) 8 := of_decide_eq_true h
    repeat (first | ((conv => whnf); refine And.intro ?_ ?_; exact sideOf) | ((conv => whnf); refine And.intro (fun _ => ?_) (fun h => nomatch (show true = false from h))) | ((conv => whnf); refine And.intro (fun h => nomatch (show false = true from h)) (fun _ => ?_)) | ((conv => whnf); first | (apply Exists.intro; (repeat apply Exists.intro); refine And.intro ?_ ?_; exact leOf) | (refine Or.inl ?_; (conv => whnf); (repeat apply Exists.intro); refine And.intro ?_ ?_; exact leOf) | (refine Or.inr ?_; (conv => whnf); first | ((repeat apply Exists.intro); refine And.intro ?_ ?_; exact leOf) | (refine Or.inl ?_; (conv => whnf); (repeat apply Exists.intro); refine And.intro ?_ ?_; exact leOf) | (refine Or.inr ?_; (conv => whnf); (repeat apply Exists.intro); refine And.intro ?_ ?_; exact leOf))))
    all_goals try (conv => whnf)
    refine Again.mk (i + 1 : Nat) (show i + 1 ≤ min (l / 16) 8 by omega) trivial (show min (l / 16) 8 - (i + 1) < min (l / 16) 8 - i by omega) ?_
    ((repeat' ((conv => whnf) <;> first | exact trivial | (with_reducible first | refine And.intro ?_ ?_ | refine rows_lt1 ?_ | refine rows_lt2 ?_ ?_ | refine rows_lt3 ?_ ?_ ?_ | refine rows_lt4 ?_ ?_ ?_ ?_ | refine rows_lt5 ?_ ?_ ?_ ?_ ?_ | refine aggs_lt1 ?_ | refine aggs_lt2 ?_ ?_ | refine aggs_lt3 ?_ ?_ ?_ | refine fun (_ : Nat) => ?_) | refine fun (_ : (_ : Nat) < _) => ?_ | exact rfl | exact Nat.le_of_ble_eq_true rfl | (change (_ : Nat) ≤ _; omega) | (change (_ : Nat) = _; omega) | (change (_ : Int) = _; omega))); (all_goals try (conv => whnf)))
    all_goals exact congrFun (mch_step _ bk 14 _ v p i).symm _
  · have h : ¬ 16 * i < 16 * min (l / 16) 8 := of_decide_eq_false h
    obtain rfl : i = min (l / 16) 8 := by omega
    repeat (first | ((conv => whnf); refine And.intro ?_ ?_; exact sideOf) | ((conv => whnf); refine And.intro (fun _ => ?_) (fun h => nomatch (show true = false from h))) | ((conv => whnf); refine And.intro (fun h => nomatch (show false = true from h)) (fun _ => ?_)) | ((conv => whnf); first | (apply Exists.intro; (repeat apply Exists.intro); refine And.intro ?_ ?_; exact leOf) | (refine Or.inl ?_; (conv => whnf); (repeat apply Exists.intro); refine And.intro ?_ ?_; exact leOf) | (refine Or.inr ?_; (conv => whnf); first | ((repeat apply Exists.intro); refine And.intro ?_ ?_; exact leOf) | (refine Or.inl ?_; (conv => whnf); (repeat apply Exists.intro); refine And.intro ?_ ?_; exact leOf) | (refine Or.inr ?_; (conv => whnf); (repeat apply Exists.intro); refine And.intro ?_ ?_; exact leOf))))
    all_goals try (conv => whnf)
    refine And.intro (fun _ => ?_) (dyes (same_two _ (16 * min c.toNat (16 * min (l / 16) 8 / 16)) (16 * min (l / 16) 8 - 16 * min c.toNat (16 * min (l / 16) 8 / 16)) (16 * min (l / 16) 8) (by omega)))
    repeat (first | ((conv => whnf); refine And.intro ?_ ?_; exact sideOf) | ((conv => whnf); refine And.intro (fun _ => ?_) (fun h => nomatch (show true = false from h))) | ((conv => whnf); refine And.intro (fun h => nomatch (show false = true from h)) (fun _ => ?_)) | ((conv => whnf); first | (apply Exists.intro; (repeat apply Exists.intro); refine And.intro ?_ ?_; exact leOf) | (refine Or.inl ?_; (conv => whnf); (repeat apply Exists.intro); refine And.intro ?_ ?_; exact leOf) | (refine Or.inr ?_; (conv => whnf); first | ((repeat apply Exists.intro); refine And.intro ?_ ?_; exact leOf) | (refine Or.inl ?_; (conv => whnf); (repeat apply Exists.intro); refine And.intro ?_ ?_; exact leOf) | (refine Or.inr ?_; (conv => whnf); (repeat apply Exists.intro); refine And.intro ?_ ?_; exact leOf))))
    all_goals try (conv => whnf)
    refine And.intro (fun _ => ?_) (bad (eqB_agg fun _ _ => rfl))
    repeat (first | ((conv => whnf); refine And.intro ?_ ?_; exact sideOf) | ((conv => whnf); refine And.intro (fun _ => ?_) (fun h => nomatch (show true = false from h))) | ((conv => whnf); refine And.intro (fun h => nomatch (show false = true from h)) (fun _ => ?_)) | ((conv => whnf); first | (apply Exists.intro; (repeat apply Exists.intro); refine And.intro ?_ ?_; exact leOf) | (refine Or.inl ?_; (conv => whnf); (repeat apply Exists.intro); refine And.intro ?_ ?_; exact leOf) | (refine Or.inr ?_; (conv => whnf); first | ((repeat apply Exists.intro); refine And.intro ?_ ?_; exact leOf) | (refine Or.inl ?_; (conv => whnf); (repeat apply Exists.intro); refine And.intro ?_ ?_; exact leOf) | (refine Or.inr ?_; (conv => whnf); (repeat apply Exists.intro); refine And.intro ?_ ?_; exact leOf))))
    all_goals try (conv => whnf)
    refine And.intro (fun _ => ?_) (bad (eqB_agg fun _ _ => rfl))
    repeat (first | ((conv => whnf); refine And.intro ?_ ?_; exact sideOf) | ((conv => whnf); refine And.intro (fun _ => ?_) (fun h => nomatch (show true = false from h))) | ((conv => whnf); refine And.intro (fun h => nomatch (show false = true from h)) (fun _ => ?_)) | ((conv => whnf); first | (apply Exists.intro; (repeat apply Exists.intro); refine And.intro ?_ ?_; exact leOf) | (refine Or.inl ?_; (conv => whnf); (repeat apply Exists.intro); refine And.intro ?_ ?_; exact leOf) | (refine Or.inr ?_; (conv => whnf); first | ((repeat apply Exists.intro); refine And.intro ?_ ?_; exact leOf) | (refine Or.inl ?_; (conv => whnf); (repeat apply Exists.intro); refine And.intro ?_ ?_; exact leOf) | (refine Or.inr ?_; (conv => whnf); (repeat apply Exists.intro); refine And.intro ?_ ?_; exact leOf))))
    all_goals try (conv => whnf)
    exact eqB_agg fun _ _ => rfl
theorem g_l4_ModeParts : Gd 3 (pureP ty C_l4_ModeParts) := fun args m key K ⟨k, v, l, p, x, bk, c, hA, hl, hK⟩ => by
  by_cases h : min l 70 % 16 = 0
  · exact g_l4_ModeParts_y args m key K ⟨k, v, l, p, x, bk, c, hA, hl, h, hK⟩
  · exact g_l4_ModeParts_n args m key K ⟨k, v, l, p, x, bk, c, hA, hl, h, hK⟩
end Go.Proofs.Ytaajedeapmphpaa
