/- Modes: forth and back. -/
import Derived.Test.YtaajedeapmphpaaA22
namespace Go.Proofs.Ytaajedeapmphpaa
open Go.RowKit
set_option maxRecDepth 100000
set_option maxHeartbeats 20000000
theorem back_step (how : Nat) (bk : Bool) (nr : Nat) (w : Nat → BitVec 32) (v b : Nat → BitVec 8) (h : how ≠ 1 ∨ bk = false) :
    q16 (mstp how (!bk) nr w v (mstp how bk nr w v b).2).2 b ∧ q16 (mstp how (!bk) nr w v (mstp how bk nr w v b).2).1 (mstp how bk nr w v b).1 := by
  by_cases h1 : how = 1
  · subst h1
    obtain rfl : bk = false := by rcases h with h | h; exact absurd rfl h; exact h
    rw [st_f]
    show q16 (fun j => dec nr w (enc nr w (fun j => b j ^^^ v j)) j ^^^ v j) b ∧ q16 (enc nr w (fun j => b j ^^^ v j)) (enc nr w (fun j => b j ^^^ v j))
    refine ⟨fun j hj => ?_, q16_rfl _⟩
    show dec nr w (enc nr w (fun j => b j ^^^ v j)) j ^^^ v j = b j
    rw [dec_enc nr w _ j hj, BitVec.xor_assoc, BitVec.xor_self, BitVec.xor_zero]
  by_cases h2 : how = 2
  · subst h2
    rw [st_t, st_t]
    refine ⟨fun j hj => ?_, q16_rfl _⟩
    show (b j ^^^ enc nr w v j) ^^^ enc nr w v j = b j
    rw [BitVec.xor_assoc, BitVec.xor_self, BitVec.xor_zero]
  · cases bk
    · rw [st_e _ _ _ _ _ h1 h2]
      show q16 (mstp how true nr w v (enc nr w b)).2 b ∧ q16 (mstp how true nr w v (enc nr w b)).1 v
      rw [st_d _ _ _ _ _ h1 h2]
      exact ⟨dec_enc nr w b, q16_rfl _⟩
    · rw [st_d _ _ _ _ _ h1 h2]
      show q16 (mstp how false nr w v (dec nr w b)).2 b ∧ q16 (mstp how false nr w v (dec nr w b)).1 v
      rw [st_e _ _ _ _ _ h1 h2]
      exact ⟨enc_dec nr w b, q16_rfl _⟩
theorem blk_out (how : Nat) (bk : Bool) (nr : Nat) (w : Nat → BitVec 32) (v p : Nat → BitVec 8) (i : Nat) : q16 (blk (mout how bk nr w v p) i) (mstp how bk nr w (mch how bk nr w v p i) (blk p i)).2 := fun j hj => mout_blk how bk nr w v p i j hj
theorem back_ch (how : Nat) (bk : Bool) (nr : Nat) (w : Nat → BitVec 32) (v p : Nat → BitVec 8) (h : how ≠ 1 ∨ bk = false) : ∀ i, q16 (mch how (!bk) nr w v (mout how bk nr w v p) i) (mch how bk nr w v p i)
  | 0 => q16_rfl _
  | i + 1 => by
    rw [mch_step, mch_step]
    exact q16_trans (mstp_c (back_ch how bk nr w v p h i) (blk_out how bk nr w v p i)).1 (back_step how bk nr w _ _ h).2
theorem back_out (how : Nat) (bk : Bool) (nr : Nat) (w : Nat → BitVec 32) (v p : Nat → BitVec 8) (h : how ≠ 1 ∨ bk = false) (x : Nat) : mout how (!bk) nr w v (mout how bk nr w v p) x = p x := by
  have hx : x % 16 < 16 := Nat.mod_lt _ (by omega)
  have e : x = 16 * (x / 16) + x % 16 := by omega
  have h1 := mout_blk how (!bk) nr w v (mout how bk nr w v p) (x / 16) (x % 16) hx
  rw [← e] at h1
  rw [h1, (mstp_c (back_ch how bk nr w v p h (x / 16)) (blk_out how bk nr w v p (x / 16))).2 _ hx, (back_step how bk nr w _ _ h).1 _ hx]
  unfold blk
  rw [← e]
theorem ctr_ch (nr : Nat) (w : Nat → BitVec 32) (v p : Nat → BitVec 8) : ∀ i, mch 2 true nr w v p i = mch 2 false nr w v p i
  | 0 => rfl
  | i + 1 => by rw [mch_step, mch_step, ctr_ch nr w v p i, st_t, st_t]
theorem ctr_out (nr : Nat) (w : Nat → BitVec 32) (v p : Nat → BitVec 8) : mout 2 true nr w v p = mout 2 false nr w v p := by
  funext x
  unfold mout mbl
  rw [ctr_ch, st_t, st_t]
attribute [local irreducible] xt rol8 aff pw lg sbx isx gm sbN isN xtN at32 mkB shB suB miB enc dec inv8 wdB midB eS nxF nxR nxB xorL mstp mch mout
def C_clone8 : SpecR := fun A K => ∃ l f, A [bsl l f] ∧ 0 < l ∧ l ≤ 100000000 ∧ K (.gsl 5 8 l) [(8, .grow 5 l (bys f))]
theorem g_clone8 : Gd 31 (pureR ty C_clone8) := by
  refine goodR (E := PG []) (pgOK trivial) mixes Try.func31 (by kernel_rfl) (by kernel_rfl) ?_
  rintro A K ⟨l, f, hA, h0, hl, hK⟩
  refine ⟨_, _, _, fun _ => none, hA, hK, by kernel_rfl, by kernel_rfl, ⟨fun _ _ => trivial, trivial⟩, trivial, ?_⟩
  repeat (first | ((conv => whnf); refine And.intro ?_ ?_; exact sideOf) | ((conv => whnf); refine And.intro (fun _ => ?_) (fun h => nomatch (show true = false from h))) | ((conv => whnf); refine And.intro (fun h => nomatch (show false = true from h)) (fun _ => ?_)) | ((conv => whnf); first | (apply Exists.intro; (repeat apply Exists.intro); refine And.intro ?_ ?_; exact leOf) | (refine Or.inl ?_; (conv => whnf); (repeat apply Exists.intro); refine And.intro ?_ ?_; exact leOf) | (refine Or.inr ?_; (conv => whnf); first | ((repeat apply Exists.intro); refine And.intro ?_ ?_; exact leOf) | (refine Or.inl ?_; (conv => whnf); (repeat apply Exists.intro); refine And.intro ?_ ?_; exact leOf) | (refine Or.inr ?_; (conv => whnf); (repeat apply Exists.intro); refine And.intro ?_ ?_; exact leOf))))
  all_goals try (conv => whnf)
  refine ⟨fun _ => some 2056, ?_⟩
  ((repeat' ((conv => whnf) <;> first | exact trivial | (with_reducible first | refine And.intro ?_ ?_ | refine rows_lt1 ?_ | refine rows_lt2 ?_ ?_ | refine rows_lt3 ?_ ?_ ?_ | refine rows_lt4 ?_ ?_ ?_ ?_ | refine rows_lt5 ?_ ?_ ?_ ?_ ?_ | refine aggs_lt1 ?_ | refine aggs_lt2 ?_ ?_ | refine aggs_lt3 ?_ ?_ ?_ | refine fun (_ : Nat) => ?_) | refine fun (_ : (_ : Nat) < _) => ?_ | exact rfl | exact Nat.le_of_ble_eq_true rfl | (change (_ : Nat) ≤ _; omega) | (change (_ : Nat) = _; omega) | (change (_ : Int) = _; omega))); (all_goals try (conv => whnf)))
def C_clone8_n : SpecP := fun A K => A [.nils] ∧ K .nils
theorem g_clone8_n : Gd 31 (pureP ty C_clone8_n) := by
  refine goodP (E := PG []) (pgOK trivial) mixes Try.func31 (by kernel_rfl) (by kernel_rfl) ?_
  rintro A K ⟨hA, hK⟩
  refine ⟨_, _, fun _ => none, hA, hK, by kernel_rfl, trivial, ?_⟩
  repeat (first | ((conv => whnf); refine And.intro ?_ ?_; exact sideOf) | ((conv => whnf); refine And.intro (fun _ => ?_) (fun h => nomatch (show true = false from h))) | ((conv => whnf); refine And.intro (fun h => nomatch (show false = true from h)) (fun _ => ?_)) | ((conv => whnf); first | (apply Exists.intro; (repeat apply Exists.intro); refine And.intro ?_ ?_; exact leOf) | (refine Or.inl ?_; (conv => whnf); (repeat apply Exists.intro); refine And.intro ?_ ?_; exact leOf) | (refine Or.inr ?_; (conv => whnf); first | ((repeat apply Exists.intro); refine And.intro ?_ ?_; exact leOf) | (refine Or.inl ?_; (conv => whnf); (repeat apply Exists.intro); refine And.intro ?_ ?_; exact leOf) | (refine Or.inr ?_; (conv => whnf); (repeat apply Exists.intro); refine And.intro ?_ ?_; exact leOf))))
  all_goals try (conv => whnf)
  ((repeat' ((conv => whnf) <;> first | exact trivial | (with_reducible first | refine And.intro ?_ ?_ | refine rows_lt1 ?_ | refine rows_lt2 ?_ ?_ | refine rows_lt3 ?_ ?_ ?_ | refine rows_lt4 ?_ ?_ ?_ ?_ | refine rows_lt5 ?_ ?_ ?_ ?_ ?_ | refine aggs_lt1 ?_ | refine aggs_lt2 ?_ ?_ | refine aggs_lt3 ?_ ?_ ?_ | refine fun (_ : Nat) => ?_) | refine fun (_ : (_ : Nat) < _) => ?_ | exact rfl | exact Nat.le_of_ble_eq_true rfl | (change (_ : Nat) ≤ _; omega) | (change (_ : Nat) = _; omega) | (change (_ : Int) = _; omega))); (all_goals try (conv => whnf)))
/-! ### Two modes behind one another -/
def al2 (how : Nat) (b1 b2 : Bool) (nr : Nat) (w : Nat → BitVec 32) (v p : Nat → BitVec 8) : Nat → Nat → BitVec 8
  | 0 => p
  | 1 => mout how b1 nr w v p
  | _ => mout how b2 nr w v (mout how b1 nr w v p)
abbrev mo2 (how : Nat) (b1 b2 : Bool) (nr : Nat) (w : Nat → BitVec 32) (v : Nat → BitVec 8) : AV := .imm false TM 2 (nth .junk [moA how b1 nr w v, moA how b2 nr w v])
def C_All2 : SpecP := fun A K => ∃ how b1 b2 nr w v n p, A [bsl (16 * n) p, mo2 how b1 b2 nr w v] ∧ 1 ≤ nr ∧ nr ≤ 14 ∧ 1 ≤ n ∧ n ≤ 1000000 ∧ K (tupOf [bsf (16 * n) (mout how b2 nr w v (mout how b1 nr w v p)), .nat 0])
def L_All2 (how : Nat) (b1 b2 : Bool) (nr : Nat) (w : Nat → BitVec 32) (v : Nat → BitVec 8) (n : Nat) (p : Nat → BitVec 8) : LI := .plain Nat (· ≤ 2) (fun k => [(6, bsf (16 * n) (al2 how b1 b2 nr w v p k)), (14, mo2 how b1 b2 nr w v), (15, .nat 2), (16, .nat k)]) (fun k => 2 - k)
theorem g_All2 : Gd 16 (pureP ty C_All2) := by
  refine goodP (E := PG [(31, pureR ty C_clone8), (10, pureP ty C_Run)]) (pgOK ⟨g_clone8, g_mode_Run, trivial⟩) mixes Try.func16 (by kernel_rfl) (by kernel_rfl) ?_
  rintro A K ⟨how, b1, b2, nr, w, v, n, p, hA, h1, h14, hn1, hn, hK⟩
  refine ⟨_, _, loops [(3, L_All2 how b1 b2 nr w v n p)], hA, hK, by kernel_rfl, own_res ⟨rfl, fun _ _ => trivial⟩ trivial, ?_⟩
  repeat (first | ((conv => whnf); refine And.intro ?_ ?_; exact sideOf) | ((conv => whnf); refine And.intro (fun _ => ?_) (fun h => nomatch (show true = false from h))) | ((conv => whnf); refine And.intro (fun h => nomatch (show false = true from h)) (fun _ => ?_)) | ((conv => whnf); first | (apply Exists.intro; (repeat apply Exists.intro); refine And.intro ?_ ?_; exact leOf) | (refine Or.inl ?_; (conv => whnf); (repeat apply Exists.intro); refine And.intro ?_ ?_; exact leOf) | (refine Or.inr ?_; (conv => whnf); first | ((repeat apply Exists.intro); refine And.intro ?_ ?_; exact leOf) | (refine Or.inl ?_; (conv => whnf); (repeat apply Exists.intro); refine And.intro ?_ ?_; exact leOf) | (refine Or.inr ?_; (conv => whnf); (repeat apply Exists.intro); refine And.intro ?_ ?_; exact leOf))))
  all_goals try (conv => whnf)
  refine Exists.intro (fun _ => True) (And.intro (Enter.mk (0 : Nat) (Nat.zero_le _) trivial ?_) (fun (k : Nat) (hk : k ≤ 2) _ => ?_))
  · ((repeat' ((conv => whnf) <;> first | exact trivial | (with_reducible first | refine And.intro ?_ ?_ | refine rows_lt1 ?_ | refine rows_lt2 ?_ ?_ | refine rows_lt3 ?_ ?_ ?_ | refine rows_lt4 ?_ ?_ ?_ ?_ | refine rows_lt5 ?_ ?_ ?_ ?_ ?_ | refine aggs_lt1 ?_ | refine aggs_lt2 ?_ ?_ | refine aggs_lt3 ?_ ?_ ?_ | refine fun (_ : Nat) => ?_) | refine fun (_ : (_ : Nat) < _) => ?_ | exact rfl | exact Nat.le_of_ble_eq_true rfl | (change (_ : Nat) ≤ _; omega) | (change (_ : Nat) = _; omega) | (change (_ : Int) = _; omega))); (all_goals try (conv => whnf)))
    all_goals
      rename_i x hx
      rcases x with _ | _ | x
      · ((repeat' ((conv => whnf) <;> first | exact trivial | (with_reducible first | refine And.intro ?_ ?_ | refine rows_lt1 ?_ | refine rows_lt2 ?_ ?_ | refine rows_lt3 ?_ ?_ ?_ | refine rows_lt4 ?_ ?_ ?_ ?_ | refine rows_lt5 ?_ ?_ ?_ ?_ ?_ | refine aggs_lt1 ?_ | refine aggs_lt2 ?_ ?_ | refine aggs_lt3 ?_ ?_ ?_ | refine fun (_ : Nat) => ?_) | refine fun (_ : (_ : Nat) < _) => ?_ | exact rfl | exact Nat.le_of_ble_eq_true rfl | (change (_ : Nat) ≤ _; omega) | (change (_ : Nat) = _; omega) | (change (_ : Int) = _; omega))); (all_goals try (conv => whnf)))
      · ((repeat' ((conv => whnf) <;> first | exact trivial | (with_reducible first | refine And.intro ?_ ?_ | refine rows_lt1 ?_ | refine rows_lt2 ?_ ?_ | refine rows_lt3 ?_ ?_ ?_ | refine rows_lt4 ?_ ?_ ?_ ?_ | refine rows_lt5 ?_ ?_ ?_ ?_ ?_ | refine aggs_lt1 ?_ | refine aggs_lt2 ?_ ?_ | refine aggs_lt3 ?_ ?_ ?_ | refine fun (_ : Nat) => ?_) | refine fun (_ : (_ : Nat) < _) => ?_ | exact rfl | exact Nat.le_of_ble_eq_true rfl | (change (_ : Nat) ≤ _; omega) | (change (_ : Nat) = _; omega) | (change (_ : Int) = _; omega))); (all_goals try (conv => whnf)))
      · exact absurd hx (by omega)
  repeat (first | ((conv => whnf); refine And.intro ?_ ?_; exact sideOf) | ((conv => whnf); refine And.intro (fun _ => ?_) (fun h => nomatch (show true = false from h))) | ((conv => whnf); refine And.intro (fun h => nomatch (show false = true from h)) (fun _ => ?_)) | ((conv => whnf); first | (apply Exists.intro; (repeat apply Exists.intro); refine And.intro ?_ ?_; exact leOf) | (refine Or.inl ?_; (conv => whnf); (repeat apply Exists.intro); refine And.intro ?_ ?_; exact leOf) | (refine Or.inr ?_; (conv => whnf); first | ((repeat apply Exists.intro); refine And.intro ?_ ?_; exact leOf) | (refine Or.inl ?_; (conv => whnf); (repeat apply Exists.intro); refine And.intro ?_ ?_; exact leOf) | (refine Or.inr ?_; (conv => whnf); (repeat apply Exists.intro); refine And.intro ?_ ?_; exact leOf))))
  all_goals try (conv => whnf)
  refine And.intro (fun h => ?_) (fun h => ?_)
  · have h := of_decide_eq_true h
    have h := show k < 2 from h
    rcases k with _ | _ | k
    · skip
      repeat (first | ((conv => whnf); refine And.intro ?_ ?_; exact sideOf) | ((conv => whnf); refine And.intro (fun _ => ?_) (fun h => nomatch (show true = false from h))) | ((conv => whnf); refine And.intro (fun h => nomatch (show false = true from h)) (fun _ => ?_)) | ((conv => whnf); first | (apply Exists.intro; (repeat apply Exists.intro); refine And.intro ?_ ?_; exact leOf) | (refine Or.inl ?_; (conv => whnf); (repeat apply Exists.intro); refine And.intro ?_ ?_; exact leOf) | (refine Or.inr ?_; (conv => whnf); first | ((repeat apply Exists.intro); refine And.intro ?_ ?_; exact leOf) | (refine Or.inl ?_; (conv => whnf); (repeat apply Exists.intro); refine And.intro ?_ ?_; exact leOf) | (refine Or.inr ?_; (conv => whnf); (repeat apply Exists.intro); refine And.intro ?_ ?_; exact leOf))))
      all_goals try (conv => whnf)
      refine Again.mk (1 : Nat) (show 1 ≤ 2 by omega) trivial (show 2 - 1 < 2 - 0 by omega) ?_
      ((repeat' ((conv => whnf) <;> first | exact trivial | (with_reducible first | refine And.intro ?_ ?_ | refine rows_lt1 ?_ | refine rows_lt2 ?_ ?_ | refine rows_lt3 ?_ ?_ ?_ | refine rows_lt4 ?_ ?_ ?_ ?_ | refine rows_lt5 ?_ ?_ ?_ ?_ ?_ | refine aggs_lt1 ?_ | refine aggs_lt2 ?_ ?_ | refine aggs_lt3 ?_ ?_ ?_ | refine fun (_ : Nat) => ?_) | refine fun (_ : (_ : Nat) < _) => ?_ | exact rfl | exact Nat.le_of_ble_eq_true rfl | (change (_ : Nat) ≤ _; omega) | (change (_ : Nat) = _; omega) | (change (_ : Int) = _; omega))); (all_goals try (conv => whnf)))
      all_goals
        rename_i x hx
        rcases x with _ | _ | x
        · ((repeat' ((conv => whnf) <;> first | exact trivial | (with_reducible first | refine And.intro ?_ ?_ | refine rows_lt1 ?_ | refine rows_lt2 ?_ ?_ | refine rows_lt3 ?_ ?_ ?_ | refine rows_lt4 ?_ ?_ ?_ ?_ | refine rows_lt5 ?_ ?_ ?_ ?_ ?_ | refine aggs_lt1 ?_ | refine aggs_lt2 ?_ ?_ | refine aggs_lt3 ?_ ?_ ?_ | refine fun (_ : Nat) => ?_) | refine fun (_ : (_ : Nat) < _) => ?_ | exact rfl | exact Nat.le_of_ble_eq_true rfl | (change (_ : Nat) ≤ _; omega) | (change (_ : Nat) = _; omega) | (change (_ : Int) = _; omega))); (all_goals try (conv => whnf)))
        · ((repeat' ((conv => whnf) <;> first | exact trivial | (with_reducible first | refine And.intro ?_ ?_ | refine rows_lt1 ?_ | refine rows_lt2 ?_ ?_ | refine rows_lt3 ?_ ?_ ?_ | refine rows_lt4 ?_ ?_ ?_ ?_ | refine rows_lt5 ?_ ?_ ?_ ?_ ?_ | refine aggs_lt1 ?_ | refine aggs_lt2 ?_ ?_ | refine aggs_lt3 ?_ ?_ ?_ | refine fun (_ : Nat) => ?_) | refine fun (_ : (_ : Nat) < _) => ?_ | exact rfl | exact Nat.le_of_ble_eq_true rfl | (change (_ : Nat) ≤ _; omega) | (change (_ : Nat) = _; omega) | (change (_ : Int) = _; omega))); (all_goals try (conv => whnf)))
        · exact absurd hx (by omega)
    · skip
      repeat (first | ((conv => whnf); refine And.intro ?_ ?_; exact sideOf) | ((conv => whnf); refine And.intro (fun _ => ?_) (fun h => nomatch (show true = false from h))) | ((conv => whnf); refine And.intro (fun h => nomatch (show false = true from h)) (fun _ => ?_)) | ((conv => whnf); first | (apply Exists.intro; (repeat apply Exists.intro); refine And.intro ?_ ?_; exact leOf) | (refine Or.inl ?_; (conv => whnf); (repeat apply Exists.intro); refine And.intro ?_ ?_; exact leOf) | (refine Or.inr ?_; (conv => whnf); first | ((repeat apply Exists.intro); refine And.intro ?_ ?_; exact leOf) | (refine Or.inl ?_; (conv => whnf); (repeat apply Exists.intro); refine And.intro ?_ ?_; exact leOf) | (refine Or.inr ?_; (conv => whnf); (repeat apply Exists.intro); refine And.intro ?_ ?_; exact leOf))))
      all_goals try (conv => whnf)
      refine Again.mk (2 : Nat) (show 2 ≤ 2 by omega) trivial (show 2 - 2 < 2 - 1 by omega) ?_
      ((repeat' ((conv => whnf) <;> first | exact trivial | (with_reducible first | refine And.intro ?_ ?_ | refine rows_lt1 ?_ | refine rows_lt2 ?_ ?_ | refine rows_lt3 ?_ ?_ ?_ | refine rows_lt4 ?_ ?_ ?_ ?_ | refine rows_lt5 ?_ ?_ ?_ ?_ ?_ | refine aggs_lt1 ?_ | refine aggs_lt2 ?_ ?_ | refine aggs_lt3 ?_ ?_ ?_ | refine fun (_ : Nat) => ?_) | refine fun (_ : (_ : Nat) < _) => ?_ | exact rfl | exact Nat.le_of_ble_eq_true rfl | (change (_ : Nat) ≤ _; omega) | (change (_ : Nat) = _; omega) | (change (_ : Int) = _; omega))); (all_goals try (conv => whnf)))
      all_goals
        rename_i x hx
        rcases x with _ | _ | x
        · ((repeat' ((conv => whnf) <;> first | exact trivial | (with_reducible first | refine And.intro ?_ ?_ | refine rows_lt1 ?_ | refine rows_lt2 ?_ ?_ | refine rows_lt3 ?_ ?_ ?_ | refine rows_lt4 ?_ ?_ ?_ ?_ | refine rows_lt5 ?_ ?_ ?_ ?_ ?_ | refine aggs_lt1 ?_ | refine aggs_lt2 ?_ ?_ | refine aggs_lt3 ?_ ?_ ?_ | refine fun (_ : Nat) => ?_) | refine fun (_ : (_ : Nat) < _) => ?_ | exact rfl | exact Nat.le_of_ble_eq_true rfl | (change (_ : Nat) ≤ _; omega) | (change (_ : Nat) = _; omega) | (change (_ : Int) = _; omega))); (all_goals try (conv => whnf)))
        · ((repeat' ((conv => whnf) <;> first | exact trivial | (with_reducible first | refine And.intro ?_ ?_ | refine rows_lt1 ?_ | refine rows_lt2 ?_ ?_ | refine rows_lt3 ?_ ?_ ?_ | refine rows_lt4 ?_ ?_ ?_ ?_ | refine rows_lt5 ?_ ?_ ?_ ?_ ?_ | refine aggs_lt1 ?_ | refine aggs_lt2 ?_ ?_ | refine aggs_lt3 ?_ ?_ ?_ | refine fun (_ : Nat) => ?_) | refine fun (_ : (_ : Nat) < _) => ?_ | exact rfl | exact Nat.le_of_ble_eq_true rfl | (change (_ : Nat) ≤ _; omega) | (change (_ : Nat) = _; omega) | (change (_ : Int) = _; omega))); (all_goals try (conv => whnf)))
        · exact absurd hx (by omega)
    · omega
  · have h := of_decide_eq_false h
    have h := show ¬ k < 2 from h
    obtain rfl : k = 2 := by omega
    repeat (first | ((conv => whnf); refine And.intro ?_ ?_; exact sideOf) | ((conv => whnf); refine And.intro (fun _ => ?_) (fun h => nomatch (show true = false from h))) | ((conv => whnf); refine And.intro (fun h => nomatch (show false = true from h)) (fun _ => ?_)) | ((conv => whnf); first | (apply Exists.intro; (repeat apply Exists.intro); refine And.intro ?_ ?_; exact leOf) | (refine Or.inl ?_; (conv => whnf); (repeat apply Exists.intro); refine And.intro ?_ ?_; exact leOf) | (refine Or.inr ?_; (conv => whnf); first | ((repeat apply Exists.intro); refine And.intro ?_ ?_; exact leOf) | (refine Or.inl ?_; (conv => whnf); (repeat apply Exists.intro); refine And.intro ?_ ?_; exact leOf) | (refine Or.inr ?_; (conv => whnf); (repeat apply Exists.intro); refine And.intro ?_ ?_; exact leOf))))
    all_goals try (conv => whnf)
    ((repeat' ((conv => whnf) <;> first | exact trivial | (with_reducible first | refine And.intro ?_ ?_ | refine rows_lt1 ?_ | refine rows_lt2 ?_ ?_ | refine rows_lt3 ?_ ?_ ?_ | refine rows_lt4 ?_ ?_ ?_ ?_ | refine rows_lt5 ?_ ?_ ?_ ?_ ?_ | refine aggs_lt1 ?_ | refine aggs_lt2 ?_ ?_ | refine aggs_lt3 ?_ ?_ ?_ | refine fun (_ : Nat) => ?_) | refine fun (_ : (_ : Nat) < _) => ?_ | exact rfl | exact Nat.le_of_ble_eq_true rfl | (change (_ : Nat) ≤ _; omega) | (change (_ : Nat) = _; omega) | (change (_ : Int) = _; omega))); (all_goals try (conv => whnf)))
end Go.Proofs.Ytaajedeapmphpaa
