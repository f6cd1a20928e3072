/- AES: schedules handed out; texts held against each other. -/
import Derived.Test.YtobilidppfmdkaaA8
namespace Go.Proofs.Ytobilidppfmdkaa
open Go.RowKit
set_option maxRecDepth 100000
set_option maxHeartbeats 20000000
attribute [local irreducible] xt rol8 aff pw lg sbx isx gm sbN isN xtN at32 mkB shB suB miB enc dec
theorem lw_eq {n : Nat} {f g : Nat → BitVec 8} : lw n f = lw n g ↔ ∀ i, i < n → f i = g i := by
  constructor
  · intro h i hi
    have := congrArg (at8 · i) h
    simpa [at8_lw _ _ _ hi] using this
  · exact lw_c8
def C_r1_Same : SpecP := fun A K => ∃ l b l' b', A [bsl l b, bsl l' b'] ∧ l ≤ maxLen ∧ K (.bo (decide (lw l b = lw l' b')))
def L_r1_Same (l : Nat) (b b' : Nat → BitVec 8) : LI := .plain Nat (fun k => k ≤ l ∧ ∀ i, i < k → b i = b' i) (fun k => [(0, bsl l b), (1, bsl l b'), (12, .nat l), (13, .nat k)]) (fun k => l - k)
theorem g_r1_Same : Gd 9 (pureP ty C_r1_Same) := by
  refine goodP (E := PG []) (pgOK trivial) mixes Try.func9 (by kernel_rfl) (by kernel_rfl) ?_
  rintro A K ⟨l, b, l', b', hA, hl, hK⟩
  refine ⟨_, _, loops [(4, L_r1_Same l b b')], hA, hK, by kernel_rfl, trivial, ?_⟩
  unfold maxLen at hl
  repeat (first | ((conv => whnf); refine And.intro ?_ ?_; exact sideOf) | ((conv => whnf); refine NilE.some ?_ ?_; exact sideOf) | ((conv => whnf); refine And.intro (fun _ => ?_) (fun h => nomatch (show true = false from h))) | ((conv => whnf); refine And.intro (fun h => nomatch (show false = true from h)) (fun _ => ?_)) | ((conv => whnf); first | (apply Exists.intro; (repeat apply Exists.intro); refine And.intro ?_ ?_; exact leOf) | (refine Or.inl ?_; (conv => whnf); (repeat apply Exists.intro); refine And.intro ?_ ?_; exact leOf) | (refine Or.inr ?_; (conv => whnf); first | ((repeat apply Exists.intro); refine And.intro ?_ ?_; exact leOf) | (refine Or.inl ?_; (conv => whnf); (repeat apply Exists.intro); refine And.intro ?_ ?_; exact leOf) | (refine Or.inr ?_; (conv => whnf); (repeat apply Exists.intro); refine And.intro ?_ ?_; exact leOf))))
  all_goals try (conv => whnf)
  refine And.intro (fun h => ?_) (fun h => ?_)
  · have h := of_decide_eq_true h
    repeat (first | ((conv => whnf); refine And.intro ?_ ?_; exact sideOf) | ((conv => whnf); refine NilE.some ?_ ?_; exact sideOf) | ((conv => whnf); refine And.intro (fun _ => ?_) (fun h => nomatch (show true = false from h))) | ((conv => whnf); refine And.intro (fun h => nomatch (show false = true from h)) (fun _ => ?_)) | ((conv => whnf); first | (apply Exists.intro; (repeat apply Exists.intro); refine And.intro ?_ ?_; exact leOf) | (refine Or.inl ?_; (conv => whnf); (repeat apply Exists.intro); refine And.intro ?_ ?_; exact leOf) | (refine Or.inr ?_; (conv => whnf); first | ((repeat apply Exists.intro); refine And.intro ?_ ?_; exact leOf) | (refine Or.inl ?_; (conv => whnf); (repeat apply Exists.intro); refine And.intro ?_ ?_; exact leOf) | (refine Or.inr ?_; (conv => whnf); (repeat apply Exists.intro); refine And.intro ?_ ?_; exact leOf))))
    all_goals try (conv => whnf)
    exact (decide_eq_false (fun e => h (by simpa [lw_len] using congrArg List.length e))).symm
  · have h : l = l' := Decidable.of_not_not (of_decide_eq_false h)
    subst h
    repeat (first | ((conv => whnf); refine And.intro ?_ ?_; exact sideOf) | ((conv => whnf); refine NilE.some ?_ ?_; exact sideOf) | ((conv => whnf); refine And.intro (fun _ => ?_) (fun h => nomatch (show true = false from h))) | ((conv => whnf); refine And.intro (fun h => nomatch (show false = true from h)) (fun _ => ?_)) | ((conv => whnf); first | (apply Exists.intro; (repeat apply Exists.intro); refine And.intro ?_ ?_; exact leOf) | (refine Or.inl ?_; (conv => whnf); (repeat apply Exists.intro); refine And.intro ?_ ?_; exact leOf) | (refine Or.inr ?_; (conv => whnf); first | ((repeat apply Exists.intro); refine And.intro ?_ ?_; exact leOf) | (refine Or.inl ?_; (conv => whnf); (repeat apply Exists.intro); refine And.intro ?_ ?_; exact leOf) | (refine Or.inr ?_; (conv => whnf); (repeat apply Exists.intro); refine And.intro ?_ ?_; exact leOf))))
    all_goals try (conv => whnf)
    refine Exists.intro (fun _ => True) (And.intro (Enter.mk (0 : Nat) ⟨Nat.zero_le _, fun i hi => absurd hi (Nat.not_lt_zero i)⟩ trivial ?_) (fun (k : Nat) (hk : k ≤ l ∧ ∀ i, i < k → b i = b' i) _ => ?_))
    · ((repeat' ((conv => whnf) <;> first | exact trivial | (with_reducible first | refine And.intro ?_ ?_ | refine rows_lt1 ?_ | refine rows_lt2 ?_ ?_ | refine rows_lt3 ?_ ?_ ?_ | refine rows_lt4 ?_ ?_ ?_ ?_ | refine rows_lt5 ?_ ?_ ?_ ?_ ?_ | refine aggs_lt1 ?_ | refine aggs_lt2 ?_ ?_ | refine aggs_lt3 ?_ ?_ ?_ | refine fun (_ : Nat) => ?_) | refine fun (_ : (_ : Nat) < _) => ?_ | exact rfl | exact Nat.le_of_ble_eq_true rfl | (change (_ : Nat) ≤ _; omega) | (change (_ : Nat) = _; omega) | (change (_ : Int) = _; omega))); (all_goals try (conv => whnf)))
    repeat (first | ((conv => whnf); refine And.intro ?_ ?_; exact sideOf) | ((conv => whnf); refine NilE.some ?_ ?_; exact sideOf) | ((conv => whnf); refine And.intro (fun _ => ?_) (fun h => nomatch (show true = false from h))) | ((conv => whnf); refine And.intro (fun h => nomatch (show false = true from h)) (fun _ => ?_)) | ((conv => whnf); first | (apply Exists.intro; (repeat apply Exists.intro); refine And.intro ?_ ?_; exact leOf) | (refine Or.inl ?_; (conv => whnf); (repeat apply Exists.intro); refine And.intro ?_ ?_; exact leOf) | (refine Or.inr ?_; (conv => whnf); first | ((repeat apply Exists.intro); refine And.intro ?_ ?_; exact leOf) | (refine Or.inl ?_; (conv => whnf); (repeat apply Exists.intro); refine And.intro ?_ ?_; exact leOf) | (refine Or.inr ?_; (conv => whnf); (repeat apply Exists.intro); refine And.intro ?_ ?_; exact leOf))))
    all_goals try (conv => whnf)
    refine And.intro (fun h => ?_) (fun h => ?_)
    · have h := of_decide_eq_true h
      repeat (first | ((conv => whnf); refine And.intro ?_ ?_; exact sideOf) | ((conv => whnf); refine NilE.some ?_ ?_; exact sideOf) | ((conv => whnf); refine And.intro (fun _ => ?_) (fun h => nomatch (show true = false from h))) | ((conv => whnf); refine And.intro (fun h => nomatch (show false = true from h)) (fun _ => ?_)) | ((conv => whnf); first | (apply Exists.intro; (repeat apply Exists.intro); refine And.intro ?_ ?_; exact leOf) | (refine Or.inl ?_; (conv => whnf); (repeat apply Exists.intro); refine And.intro ?_ ?_; exact leOf) | (refine Or.inr ?_; (conv => whnf); first | ((repeat apply Exists.intro); refine And.intro ?_ ?_; exact leOf) | (refine Or.inl ?_; (conv => whnf); (repeat apply Exists.intro); refine And.intro ?_ ?_; exact leOf) | (refine Or.inr ?_; (conv => whnf); (repeat apply Exists.intro); refine And.intro ?_ ?_; exact leOf))))
      all_goals try (conv => whnf)
      refine And.intro (fun h2 => ?_) (fun h2 => ?_)
      · have h2 := of_decide_eq_true h2
        repeat (first | ((conv => whnf); refine And.intro ?_ ?_; exact sideOf) | ((conv => whnf); refine NilE.some ?_ ?_; exact sideOf) | ((conv => whnf); refine And.intro (fun _ => ?_) (fun h => nomatch (show true = false from h))) | ((conv => whnf); refine And.intro (fun h => nomatch (show false = true from h)) (fun _ => ?_)) | ((conv => whnf); first | (apply Exists.intro; (repeat apply Exists.intro); refine And.intro ?_ ?_; exact leOf) | (refine Or.inl ?_; (conv => whnf); (repeat apply Exists.intro); refine And.intro ?_ ?_; exact leOf) | (refine Or.inr ?_; (conv => whnf); first | ((repeat apply Exists.intro); refine And.intro ?_ ?_; exact leOf) | (refine Or.inl ?_; (conv => whnf); (repeat apply Exists.intro); refine And.intro ?_ ?_; exact leOf) | (refine Or.inr ?_; (conv => whnf); (repeat apply Exists.intro); refine And.intro ?_ ?_; exact leOf))))
        all_goals try (conv => whnf)
        exact (decide_eq_false (fun e => h2 (lw_eq.1 e k h))).symm
      · have h2 := Decidable.of_not_not (of_decide_eq_false h2)
        repeat (first | ((conv => whnf); refine And.intro ?_ ?_; exact sideOf) | ((conv => whnf); refine NilE.some ?_ ?_; exact sideOf) | ((conv => whnf); refine And.intro (fun _ => ?_) (fun h => nomatch (show true = false from h))) | ((conv => whnf); refine And.intro (fun h => nomatch (show false = true from h)) (fun _ => ?_)) | ((conv => whnf); first | (apply Exists.intro; (repeat apply Exists.intro); refine And.intro ?_ ?_; exact leOf) | (refine Or.inl ?_; (conv => whnf); (repeat apply Exists.intro); refine And.intro ?_ ?_; exact leOf) | (refine Or.inr ?_; (conv => whnf); first | ((repeat apply Exists.intro); refine And.intro ?_ ?_; exact leOf) | (refine Or.inl ?_; (conv => whnf); (repeat apply Exists.intro); refine And.intro ?_ ?_; exact leOf) | (refine Or.inr ?_; (conv => whnf); (repeat apply Exists.intro); refine And.intro ?_ ?_; exact leOf))))
        all_goals try (conv => whnf)
        refine Again.mk (k + 1 : Nat) ⟨by omega, fun i hi => ?_⟩ trivial (show l - (k + 1) < l - k by omega) ?_
        · by_cases e : i = k
          · rw [e]; exact h2
          · exact hk.2 i (by omega)
        ((repeat' ((conv => whnf) <;> first | exact trivial | (with_reducible first | refine And.intro ?_ ?_ | refine rows_lt1 ?_ | refine rows_lt2 ?_ ?_ | refine rows_lt3 ?_ ?_ ?_ | refine rows_lt4 ?_ ?_ ?_ ?_ | refine rows_lt5 ?_ ?_ ?_ ?_ ?_ | refine aggs_lt1 ?_ | refine aggs_lt2 ?_ ?_ | refine aggs_lt3 ?_ ?_ ?_ | refine fun (_ : Nat) => ?_) | refine fun (_ : (_ : Nat) < _) => ?_ | exact rfl | exact Nat.le_of_ble_eq_true rfl | (change (_ : Nat) ≤ _; omega) | (change (_ : Nat) = _; omega) | (change (_ : Int) = _; omega))); (all_goals try (conv => whnf)))
    · have h := of_decide_eq_false h
      have : k = l := by omega
      subst this
      repeat (first | ((conv => whnf); refine And.intro ?_ ?_; exact sideOf) | ((conv => whnf); refine NilE.some ?_ ?_; exact sideOf) | ((conv => whnf); refine And.intro (fun _ => ?_) (fun h => nomatch (show true = false from h))) | ((conv => whnf); refine And.intro (fun h => nomatch (show false = true from h)) (fun _ => ?_)) | ((conv => whnf); first | (apply Exists.intro; (repeat apply Exists.intro); refine And.intro ?_ ?_; exact leOf) | (refine Or.inl ?_; (conv => whnf); (repeat apply Exists.intro); refine And.intro ?_ ?_; exact leOf) | (refine Or.inr ?_; (conv => whnf); first | ((repeat apply Exists.intro); refine And.intro ?_ ?_; exact leOf) | (refine Or.inl ?_; (conv => whnf); (repeat apply Exists.intro); refine And.intro ?_ ?_; exact leOf) | (refine Or.inr ?_; (conv => whnf); (repeat apply Exists.intro); refine And.intro ?_ ?_; exact leOf))))
      all_goals try (conv => whnf)
      exact (decide_eq_true (lw_eq.2 hk.2)).symm
def C_clone32 : SpecR := fun A K => ∃ l f, A [.imm false (.int .u32) l (wds f)] ∧ 0 < l ∧ l ≤ 1000000 ∧ K (.gsl 22 8 l) [(8, .grow 22 l (wds f))]
def C_aes_Key_Words : SpecR := fun A K => ∃ nr w, A [kyA nr w] ∧ 1 ≤ nr ∧ nr ≤ 14 ∧ K (.gsl 22 8 (4 * nr + 4)) [(8, .grow 22 (4 * nr + 4) (wds w))]
def C_aes_Key_Words_n : SpecP := fun A K => ∃ w, A [kyA 0 w] ∧ K .nils
/-! ### Schedules -/
theorem valN_val (b : Nat → BitVec 8) : ∀ k, valN b k = val (lw k b)
  | 0 => by unfold valN; rfl
  | k + 1 => by
    have e : valN b (k + 1) = 256 * valN b k + (b k).setWidth 64 := by rw [valN]
    rw [e, valN_val b k, lw_succ]; simp [val]
theorem word_val (b : Nat → BitVec 8) : (wordAt b 0).setWidth 64 = valN b 4 := by
  rw [valN_val]
  exact w4_val64 (b 0) (b 1) (b 2) (b 3)
theorem ke_at (nk : Nat) (L : List (BitVec 32)) (i j : Nat) (hi : i < L.length + j) : ∀ n, at32 (ke nk L (j + n)) i = at32 (ke nk L j) i
  | 0 => rfl
  | n + 1 => by
    have hl := ke_len nk L (j + n)
    rw [← Nat.add_assoc, ke, ← at32_snoc _ _ i _ hl, if_neg (by omega), ke_at nk L i j hi n]
theorem ksch_at (nk : Nat) (b : Nat → BitVec 8) (i j : Nat) (hi : i < nk + j) (hj : j ≤ 3 * nk + 28) : at32 (ksch nk b) i = at32 (ke nk (kfirst nk b) j) i := by
  have := ke_at nk (kfirst nk b) i j (by rw [kfirst_len]; exact hi) (3 * nk + 28 - j)
  rw [show j + (3 * nk + 28 - j) = 3 * nk + 28 by omega] at this
  unfold ksch
  exact this
theorem ksch_first (nk : Nat) (b : Nat → BitVec 8) (i : Nat) (hi : i < nk) : at32 (ksch nk b) i = wordAt (fun t => b (4 * i + t)) 0 := by
  rw [ksch_at nk b i 0 (by omega) (by omega), ke, kfirst, at32_lw _ _ _ hi]
theorem ksch_rec (nk : Nat) (b : Nat → BitVec 8) (i : Nat) (h1 : nk ≤ i) (h2 : i < 4 * nk + 28) (h0 : 0 < nk) : at32 (ksch nk b) i = at32 (ksch nk b) (i - nk) ^^^ kmid i nk (at32 (ksch nk b) (i - 1)) := by
  obtain ⟨j, rfl⟩ : ∃ j, i = nk + j := ⟨i - nk, by omega⟩
  have hl : (ke nk (kfirst nk b) j).length = nk + j := by rw [ke_len, kfirst_len]
  rw [ksch_at nk b (nk + j) (j + 1) (by omega) (by omega), ksch_at nk b (nk + j - nk) j (by omega) (by omega), ksch_at nk b (nk + j - 1) j (by omega) (by omega), ke, ← at32_snoc _ _ _ _ hl, if_pos rfl, knx, hl]
theorem word_inj (b c : Nat → BitVec 8) (h : wordAt b 0 = wordAt c 0) : ∀ t, t < 4 → b t = c t := by
  have h1 := congrArg (fun x => x.setWidth 64) h
  simp only [word_val] at h1
  rw [valN_val, valN_val] at h1
  have e : be (val (lw 4 b)) 4 = be (val (lw 4 c)) 4 := congrArg (fun x => be x 4) h1
  rw [show val (lw 4 b) = val [b 0, b 1, b 2, b 3] from rfl, show val (lw 4 c) = val [c 0, c 1, c 2, c 3] from rfl, ← w4_val64, ← w4_val64, be_w4, be_w4] at e
  intro t ht
  simp only [List.cons.injEq, and_true] at e
  rcases t with _ | _ | _ | _ | t
  · exact e.1
  · exact e.2.1
  · exact e.2.2.1
  · exact e.2.2.2
  · omega
def al (w x : Nat → BitVec 32) (k : Nat) : Bool := decide (∀ i, i < k → w i = x i)
theorem al_zero (w x : Nat → BitVec 32) : al w x 0 = true := decide_eq_true fun i hi => absurd hi (Nat.not_lt_zero i)
theorem al_step (w x : Nat → BitVec 32) (k : Nat) : (al w x k && decide (w k = x k)) = al w x (k + 1) := by
  unfold al
  rw [Bool.eq_iff_iff, Bool.and_eq_true, decide_eq_true_iff, decide_eq_true_iff, decide_eq_true_iff]
  constructor
  · rintro ⟨h1, h2⟩ i hi
    by_cases h : i = k
    · rw [h]; exact h2
    · exact h1 i (by omega)
  · exact fun h => ⟨fun i hi => h i (by omega), h k (by omega)⟩
theorem al_same (nk : Nat) (p q : Nat → BitVec 8) (h0 : 0 < nk) : (al (at32 (ksch nk p)) (at32 (ksch nk q)) (4 * nk + 28) == decide (lw (4 * nk) p = lw (4 * nk) q)) = true := by
  rw [beq_iff_eq]
  unfold al
  rw [Bool.eq_iff_iff, decide_eq_true_iff, decide_eq_true_iff, lw_eq]
  constructor
  · intro h j hj
    have := h (j / 4) (by omega)
    rw [ksch_first nk p _ (by omega), ksch_first nk q _ (by omega)] at this
    have := word_inj _ _ this (j % 4) (by omega)
    rw [show 4 * (j / 4) + j % 4 = j by omega] at this
    exact this
  · intro h i _
    rw [ksch_c h]
theorem ksch_plain (nk : Nat) (b : Nat → BitVec 8) (i : Nat) (h1 : nk ≤ i) (h2 : i < 4 * nk + 28) (h0 : 0 < nk) (g0 : i % nk ≠ 0) (g4 : i % nk ≠ 4) : at32 (ksch nk b) i = at32 (ksch nk b) ((i : Int) - (nk : Int)).toNat ^^^ at32 (ksch nk b) ((i : Int) - ((Int.toNat 1 : Nat) : Int)).toNat := by
  rw [show ((i : Int) - (nk : Int)).toNat = i - nk by omega, show ((i : Int) - ((Int.toNat 1 : Nat) : Int)).toNat = i - 1 by simp only [Int.reduceToNat]; omega, ksch_rec nk b i h1 h2 h0]
  unfold kmid
  rw [if_neg g0, if_neg g4]
def L_l3_AesSchedules (nk : Nat) (p q : Nat → BitVec 8) : LI := ⟨Nat, (· ≤ 4 * nk + 28), fun k => [(7, bsf (4 * nk) p), (8, bsf (4 * nk) q), (13, .nat nk), (14, .gsl 22 6160 (4 * nk + 28)), (15, .gsl 22 6176 (4 * nk + 28)), (16, .bo (al (at32 (ksch nk p)) (at32 (ksch nk q)) k)), (57, .gsl 22 6160 (4 * nk + 28)), (58, .nat (4 * nk + 28)), (59, .nat k)],
  fun k => [(6160, .grow 22 (4 * nk + 28) (wds (at32 (ksch nk p)))), (6176, .grow 22 (4 * nk + 28) (wds (at32 (ksch nk q))))], fun k => 4 * nk + 28 - k, some, some⟩
def L_l3_AesSchedules_j (nk : Nat) (p q : Nat → BitVec 8) : LI := ⟨Nat, (· < 4 * nk + 28), fun k => [(7, bsf (4 * nk) p), (8, bsf (4 * nk) q), (13, .nat nk), (14, .gsl 22 6160 (4 * nk + 28)), (15, .gsl 22 6176 (4 * nk + 28)), (16, .bo (al (at32 (ksch nk p)) (at32 (ksch nk q)) (k + 1))), (17, .nat k), (18, .u32 (at32 (ksch nk p) k)), (57, .gsl 22 6160 (4 * nk + 28)), (58, .nat (4 * nk + 28)), (59, .nat k)],
  fun k => [(6160, .grow 22 (4 * nk + 28) (wds (at32 (ksch nk p)))), (6176, .grow 22 (4 * nk + 28) (wds (at32 (ksch nk q))))], fun k => 0, some, some⟩
end Go.Proofs.Ytobilidppfmdkaa
